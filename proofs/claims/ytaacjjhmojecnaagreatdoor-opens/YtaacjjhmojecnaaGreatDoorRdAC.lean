/- Texts joined: RdA, RdB, RdC. -/
import Derived.Test.YtaacjjhmojecnaaGreatDoorRefOpen
import Derived.Test.YtaacjjhmojecnaaGreatDoorDoor
import Derived.Test.YtaacjjhmojecnaaGreatDoorShelfB
import Derived.Laws.Bits128
import Derived.Laws.BitsAllLaws
namespace Go.Proofs.YtaacjjhmojecnaaGreatDoor
open Go.RowKit Go.ScT Go.Proofs

/-- The variables that hold the fixed errors: the first is ErrLong. -/
abbrev sentL : List Nat := [0, 2, 3, 4, 5, 6, 8]
/-- The fixed errors in memory: A k is where the one lies that variable k holds. -/
structure Sent (w : World) (A : Nat → Addr) (base : Nat) : Prop where
  low : 12 ≤ base
  size : base ≤ w.heap.size
  cell : ∀ k ∈ sentL, w.cell? ⟨k, 0, none⟩ = some (.iface 404 (.pointer (some (A k))))
  obj : ∀ k ∈ sentL, (A k).block < base ∧ ∃ ca ta, w.heap[(A k).block]? = some (.cells ca ta (0, 0))
  ne : ∀ k ∈ sentL, k ≠ 0 → A k ≠ A 0
  tab : Lib.TabIs Tryz.prog w "internal/strconv.uint64pow10" .u64 Lib.pow10Tab
  ety : w.cell? ⟨1, 0, none⟩ = some (.iface 298 (.agg #[.pointer (some ⟨12, 70, none⟩)]))
theorem pow10_at : Tryz.prog.globalNamed "internal/strconv.uint64pow10" = some 9 := by kernel_rfl
theorem Sent.turned {w w' : World} {Z : Nat → Prop} {A : Nat → Addr} {base : Nat} (h : Sent w A base) (ht : Turned Z w w') (hz : ∀ i, i < base → ¬ Z i) : Sent w' A base := by
  have hs := h.size
  have hl := h.low
  refine ⟨h.low, Nat.le_trans h.size ht.size, fun k hk => ?_, fun k hk => ?_, h.ne, ?_, ?_⟩
  · have hk2 : k < base := by
      have := h.low
      simp [sentL] at hk
      omega
    rw [World.cell?_of_block (ht.block k (by omega) (hz k hk2))]
    exact h.cell k hk
  · obtain ⟨h1, ca, ta, h2⟩ := h.obj k hk
    exact ⟨h1, ca, ta, (ht.block _ (by omega) (hz _ h1)).trans h2⟩
  · have ht9 := ht.block 9 (by omega) (hz 9 (by omega))
    have h0 := h.tab
    unfold Lib.TabIs World.var? at *
    rw [pow10_at] at *
    simp only [Option.bind_some, ht9] at *
    exact h0
  · rw [World.cell?_of_block (ht.block 1 (by omega) (hz 1 (by omega)))]
    exact h.ety
theorem Sent.below {w w' : World} {A : Nat → Addr} {base : Nat} (h : Sent w A base) (hb : Below w.heap.size w w') : Sent w' A base :=
  h.turned (Turned.ofBelow (Z := fun _ => False) hb) (fun _ _ e => e)
/-- An error of the reader's: some parts around a byte's place around a fixed error (none is ErrLong). -/
def Chain (w : World) (A : Nat → Addr) : Nat → Value → Prop
  | 0, v => ∃ (b k : Nat) (z : Int), w.heap[b]? = some (.cells #[.int .i64 z, .iface 404 (.pointer (some (A k)))] 253 (0, 0)) ∧ k ∈ sentL ∧ k ≠ 0 ∧ v = .iface 116 (.pointer (some ⟨b, 0, none⟩))
  | n + 1, v => ∃ (b : Nat) (s : ByteArray) (u : Value), w.heap[b]? = some (.cells #[.string s, u] 158 (0, 0)) ∧ Chain w A n u ∧ v = .iface 156 (.pointer (some ⟨b, 0, none⟩))
theorem Chain.at_ {w : World} {A : Nat → Addr} {b k : Nat} {z : Int} (h : w.heap[b]? = some (.cells #[.int .i64 z, .iface 404 (.pointer (some (A k)))] 253 (0, 0))) (hk : k ∈ sentL) (h0 : k ≠ 0) : Chain w A 0 (.iface 116 (.pointer (some ⟨b, 0, none⟩))) := ⟨b, k, z, h, hk, h0, rfl⟩
theorem Chain.in_ {w : World} {A : Nat → Addr} {b n : Nat} {s : ByteArray} {v : Value} (h : w.heap[b]? = some (.cells #[.string s, v] 158 (0, 0))) (hv : Chain w A n v) : Chain w A (n + 1) (.iface 156 (.pointer (some ⟨b, 0, none⟩))) := ⟨b, s, v, h, hv, rfl⟩
theorem Chain.two {w : World} {A : Nat → Addr} {n : Nat} {v : Value} (h : Chain w A n v) : (∃ (b k : Nat) (z : Int), n = 0 ∧ w.heap[b]? = some (.cells #[.int .i64 z, .iface 404 (.pointer (some (A k)))] 253 (0, 0)) ∧ k ∈ sentL ∧ k ≠ 0 ∧ v = .iface 116 (.pointer (some ⟨b, 0, none⟩))) ∨
    (∃ (b m : Nat) (s : ByteArray) (u : Value), n = m + 1 ∧ w.heap[b]? = some (.cells #[.string s, u] 158 (0, 0)) ∧ Chain w A m u ∧ v = .iface 156 (.pointer (some ⟨b, 0, none⟩))) := by
  cases n with
  | zero => exact .inl (by obtain ⟨b, k, z, h⟩ := h; exact ⟨b, k, z, rfl, h⟩)
  | succ m => exact .inr (by obtain ⟨b, s, u, h⟩ := h; exact ⟨b, m, s, u, rfl, h⟩)
theorem Chain.iface {w : World} {A : Nat → Addr} {n : Nat} {v : Value} (h : Chain w A n v) : ∃ u x, v = .iface u x := by rcases h.two with ⟨_, _, _, _, _, _, _, rfl⟩ | ⟨_, _, _, _, _, _, _, rfl⟩ <;> exact ⟨_, _, rfl⟩
theorem Chain.kept {w w' : World} {A : Nat → Addr} {n : Nat} {v : Value} (h : Chain w A n v) (hb : Below w.heap.size w w') : Chain w' A n v := by
  induction n generalizing v with
  | zero =>
    obtain ⟨_, _, _, h, hk, h0, rfl⟩ := h
    exact .at_ ((hb.block _ (lt_of_block h)).trans h) hk h0
  | succ n ih =>
    obtain ⟨_, _, _, h, hu, rfl⟩ := h
    exact .in_ ((hb.block _ (lt_of_block h)).trans h) (ih hu)

/-- The parser in block b, over s: what is left; documents and lists. -/
def PAt (w : World) (b : Nat) (s : ByteArray) (r : Bs) (D L : Value) : Prop := ∃ at_ : Nat, w.heap[b]? = some (.cells #[.string s, .int .i64 (at_ : Int), D, L] 152 (0, 0)) ∧ at_ ≤ s.size ∧ s.data.toList.drop at_ = r
theorem cell_par {w : World} {y : Nat} {v1 v2 v3 v4 : Value} {t : TypeId} (h : w.heap[y]? = some (.cells #[v1, v2, v3, v4] t (0, 0))) :
    w.cell? ⟨y, 0, none⟩ = some v1 ∧ w.cell? ⟨y, 1, none⟩ = some v2 ∧ w.cell? ⟨y, 2, none⟩ = some v3 ∧ w.cell? ⟨y, 3, none⟩ = some v4 ∧ (∀ j, w.frozen? ⟨y, j, none⟩ = false) := by
  simp [World.cell?, World.frozen?, h]
theorem PAt.lt {w : World} {b : Nat} {s : ByteArray} {r : Bs} {D L : Value} (h : PAt w b s r D L) : b < w.heap.size := by
  obtain ⟨a, h, _⟩ := h
  exact lt_of_block h
theorem PAt.turned {w w' : World} {Z : Nat → Prop} {b : Nat} {s : ByteArray} {r : Bs} {D L : Value} (h : PAt w b s r D L) (ht : Turned Z w w') (hz : ¬ Z b) : PAt w' b s r D L := by
  have hl := h.lt
  obtain ⟨a, h, h2⟩ := h
  exact ⟨a, (ht.block b hl hz).trans h, h2⟩

set_option maxHeartbeats 1000000 in
set_option maxRecDepth 1000000 in
theorem take_ok (w : World) (b : Nat) (s : ByteArray) (r : Bs) (D L : Value) (h : PAt w b s r D L) (hs : s.size ≤ 60000) (k : Nat) (hk : k ≤ 1000) (x t : Bs) (hp : pTake k r = some (x, t)) :
    Calls Tryz.prog 165 #[.pointer (some ⟨b, 0, none⟩), .int .i64 (k : Int)] w fun e w' => e = .returned (.tuple #[lstV x, .nilIface]) ∧ PAt w' b s t D L ∧ Turned (fun i => i = b) w w' := by
  obtain ⟨at_, h, ha, hr⟩ := h
  obtain ⟨c0, c1, c2, c3, cf⟩ := cell_par h
  have f1 := cf 1
  have HH := hid h
  have hrl : r.length = s.size - at_ := by rw [← hr]; simp
  have hkl : k ≤ r.length := by
    unfold pTake at hp
    split at hp
    · assumption
    · cases hp
  have hki : (k : Int) ≤ (s.size : Int) - (at_ : Int) := by omega
  have hkn : ¬ ((s.size : Int) - (at_ : Int) < (k : Int)) := by omega
  clear h cf
  have hx : x = r.take k ∧ t = r.drop k := by
    unfold pTake at hp
    rw [if_pos hkl] at hp
    simp only [Option.some.injEq, Prod.mk.injEq] at hp
    exact ⟨hp.1.symm, hp.2.symm⟩
  obtain ⟨rfl, rfl⟩ := hx
  have HR := hid hr
  clear hp hr
  go_enter Tryz.func165, Tryz.ntmps165
  go_wp2_with (fail)
  go_quiet (fail)
  go_wp2_with (fail)
  have hle : at_ + k ≤ s.size := by omega
  have HB3 := heap_setCell_same (w.drewN nq) b 1 _ 152 (.int .i64 ((at_ : Int) + (k : Int))) HH.out
  obtain ⟨d0, d1, _, _, _⟩ := cell_par HB3
  have HW : Hid (Turned (fun i => i = b) w ((w.drewN nq).setCell ⟨b, 1, none⟩ (.int .i64 ((at_ : Int) + (k : Int)))) ∧ ((w.drewN nq).setCell ⟨b, 1, none⟩ (.int .i64 ((at_ : Int) + (k : Int)))).heap[b]? = some (.cells #[.string s, .int .i64 ((at_ : Int) + (k : Int)), D, L] 152 (0, 0))) := ⟨((Turned.refl _ w).ofDrew nq).trans (Turned.ofSet _ _ _ rfl), HB3⟩
  generalize (w.drewN nq).setCell ⟨b, 1, none⟩ (.int .i64 ((at_ : Int) + (k : Int))) = W2 at d0 d1 HW ⊢
  clear c0 c1 c2 c3 f1 HB3
  go_quiet (fail)
  go_wp2
  go_ret2
  refine ⟨?_, ⟨at_ + k, HW.out.2, hle, ?_⟩, HW.out.1.ofDrew _⟩
  · show Ending.returned (.tuple #[.string (s.extract at_ (at_ + k)), .nilIface]) = _
    rw [ext_take, HR.out]
  · rw [← HR.out, List.drop_drop]

theorem pTake_none {k : Nat} {r : Bs} (h : pTake k r = none) : r.length < k := by
  unfold pTake at h
  split at h
  · cases h
  · omega
set_option maxHeartbeats 1000000 in
set_option maxRecDepth 1000000 in
theorem take_no (w : World) (b base : Nat) (A : Nat → Addr) (s : ByteArray) (r : Bs) (D L : Value) (h : PAt w b s r D L) (hS : Sent w A base) (hs : s.size ≤ 60000) (k : Nat) (hp : pTake k r = none) :
    Calls Tryz.prog 165 #[.pointer (some ⟨b, 0, none⟩), .int .i64 (k : Int)] w fun e w' => ∃ ev, e = .returned (.tuple #[lstV [], ev]) ∧ Chain w' A 0 ev ∧ Turned (fun i => i = b) w w' := by
  obtain ⟨at_, h, ha, hr⟩ := h
  obtain ⟨c0, c1, c2, c3, cf⟩ := cell_par h
  have hrl : r.length = s.size - at_ := by rw [← hr]; simp
  have hkl := pTake_none hp
  have hkn : (s.size : Int) - (at_ : Int) < (k : Int) := by omega
  have g5 := hS.cell 5 (by simp)
  have HS := hid hS
  clear h cf hp hr hS
  go_enter Tryz.func165, Tryz.ntmps165
  go_wp2_with (fail)
  go_quiet (fail)
  go_wp2_with (fail)
  go_region
  go_wp2
  go_ret2
  refine ⟨_, rfl, Chain.at_ (k := 5) (z := at_) ?_ (by simp) (by decide), ?_⟩
  · exact heap_alloc_new _ _
  · exact ((Turned.refl _ w).ofDrew _).trans (Turned.ofAlloc _ _)

theorem wrap_u8 (c : UInt8) : wrap64 (c.toNat : Int) = (c.toNat : Int) := by have := c.toNat_lt; unfold wrap64; omega
theorem pTake_one (c : UInt8) (t : Bs) : pTake 1 (c :: t) = some ([c], t) := by simp [pTake]
set_option maxHeartbeats 1000000 in
set_option maxRecDepth 1000000 in
theorem oneByte_ok (w : World) (b : Nat) (s : ByteArray) (c : UInt8) (t : Bs) (D L : Value) (h : PAt w b s (c :: t) D L) (hs : s.size ≤ 60000) :
    Calls Tryz.prog 235 #[.pointer (some ⟨b, 0, none⟩)] w fun e w' => e = .returned (.tuple #[.int .i64 (c.toNat : Int), .nilIface]) ∧ PAt w' b s t D L ∧ Turned (fun i => i = b) w w' := by
  have C := hid (take_ok w b s (c :: t) D L h hs 1 (by omega) [c] t (pTake_one c t))
  clear h
  go_enter Tryz.func235, Tryz.ntmps235
  go_wp2_with (first | (go_at_call 165; refine C.out.mono ?_; rintro e w1 ⟨rfl, hP, hT⟩))
  go_ret2
  refine ⟨?_, hP, hT⟩
  show Ending.returned (.tuple #[.int .i64 (wrap64 (c.toNat : Int)), .nilIface]) = _
  rw [wrap_u8]
set_option maxHeartbeats 1000000 in
set_option maxRecDepth 1000000 in
theorem oneByte_no (w : World) (b base : Nat) (A : Nat → Addr) (s : ByteArray) (D L : Value) (h : PAt w b s [] D L) (hS : Sent w A base) (hs : s.size ≤ 60000) :
    Calls Tryz.prog 235 #[.pointer (some ⟨b, 0, none⟩)] w fun e w' => ∃ ev, e = .returned (.tuple #[.int .i64 0, ev]) ∧ Chain w' A 0 ev ∧ Turned (fun i => i = b) w w' := by
  have C := hid (take_no w b base A s [] D L h hS hs 1 rfl)
  clear h hS
  go_enter Tryz.func235, Tryz.ntmps235
  go_wp2_with (fail)
  refine C.out.mono ?_
  rintro e w1 ⟨ev, rfl, hC, hT⟩
  have HC := hid hC
  obtain ⟨u, x, rfl⟩ := hC.iface
  clear hC
  go_wp2
  go_ret2
  exact ⟨_, rfl, HC.out, hT⟩

theorem or_i64 (a b : Nat) (ha : a < 1073741824) (hb : b < 1073741824) : bits .or .i64 (a : Int) (b : Int) = ((a ||| b : Nat) : Int) := by
  have hx : a ||| b < 2 ^ 30 := Nat.or_lt_two_pow (by omega) (by omega)
  have h1 : (BitVec.ofInt 64 (a : Int)).toNat = a := by
    rw [BitVec.ofInt_natCast, BitVec.toNat_ofNat]; exact Nat.mod_eq_of_lt (by omega)
  have h2 : (BitVec.ofInt 64 (b : Int)).toNat = b := by
    rw [BitVec.ofInt_natCast, BitVec.toNat_ofNat]; exact Nat.mod_eq_of_lt (by omega)
  show IntKind.i64.wrap ((BitVec.ofInt 64 (a : Int) ||| BitVec.ofInt 64 (b : Int)).toNat : Int) = _
  rw [BitVec.toNat_or, h1, h2, IntKind.wrap_i64]
  omega
theorem or_zero64 (a : Nat) (ha : a < 1073741824) : bits .or .i64 0 (a : Int) = (a : Int) := by
  have := or_i64 0 a (by omega) ha
  simpa using this
theorem and_low (n : Nat) (h : n < 128) : bits .and .i64 (n : Int) 127 = (n : Int) := by rw [i64_and127]; omega
theorem and_high (n : Nat) : bits .and .i64 (n : Int) 127 = ((n % 128 : Nat) : Int) := by rw [i64_and127]; omega
theorem or_join (a d : Nat) (ha : a < 128) (hd : d < 128) : bits .or .i64 (a : Int) ((d : Int) * 128) = ((a + 128 * d : Nat) : Int) := by
  have e : ((d : Int) * 128) = ((d * 128 : Nat) : Int) := by omega
  rw [e, or_i64 a (d * 128) (by omega) (by omega)]
  rw [Nat.or_comm, nat_join 7 (d * 128) a (by omega) (by omega)]
  omega
set_option maxHeartbeats 1000000 in
set_option maxRecDepth 1000000 in
theorem number_one (w : World) (b : Nat) (s : ByteArray) (c : UInt8) (t : Bs) (D L : Value) (h : PAt w b s (c :: t) D L) (hs : s.size ≤ 60000) (lo hi : Nat) (hc : c.toNat < 128) (h1 : lo ≤ c.toNat) (h2 : c.toNat ≤ hi) :
    Calls Tryz.prog 166 #[.pointer (some ⟨b, 0, none⟩), .int .i64 (lo : Int), .int .i64 (hi : Int)] w fun e w' => e = .returned (.tuple #[.int .i64 (c.toNat : Int), .nilIface]) ∧ PAt w' b s t D L ∧ Turned (fun i => i = b) w w' := by
  have C := hid (oneByte_ok w b s c t D L h hs)
  obtain ⟨at_, h', _⟩ := h
  obtain ⟨c0, c1, c2, c3, cf⟩ := cell_par h'
  clear h' cf
  generalize hn : c.toNat = n at *
  have hA := and_low n hc
  have hO := or_zero64 n (by omega)
  have h1i : ¬ ((n : Int) < (lo : Int)) := by omega
  have h2i : ¬ ((hi : Int) < (n : Int)) := by omega
  have h3i : ¬ (128 ≤ (n : Int)) := by omega
  clear hn h1 h2
  by_cases hz : n = 0
  · have hzi : ((n : Int) == 0) = true := by simp [hz]
    clear hz
    go_enter Tryz.func166, Tryz.ntmps166
    go_wp2_with (fail)
    refine wp_loop_rounds 1 ?_
    rw [rounds_succ]
    go_wp2_with (first | (go_at_call 235; refine C.out.mono ?_; rintro e w1 ⟨rfl, hP, hT⟩))
    go_ret2
    exact ⟨rfl, hP, hT⟩
  · have hzi : ((n : Int) == 0) = false := by simp; omega
    go_enter Tryz.func166, Tryz.ntmps166
    go_wp2_with (fail)
    refine wp_loop_rounds 1 ?_
    rw [rounds_succ]
    go_wp2_with (first | (go_at_call 235; refine C.out.mono ?_; rintro e w1 ⟨rfl, hP, hT⟩))
    go_ret2
    exact ⟨rfl, hP, hT⟩

set_option maxHeartbeats 1000000 in
set_option maxRecDepth 1000000 in
theorem number_two (w : World) (b : Nat) (s : ByteArray) (c d : UInt8) (t : Bs) (D L : Value) (h : PAt w b s (c :: d :: t) D L) (hs : s.size ≤ 60000) (lo hi : Nat) (hc : ¬ c.toNat < 128) (hd : d.toNat < 128) (hd0 : d.toNat ≠ 0) (h1 : lo ≤ c.toNat % 128 + 128 * d.toNat) (h2 : c.toNat % 128 + 128 * d.toNat ≤ hi) :
    Calls Tryz.prog 166 #[.pointer (some ⟨b, 0, none⟩), .int .i64 (lo : Int), .int .i64 (hi : Int)] w fun e w' => e = .returned (.tuple #[.int .i64 ((c.toNat % 128 + 128 * d.toNat : Nat) : Int), .nilIface]) ∧ PAt w' b s t D L ∧ Turned (fun i => i = b) w w' := by
  have C := hid (oneByte_ok w b s c (d :: t) D L h hs)
  have C2 := hid (fun w' (h : PAt w' b s (d :: t) D L) => oneByte_ok w' b s d t D L h hs)
  obtain ⟨at_, h', _⟩ := h
  obtain ⟨c0, c1, c2, c3, cf⟩ := cell_par h'
  clear h' cf
  have hcl := c.toNat_lt
  generalize hn : c.toNat = n at *
  generalize hm : d.toNat = m at *
  have hA := and_high n
  have hA2 := and_low m hd
  obtain ⟨p, hp⟩ : ∃ p, n % 128 = p := ⟨_, rfl⟩
  have hpl : p < 128 := by omega
  rw [hp] at hA h1 h2 ⊢
  have hO := or_zero64 p (by omega)
  have hO2 := or_join p m hpl hd
  have h1i : ¬ ((n : Int) < 128) := by omega
  have h3i : ¬ (128 ≤ (m : Int)) := by omega
  obtain ⟨q, hq⟩ : ∃ q, p + 128 * m = q := ⟨_, rfl⟩
  rw [hq] at hO2 h1 h2 ⊢
  have h4i : ¬ ((q : Int) < (lo : Int)) := by omega
  have h5i : ¬ ((hi : Int) < (q : Int)) := by omega
  have hzi : ((m : Int) == 0) = false := by simp; omega
  clear hn hm hp hq h1 h2 hc
  go_enter Tryz.func166, Tryz.ntmps166
  go_wp2_with (fail)
  refine wp_loop_rounds 2 ?_
  rw [rounds_succ]
  go_wp2_with (first | (go_at_call 235; refine C.out.mono ?_; rintro e w1 ⟨rfl, hP, hT⟩))
  rw [rounds_succ]
  go_wp2_with (first | (go_at_call 235; refine (C2.out _ hP).mono ?_; rintro e w2 ⟨rfl, hP2, hT2⟩))
  go_ret2
  exact ⟨rfl, hP2, hT.trans hT2⟩
set_option maxHeartbeats 1000000 in
set_option maxRecDepth 1000000 in
theorem number_e0 (w : World) (b base : Nat) (A : Nat → Addr) (s : ByteArray) (D L : Value) (h : PAt w b s [] D L) (hS : Sent w A base) (hs : s.size ≤ 60000) (lo hi : Nat) :
    Calls Tryz.prog 166 #[.pointer (some ⟨b, 0, none⟩), .int .i64 (lo : Int), .int .i64 (hi : Int)] w fun e w' => ∃ ev, e = .returned (.tuple #[.int .i64 0, ev]) ∧ Chain w' A 0 ev ∧ Turned (fun i => i = b) w w' := by
  have C := hid (oneByte_no w b base A s D L h hS hs)
  obtain ⟨at_, h', _⟩ := h
  obtain ⟨c0, c1, c2, c3, cf⟩ := cell_par h'
  clear h' cf hS
  go_enter Tryz.func166, Tryz.ntmps166
  go_wp2_with (fail)
  refine wp_loop_rounds 1 ?_
  rw [rounds_succ]
  go_wp2_with (fail)
  refine C.out.mono ?_
  rintro e w1 ⟨ev, rfl, hC, hT⟩
  have HC := hid hC
  obtain ⟨u, x, rfl⟩ := hC.iface
  clear hC
  go_wp2
  go_ret2
  exact ⟨_, rfl, HC.out, hT⟩
set_option maxHeartbeats 1000000 in
set_option maxRecDepth 1000000 in
theorem number_e1 (w : World) (b base : Nat) (A : Nat → Addr) (s : ByteArray) (c : UInt8) (D L : Value) (h : PAt w b s [c] D L) (hS : Sent w A base) (hb : base ≤ b) (hs : s.size ≤ 60000) (lo hi : Nat) (hc : ¬ c.toNat < 128) :
    Calls Tryz.prog 166 #[.pointer (some ⟨b, 0, none⟩), .int .i64 (lo : Int), .int .i64 (hi : Int)] w fun e w' => ∃ ev, e = .returned (.tuple #[.int .i64 0, ev]) ∧ Chain w' A 0 ev ∧ Turned (fun i => i = b) w w' := by
  have C := hid (oneByte_ok w b s c [] D L h hs)
  have C2 := hid (fun w' (h : PAt w' b s [] D L) (hS : Sent w' A base) => oneByte_no w' b base A s D L h hS hs)
  have HS := hid hS
  obtain ⟨at_, h', _⟩ := h
  obtain ⟨c0, c1, c2, c3, cf⟩ := cell_par h'
  clear h' cf hS
  generalize hn : c.toNat = n at *
  have h1i : ¬ ((n : Int) < 128) := by omega
  have hA := and_high n
  have hO := or_zero64 (n % 128) (by omega)
  generalize n % 128 = p at *
  clear hn hc
  go_enter Tryz.func166, Tryz.ntmps166
  go_wp2_with (fail)
  refine wp_loop_rounds 2 ?_
  rw [rounds_succ]
  go_wp2_with (first | (go_at_call 235; refine C.out.mono ?_; rintro e w1 ⟨rfl, hP, hT⟩))
  rw [rounds_succ]
  go_wp2_with (fail)
  refine (C2.out _ hP (HS.out.turned hT (fun i hi e => by omega))).mono ?_
  rintro e w2 ⟨ev, rfl, hC, hT2⟩
  have HC := hid hC
  obtain ⟨u, x, rfl⟩ := hC.iface
  clear hC
  go_wp2
  go_ret2
  exact ⟨_, rfl, HC.out, hT.trans hT2⟩
set_option maxHeartbeats 1000000 in
set_option maxRecDepth 1000000 in
theorem number_e2 (w : World) (b base : Nat) (A : Nat → Addr) (s : ByteArray) (c : UInt8) (t : Bs) (D L : Value) (h : PAt w b s (c :: t) D L) (hS : Sent w A base) (hb : base ≤ b) (hs : s.size ≤ 60000) (lo hi : Nat) (hc : c.toNat < 128) (h1 : c.toNat < lo ∨ hi < c.toNat) :
    Calls Tryz.prog 166 #[.pointer (some ⟨b, 0, none⟩), .int .i64 (lo : Int), .int .i64 (hi : Int)] w fun e w' => ∃ ev, e = .returned (.tuple #[.int .i64 0, ev]) ∧ Chain w' A 0 ev ∧ Turned (fun i => i = b) w w' := by
  have C := hid (oneByte_ok w b s c t D L h hs)
  have HS := hid hS
  obtain ⟨at_, h', _⟩ := h
  obtain ⟨c0, c1, c2, c3, cf⟩ := cell_par h'
  clear h' cf hS
  generalize hn : c.toNat = n at *
  have hA := and_low n hc
  have hO := or_zero64 n (by omega)
  have h3i : ¬ (128 ≤ (n : Int)) := by omega
  have hz : ((n : Int) == 0) = true ∨ ((n : Int) == 0) = false := by cases ((n : Int) == 0) <;> simp
  have hlh : ((n : Int) < (lo : Int)) ∨ (¬ ((n : Int) < (lo : Int)) ∧ (hi : Int) < (n : Int)) := by omega
  clear hn h1
  rcases hz with hzi | hzi
  all_goals rcases hlh with hl | ⟨hl, hl2⟩
  all_goals
    go_enter Tryz.func166, Tryz.ntmps166
    go_wp2_with (fail)
    refine wp_loop_rounds 1 ?_
    rw [rounds_succ]
    go_wp2_with (first | (go_at_call 235; refine C.out.mono ?_; rintro e w1 ⟨rfl, hP, hT⟩; have g6 := (HS.out.turned hT (fun i hi e => by omega)).cell 6 (by simp)))
    go_region
    go_wp2
    go_ret2
    refine ⟨_, rfl, Chain.at_ (k := 6) (z := at_) ?_ (by simp) (by decide), ?_⟩
    · exact heap_alloc_new _ _
    · exact hT.trans (((Turned.refl _ w1).ofDrew 1).trans (Turned.ofAlloc _ _))
set_option maxHeartbeats 1000000 in
set_option maxRecDepth 1000000 in
theorem number_e3 (w : World) (b base : Nat) (A : Nat → Addr) (s : ByteArray) (c d : UInt8) (t : Bs) (D L : Value) (h : PAt w b s (c :: d :: t) D L) (hS : Sent w A base) (hb : base ≤ b) (hs : s.size ≤ 60000) (lo hi : Nat) (hc : ¬ c.toNat < 128) (hd : ¬ d.toNat < 128) :
    Calls Tryz.prog 166 #[.pointer (some ⟨b, 0, none⟩), .int .i64 (lo : Int), .int .i64 (hi : Int)] w fun e w' => ∃ ev, e = .returned (.tuple #[.int .i64 0, ev]) ∧ Chain w' A 0 ev ∧ Turned (fun i => i = b) w w' := by
  have C := hid (oneByte_ok w b s c (d :: t) D L h hs)
  have C2 := hid (fun w' (h : PAt w' b s (d :: t) D L) => oneByte_ok w' b s d t D L h hs)
  have HS := hid hS
  obtain ⟨at_, h', _⟩ := h
  obtain ⟨c0, c1, c2, c3, cf⟩ := cell_par h'
  clear h' cf hS
  have hcl := c.toNat_lt
  have hdl := d.toNat_lt
  generalize hn : c.toNat = n at *
  generalize hm : d.toNat = m at *
  have hA := and_high n
  obtain ⟨p, hp⟩ : ∃ p, n % 128 = p := ⟨_, rfl⟩
  have hpl : p < 128 := by omega
  rw [hp] at hA
  have hO := or_zero64 p (by omega)
  have hA2 := and_high m
  have hO2 := or_join p (m % 128) hpl (by omega)
  generalize m % 128 = m2 at *
  have h1i : ¬ ((n : Int) < 128) := by omega
  have h3i : ¬ ((m : Int) < 128) := by omega
  clear hn hm hp hc
  go_enter Tryz.func166, Tryz.ntmps166
  go_wp2_with (fail)
  refine wp_loop_rounds 3 ?_
  rw [rounds_succ]
  go_wp2_with (first | (go_at_call 235; refine C.out.mono ?_; rintro e w1 ⟨rfl, hP, hT⟩))
  rw [rounds_succ]
  go_wp2_with (first | (go_at_call 235; refine (C2.out _ hP).mono ?_; rintro e w2 ⟨rfl, hP2, hT2⟩; have gk := (HS.out.turned (hT.trans hT2) (fun i hi e => by omega)).cell 6 (by simp)))
  rw [rounds_succ]
  go_wp2_with (fail)
  go_region
  go_wp2
  go_ret2
  refine ⟨_, rfl, Chain.at_ (k := 6) (z := at_) ?_ (by simp) (by decide), ?_⟩
  · exact heap_alloc_new _ _
  · exact (hT.trans hT2).trans (((Turned.refl _ w2).ofDrew 1).trans (Turned.ofAlloc _ _))
set_option maxHeartbeats 1000000 in
set_option maxRecDepth 1000000 in
theorem number_e4 (w : World) (b base : Nat) (A : Nat → Addr) (s : ByteArray) (c d : UInt8) (t : Bs) (D L : Value) (h : PAt w b s (c :: d :: t) D L) (hS : Sent w A base) (hb : base ≤ b) (hs : s.size ≤ 60000) (lo hi : Nat) (hc : ¬ c.toNat < 128) (hd : d.toNat = 0) :
    Calls Tryz.prog 166 #[.pointer (some ⟨b, 0, none⟩), .int .i64 (lo : Int), .int .i64 (hi : Int)] w fun e w' => ∃ ev, e = .returned (.tuple #[.int .i64 0, ev]) ∧ Chain w' A 0 ev ∧ Turned (fun i => i = b) w w' := by
  have C := hid (oneByte_ok w b s c (d :: t) D L h hs)
  have C2 := hid (fun w' (h : PAt w' b s (d :: t) D L) => oneByte_ok w' b s d t D L h hs)
  have HS := hid hS
  obtain ⟨at_, h', _⟩ := h
  obtain ⟨c0, c1, c2, c3, cf⟩ := cell_par h'
  clear h' cf hS
  have hcl := c.toNat_lt
  have hdl := d.toNat_lt
  generalize hn : c.toNat = n at *
  generalize hm : d.toNat = m at *
  have hA := and_high n
  obtain ⟨p, hp⟩ : ∃ p, n % 128 = p := ⟨_, rfl⟩
  have hpl : p < 128 := by omega
  rw [hp] at hA
  have hO := or_zero64 p (by omega)
  have hA2 := and_low m (by omega)
  have hO2 := or_join p m hpl (by omega)
  have h1i : ¬ ((n : Int) < 128) := by omega
  have h3i : ¬ (128 ≤ (m : Int)) := by omega
  have hzi : ((m : Int) == 0) = true := by simp [hd]
  clear hn hm hp hc hd
  go_enter Tryz.func166, Tryz.ntmps166
  go_wp2_with (fail)
  refine wp_loop_rounds 2 ?_
  rw [rounds_succ]
  go_wp2_with (first | (go_at_call 235; refine C.out.mono ?_; rintro e w1 ⟨rfl, hP, hT⟩))
  rw [rounds_succ]
  go_wp2_with (first | (go_at_call 235; refine (C2.out _ hP).mono ?_; rintro e w2 ⟨rfl, hP2, hT2⟩; have gk := (HS.out.turned (hT.trans hT2) (fun i hi e => by omega)).cell 2 (by simp)))
  go_region
  go_wp2
  go_ret2
  refine ⟨_, rfl, Chain.at_ (k := 2) (z := at_) ?_ (by simp) (by decide), ?_⟩
  · exact heap_alloc_new _ _
  · exact (hT.trans hT2).trans (((Turned.refl _ w2).ofDrew 1).trans (Turned.ofAlloc _ _))
set_option maxHeartbeats 1000000 in
set_option maxRecDepth 1000000 in
theorem number_e5 (w : World) (b base : Nat) (A : Nat → Addr) (s : ByteArray) (c d : UInt8) (t : Bs) (D L : Value) (h : PAt w b s (c :: d :: t) D L) (hS : Sent w A base) (hb : base ≤ b) (hs : s.size ≤ 60000) (lo hi : Nat) (hc : ¬ c.toNat < 128) (hd : d.toNat < 128) (hd0 : d.toNat ≠ 0) (h1 : c.toNat % 128 + 128 * d.toNat < lo ∨ hi < c.toNat % 128 + 128 * d.toNat) :
    Calls Tryz.prog 166 #[.pointer (some ⟨b, 0, none⟩), .int .i64 (lo : Int), .int .i64 (hi : Int)] w fun e w' => ∃ ev, e = .returned (.tuple #[.int .i64 0, ev]) ∧ Chain w' A 0 ev ∧ Turned (fun i => i = b) w w' := by
  have C := hid (oneByte_ok w b s c (d :: t) D L h hs)
  have C2 := hid (fun w' (h : PAt w' b s (d :: t) D L) => oneByte_ok w' b s d t D L h hs)
  have HS := hid hS
  obtain ⟨at_, h', _⟩ := h
  obtain ⟨c0, c1, c2, c3, cf⟩ := cell_par h'
  clear h' cf hS
  have hcl := c.toNat_lt
  have hdl := d.toNat_lt
  generalize hn : c.toNat = n at *
  generalize hm : d.toNat = m at *
  have hA := and_high n
  obtain ⟨p, hp⟩ : ∃ p, n % 128 = p := ⟨_, rfl⟩
  have hpl : p < 128 := by omega
  rw [hp] at hA h1
  have hO := or_zero64 p (by omega)
  have hA2 := and_low m hd
  have hO2 := or_join p m hpl hd
  obtain ⟨q, hq⟩ : ∃ q, p + 128 * m = q := ⟨_, rfl⟩
  rw [hq] at hO2 h1
  have h1i : ¬ ((n : Int) < 128) := by omega
  have h3i : ¬ (128 ≤ (m : Int)) := by omega
  have hzi : ((m : Int) == 0) = false := by simp; omega
  have hlh : ((q : Int) < (lo : Int)) ∨ (¬ ((q : Int) < (lo : Int)) ∧ (hi : Int) < (q : Int)) := by omega
  clear hn hm hp hc hq h1
  rcases hlh with hl | ⟨hl, hl2⟩
  all_goals
    go_enter Tryz.func166, Tryz.ntmps166
    go_wp2_with (fail)
    refine wp_loop_rounds 2 ?_
    rw [rounds_succ]
    go_wp2_with (first | (go_at_call 235; refine C.out.mono ?_; rintro e w1 ⟨rfl, hP, hT⟩))
    rw [rounds_succ]
    go_wp2_with (first | (go_at_call 235; refine (C2.out _ hP).mono ?_; rintro e w2 ⟨rfl, hP2, hT2⟩; have gk := (HS.out.turned (hT.trans hT2) (fun i hi e => by omega)).cell 6 (by simp)))
    go_region
    go_wp2
    go_ret2
    refine ⟨_, rfl, Chain.at_ (k := 6) (z := at_) ?_ (by simp) (by decide), ?_⟩
    · exact heap_alloc_new _ _
    · exact (hT.trans hT2).trans (((Turned.refl _ w2).ofDrew 1).trans (Turned.ofAlloc _ _))
/-- number: as pNum. -/
theorem number_ok {w : World} {b : Nat} {s : ByteArray} {r : Bs} {D L : Value} (h : PAt w b s r D L) (hs : s.size ≤ 60000) {lo hi n : Nat} {t : Bs} (hp : pNum lo hi r = some (n, t)) :
    Calls Tryz.prog 166 #[.pointer (some ⟨b, 0, none⟩), .int .i64 (lo : Int), .int .i64 (hi : Int)] w fun e w' => e = .returned (.tuple #[.int .i64 (n : Int), .nilIface]) ∧ PAt w' b s t D L ∧ Turned (fun i => i = b) w w' := by
  unfold pNum at hp
  split at hp
  · cases hp
  · rename_i c u
    split at hp
    · rename_i hc
      split at hp
      · rename_i hb
        simp only [Option.some.injEq, Prod.mk.injEq] at hp
        obtain ⟨rfl, rfl⟩ := hp
        exact number_one w b s c u D L h hs lo hi hc hb.1 hb.2
      · cases hp
    · rename_i hc
      split at hp
      · cases hp
      · rename_i d v
        split at hp
        · rename_i hd
          simp only [Option.some.injEq, Prod.mk.injEq] at hp
          obtain ⟨rfl, rfl⟩ := hp
          exact number_two w b s c d v D L h hs lo hi hc hd.1 hd.2.1 hd.2.2.1 hd.2.2.2
        · cases hp
theorem number_no {w : World} {b base : Nat} {A : Nat → Addr} {s : ByteArray} {r : Bs} {D L : Value} (h : PAt w b s r D L) (hS : Sent w A base) (hb : base ≤ b) (hs : s.size ≤ 60000) {lo hi : Nat} (hp : pNum lo hi r = none) :
    Calls Tryz.prog 166 #[.pointer (some ⟨b, 0, none⟩), .int .i64 (lo : Int), .int .i64 (hi : Int)] w fun e w' => ∃ ev, e = .returned (.tuple #[.int .i64 0, ev]) ∧ Chain w' A 0 ev ∧ Turned (fun i => i = b) w w' := by
  unfold pNum at hp
  split at hp
  · exact number_e0 w b base A s D L h hS hs lo hi
  · rename_i c u
    split at hp
    · rename_i hc
      split at hp
      · cases hp
      · rename_i hbd
        exact number_e2 w b base A s c u D L h hS hb hs lo hi hc (by omega)
    · rename_i hc
      split at hp
      · exact number_e1 w b base A s c D L h hS hb hs lo hi hc
      · rename_i d v
        split at hp
        · cases hp
        · rename_i hd
          by_cases h1 : d.toNat < 128
          · by_cases h0 : d.toNat = 0
            · exact number_e4 w b base A s c d v D L h hS hb hs lo hi hc h0
            · exact number_e5 w b base A s c d v D L h hS hb hs lo hi hc h1 h0 (by omega)
          · exact number_e3 w b base A s c d v D L h hS hb hs lo hi hc h1
end Go.Proofs.YtaacjjhmojecnaaGreatDoor

namespace Go.Proofs.YtaacjjhmojecnaaGreatDoor
open Go.RowKit Go.ScT Go.Proofs

theorem ret_int {k : IntKind} {a b : Int} (h : a = b) : Ending.returned (.int k a) = .returned (.int k b) := by rw [h]
theorem u8_lt1000 (c : UInt8) : c.toNat ≤ 1000 := by have := c.toNat_lt; omega
set_option maxHeartbeats 1000000 in
set_option maxRecDepth 1000000 in
theorem name_yes (w : World) (b : Nat) (s : ByteArray) (c : UInt8) (u k t : Bs) (D L : Value) (h : PAt w b s (c :: u) D L) (hs : s.size ≤ 60000) (hp : pTake c.toNat u = some (k, t)) :
    Calls Tryz.prog 276 #[.pointer (some ⟨b, 0, none⟩)] w fun e w' => e = .returned (.tuple #[lstV k, .nilIface]) ∧ PAt w' b s t D L ∧ Turned (fun i => i = b) w w' := by
  have C := hid (oneByte_ok w b s c u D L h hs)
  have C2 := hid (fun w' (h : PAt w' b s u D L) => take_ok w' b s u D L h hs c.toNat (u8_lt1000 c) k t hp)
  clear h hp
  generalize c.toNat = n at *
  go_enter Tryz.func276, Tryz.ntmps276
  go_wp2_with (first | (go_at_call 235; refine C.out.mono ?_; rintro e w1 ⟨rfl, hP, hT⟩) | (go_at_call 165; refine (C2.out _ hP).mono ?_; rintro e w2 ⟨rfl, hP2, hT2⟩))
  go_ret2
  exact ⟨rfl, hP2, hT.trans hT2⟩
set_option maxHeartbeats 1000000 in
set_option maxRecDepth 1000000 in
theorem name_e0 (w : World) (b base : Nat) (A : Nat → Addr) (s : ByteArray) (D L : Value) (h : PAt w b s [] D L) (hS : Sent w A base) (hs : s.size ≤ 60000) :
    Calls Tryz.prog 276 #[.pointer (some ⟨b, 0, none⟩)] w fun e w' => ∃ ev, e = .returned (.tuple #[lstV [], ev]) ∧ Chain w' A 0 ev ∧ Turned (fun i => i = b) w w' := by
  have C := hid (oneByte_no w b base A s D L h hS hs)
  clear h hS
  go_enter Tryz.func276, Tryz.ntmps276
  go_wp2_with (fail)
  refine C.out.mono ?_
  rintro e w1 ⟨ev, rfl, hC, hT⟩
  have HC := hid hC
  obtain ⟨u, x, rfl⟩ := hC.iface
  clear hC
  go_wp2
  go_ret2
  exact ⟨_, rfl, HC.out, hT⟩
set_option maxHeartbeats 1000000 in
set_option maxRecDepth 1000000 in
theorem name_e1 (w : World) (b base : Nat) (A : Nat → Addr) (s : ByteArray) (c : UInt8) (u : Bs) (D L : Value) (h : PAt w b s (c :: u) D L) (hS : Sent w A base) (hb : base ≤ b) (hs : s.size ≤ 60000) (hp : pTake c.toNat u = none) :
    Calls Tryz.prog 276 #[.pointer (some ⟨b, 0, none⟩)] w fun e w' => ∃ ev, e = .returned (.tuple #[lstV [], ev]) ∧ Chain w' A 0 ev ∧ Turned (fun i => i = b) w w' := by
  have C := hid (oneByte_ok w b s c u D L h hs)
  have C2 := hid (fun w' (h : PAt w' b s u D L) (hS : Sent w' A base) => take_no w' b base A s u D L h hS hs c.toNat hp)
  have HS := hid hS
  clear h hp hS
  generalize c.toNat = n at *
  go_enter Tryz.func276, Tryz.ntmps276
  go_wp2_with (first | (go_at_call 235; refine C.out.mono ?_; rintro e w1 ⟨rfl, hP, hT⟩))
  refine (C2.out _ hP (HS.out.turned hT (fun i hi e => by omega))).mono ?_
  rintro e w2 ⟨ev, rfl, hC, hT2⟩
  have HC := hid hC
  obtain ⟨u, x, rfl⟩ := hC.iface
  clear hC
  go_wp2
  go_ret2
  exact ⟨_, rfl, HC.out, hT.trans hT2⟩
theorem name_ok {w : World} {b : Nat} {s : ByteArray} {r k t : Bs} {D L : Value} (h : PAt w b s r D L) (hs : s.size ≤ 60000) (hp : pName r = some (k, t)) :
    Calls Tryz.prog 276 #[.pointer (some ⟨b, 0, none⟩)] w fun e w' => e = .returned (.tuple #[lstV k, .nilIface]) ∧ PAt w' b s t D L ∧ Turned (fun i => i = b) w w' := by
  cases r with
  | nil => simp [pName, pByte] at hp
  | cons c u => exact name_yes w b s c u k t D L h hs (by simpa [pName, pByte] using hp)
theorem name_no {w : World} {b base : Nat} {A : Nat → Addr} {s : ByteArray} {r : Bs} {D L : Value} (h : PAt w b s r D L) (hS : Sent w A base) (hb : base ≤ b) (hs : s.size ≤ 60000) (hp : pName r = none) :
    Calls Tryz.prog 276 #[.pointer (some ⟨b, 0, none⟩)] w fun e w' => ∃ ev, e = .returned (.tuple #[lstV [], ev]) ∧ Chain w' A 0 ev ∧ Turned (fun i => i = b) w w' := by
  cases r with
  | nil => exact name_e0 w b base A s D L h hS hs
  | cons c u => exact name_e1 w b base A s c u D L h hS hb hs (by simpa [pName, pByte] using hp)

/-! ### width -/
set_option maxHeartbeats 1000000 in
set_option maxRecDepth 1000000 in
theorem width_yes (w : World) (b : Nat) (s : ByteArray) (c : UInt8) (u : Bs) (D L : Value) (h : PAt w b s (c :: u) D L) (hs : s.size ≤ 60000) (hc : c.toNat ≤ 8) :
    Calls Tryz.prog 318 #[.pointer (some ⟨b, 0, none⟩)] w fun e w' => e = .returned (.tuple #[.int .i64 (c.toNat : Int), .nilIface]) ∧ PAt w' b s u D L ∧ Turned (fun i => i = b) w w' := by
  have C := hid (oneByte_ok w b s c u D L h hs)
  obtain ⟨at_, h', _⟩ := h
  obtain ⟨c0, c1, c2, c3, cf⟩ := cell_par h'
  clear h' cf
  generalize c.toNat = n at *
  have hni : ¬ ((8 : Int) < (n : Int)) := by omega
  go_enter Tryz.func318, Tryz.ntmps318
  go_wp2_with (first | (go_at_call 235; refine C.out.mono ?_; rintro e w1 ⟨rfl, hP, hT⟩))
  go_ret2
  exact ⟨rfl, hP, hT⟩
set_option maxHeartbeats 1000000 in
set_option maxRecDepth 1000000 in
theorem width_e0 (w : World) (b base : Nat) (A : Nat → Addr) (s : ByteArray) (D L : Value) (h : PAt w b s [] D L) (hS : Sent w A base) (hs : s.size ≤ 60000) :
    Calls Tryz.prog 318 #[.pointer (some ⟨b, 0, none⟩)] w fun e w' => ∃ ev, e = .returned (.tuple #[.int .i64 0, ev]) ∧ Chain w' A 0 ev ∧ Turned (fun i => i = b) w w' := by
  have C := hid (oneByte_no w b base A s D L h hS hs)
  obtain ⟨at_, h', _⟩ := h
  obtain ⟨c0, c1, c2, c3, cf⟩ := cell_par h'
  clear h' cf hS
  go_enter Tryz.func318, Tryz.ntmps318
  go_wp2_with (fail)
  refine C.out.mono ?_
  rintro e w1 ⟨ev, rfl, hC, hT⟩
  have HC := hid hC
  obtain ⟨u, x, rfl⟩ := hC.iface
  clear hC
  go_wp2
  go_ret2
  exact ⟨_, rfl, HC.out, hT⟩
set_option maxHeartbeats 1000000 in
set_option maxRecDepth 1000000 in
theorem width_e1 (w : World) (b base : Nat) (A : Nat → Addr) (s : ByteArray) (c : UInt8) (u : Bs) (D L : Value) (h : PAt w b s (c :: u) D L) (hS : Sent w A base) (hb : base ≤ b) (hs : s.size ≤ 60000) (hc : ¬ c.toNat ≤ 8) :
    Calls Tryz.prog 318 #[.pointer (some ⟨b, 0, none⟩)] w fun e w' => ∃ ev, e = .returned (.tuple #[.int .i64 0, ev]) ∧ Chain w' A 0 ev ∧ Turned (fun i => i = b) w w' := by
  have C := hid (oneByte_ok w b s c u D L h hs)
  have HS := hid hS
  obtain ⟨at_, h', _⟩ := h
  obtain ⟨c0, c1, c2, c3, cf⟩ := cell_par h'
  clear h' cf hS
  generalize c.toNat = n at *
  have hni : (8 : Int) < (n : Int) := by omega
  clear hc
  go_enter Tryz.func318, Tryz.ntmps318
  go_wp2_with (first | (go_at_call 235; refine C.out.mono ?_; rintro e w1 ⟨rfl, hP, hT⟩; have g6 := (HS.out.turned hT (fun i hi e => by omega)).cell 6 (by simp)))
  go_region
  go_wp2
  go_ret2
  refine ⟨_, rfl, Chain.at_ (k := 6) (z := at_) ?_ (by simp) (by decide), ?_⟩
  · exact heap_alloc_new _ _
  · exact hT.trans (((Turned.refl _ w1).ofDrew 1).trans (Turned.ofAlloc _ _))
theorem width_ok {w : World} {b : Nat} {s : ByteArray} {r t : Bs} {n : Nat} {D L : Value} (h : PAt w b s r D L) (hs : s.size ≤ 60000) (hp : pWid r = some (n, t)) :
    Calls Tryz.prog 318 #[.pointer (some ⟨b, 0, none⟩)] w fun e w' => e = .returned (.tuple #[.int .i64 (n : Int), .nilIface]) ∧ PAt w' b s t D L ∧ Turned (fun i => i = b) w w' := by
  cases r with
  | nil => simp [pWid, pByte] at hp
  | cons c u =>
    simp only [pWid, pByte, Option.bind_some] at hp
    split at hp
    · rename_i hc
      simp only [Option.some.injEq, Prod.mk.injEq] at hp
      obtain ⟨rfl, rfl⟩ := hp
      exact width_yes w b s c u D L h hs hc
    · cases hp
theorem width_no {w : World} {b base : Nat} {A : Nat → Addr} {s : ByteArray} {r : Bs} {D L : Value} (h : PAt w b s r D L) (hS : Sent w A base) (hb : base ≤ b) (hs : s.size ≤ 60000) (hp : pWid r = none) :
    Calls Tryz.prog 318 #[.pointer (some ⟨b, 0, none⟩)] w fun e w' => ∃ ev, e = .returned (.tuple #[.int .i64 0, ev]) ∧ Chain w' A 0 ev ∧ Turned (fun i => i = b) w w' := by
  cases r with
  | nil => exact width_e0 w b base A s D L h hS hs
  | cons c u =>
    simp only [pWid, pByte, Option.bind_some] at hp
    split at hp
    · cases hp
    · rename_i hc
      exact width_e1 w b base A s c u D L h hS hb hs hc

/-! ### packed numbers -/
set_option maxRecDepth 100000 in
theorem packedSize_any (n : Nat) (hn : n ≤ 1000) (w : World) : Calls Tryz.prog 306 #[.int .i64 (n : Int)] w fun e w' => e = .returned (.int .i64 (psz n : Int)) ∧ w' = w := by
  go_enter Tryz.func306, Tryz.ntmps306
  go_wp2
  go_ret
  exact ⟨ret_int (by unfold psz; omega), rfl⟩
set_option maxHeartbeats 1000000 in
set_option maxRecDepth 1000000 in
/-- slices.Max: as mx. -/
theorem maxI_any (w : World) (base g cap n : Nat) (l : List Nat) (hn : n = l.length) (h : w.ownsRow base 3 1 (.slice (some ⟨g, 0, none⟩) n cap) n (l.map natV)) (h1 : 1 ≤ l.length) (h9 : l.length ≤ 1000) (hx : ∀ x ∈ l, x < 1048576) :
    Calls Tryz.prog 305 #[.slice (some ⟨g, 0, none⟩) n cap] w fun e w' => e = .returned (.int .i64 (mx l : Int)) ∧ w' = w := by
  subst hn
  have HC : Hid (∀ (j x : Nat), l[j]? = some x → w.cell? ⟨g, j, none⟩ = some (.int .i64 (x : Int))) := fun j x hj => by
    have hlt := (List.getElem?_eq_some_iff.1 hj).1
    rw [h.cellAt j (by omega), List.getElem?_map, hj]; rfl
  clear h
  obtain ⟨x0, hx0⟩ : ∃ x, l[0]? = some x := ⟨_, List.getElem?_eq_getElem (by omega)⟩
  have c0 := HC.out 0 x0 hx0
  have h1i : ¬ ((l.length : Int) < 1) := by omega
  have h1j : (0 : Int) < (l.length : Int) := by omega
  have h1k : 0 < l.length := by omega
  have hm1 : mx (l.take 1) = x0 := by
    cases l with
    | nil => simp at h1
    | cons a r => simp at hx0; subst hx0; simp [mx]
  go_enter Tryz.func305, Tryz.ntmps305
  go_wp2
  go_loopw [3, 4] (fun s3 s4 wr => ∃ (k m : Nat), s4 = .int .i64 (k : Int) ∧ s3 = .int .i64 (m : Int) ∧ 1 ≤ k ∧ k ≤ l.length ∧ wr = w ∧ Hid (mx (l.take k) = m)) (fun _ s4 _ => l.length - (intOf s4).toNat)
  case atStart => exact ⟨1, x0, rfl, rfl, by omega, by omega, rfl, hm1⟩
  case round =>
    obtain ⟨k, m, rfl, rfl, hk1, hk, rfl, HM⟩ := hrel
    by_cases hlt : k < l.length
    · have hlti : (k : Int) < (l.length : Int) := by omega
      obtain ⟨x, hxk⟩ : ∃ x, l[k]? = some x := ⟨_, List.getElem?_eq_getElem hlt⟩
      have hc := HC.out k x hxk
      have HM2 : Hid (mx (l.take (k + 1)) = max m x) := show _ = _ by
        have : l.take (k + 1) = l.take k ++ [x] := by rw [List.take_add_one, hxk]; rfl
        rw [this, mx_snoc, HM.out]
      clear hxk
      go_wp2
      go_roundw
      case rel => exact ⟨k + 1, max m x, by go_num, congrArg (Value.int .i64) (by omega), by omega, by omega, trivial, HM2⟩
      case measure => simp [intOf]; omega
    · have hlti : ¬ ((k : Int) < (l.length : Int)) := by omega
      have HF : Hid (mx l = m) := show _ = _ by rw [← HM.out, List.take_of_length_le (by omega)]
      go_wp2
      go_ret
      rw [HF.out]
      exact ⟨rfl, rfl⟩
theorem bitLen_bl (x : Nat) (h : x < 18446744073709551616) : Lib.bitLen x = bl x := by
  have key : ∀ f x, x < 2 ^ f → Lib.bitLenAux f x = bl x := by
    intro f
    induction f with
    | zero => intro x hx; have : x = 0 := by simpa using hx
              subst this; rfl
    | succ f ih =>
      intro x hx
      unfold Lib.bitLenAux
      by_cases h0 : x = 0
      · subst h0; rfl
      · rw [if_neg h0, ih (x / 2) (by rw [Nat.pow_succ] at hx; omega)]
        have h2 : ∀ w, bl x ≤ w ↔ 1 + bl (x / 2) ≤ w := by
          intro w
          cases w with
          | zero =>
            rw [bl_le]
            simp; omega
          | succ w =>
            rw [bl_le, Nat.pow_succ, show 1 + bl (x / 2) ≤ w + 1 ↔ bl (x / 2) ≤ w by omega, bl_le]
            omega
        have h3 := (h2 (bl x)).1 (Nat.le_refl _)
        have h4 := (h2 (1 + bl (x / 2))).2 (Nat.le_refl _)
        omega
  exact key 64 x (by omega)
set_option maxHeartbeats 1000000 in
set_option maxRecDepth 1000000 in
/-- widthOf: as wd. -/
theorem widthOf_any (w : World) (base g cap n : Nat) (l : List Nat) (hn : n = l.length) (h : w.ownsRow base 3 1 (.slice (some ⟨g, 0, none⟩) n cap) n (l.map natV)) (h1 : 1 ≤ l.length) (h9 : l.length ≤ 1000) (hx : ∀ x ∈ l, x < 1048576) :
    Calls Tryz.prog 281 #[.slice (some ⟨g, 0, none⟩) n cap] w fun e w' => e = .returned (.int .i64 (wd l : Int)) ∧ w' = w := by
  have C := hid (maxI_any w base g cap n l hn h h1 h9 hx)
  have hm : mx l < 1048576 := (mx_lt (by omega)).2 hx
  have HB : Hid (Lib.bitLen (mx l) = wd l) := bitLen_bl (mx l) (by omega)
  have C2 := hid (fun w' => Tryz.bits_Len (mx l : Int) w' (by omega) (by omega))
  clear h hx hn
  generalize mx l = m at *
  go_enter Tryz.func281, Tryz.ntmps281
  go_wp2_with (first | (go_at_call 305; refine C.out.mono ?_; rintro e w1 ⟨rfl, hw1⟩; subst hw1) | (go_at_call 126; refine (C2.out _).mono ?_; rintro e w1 ⟨rfl, hw1⟩; subst hw1))
  go_ret
  exact ⟨ret_int (by simp only [HB.out]), rfl⟩
end Go.Proofs.YtaacjjhmojecnaaGreatDoor

namespace Go.ScT
theorem leV_snoc (a : Bs) (c : UInt8) : leV (a ++ [c]) = leV a + 256 ^ a.length * c.toNat := by
  induction a with
  | nil => simp [leV]
  | cons b r ih =>
    simp only [List.cons_append, leV, ih, List.length_cons, Nat.pow_succ, Nat.mul_add]
    rw [show 256 * (256 ^ r.length * c.toNat) = 256 ^ r.length * 256 * c.toNat by rw [Nat.mul_comm (256 ^ r.length) 256, Nat.mul_assoc]]
    omega
theorem leV_take {x : Bs} {k : Nat} {c : UInt8} (h : x[k]? = some c) : leV (x.take (k + 1)) = leV (x.take k) + 256 ^ k * c.toNat := by
  have hk := (List.getElem?_eq_some_iff.1 h).1
  have : x.take (k + 1) = x.take k ++ [c] := by rw [List.take_add_one, h]; rfl
  rw [this, leV_snoc]
  simp only [List.length_take]
  rw [show min k x.length = k by omega]
theorem unp_get (w : Nat) : ∀ {k j X : Nat}, j < k → (unp w k X)[j]? = some (X / 2 ^ (w * j) % 2 ^ w)
  | k + 1, 0, X, _ => by simp [unp]
  | k + 1, j + 1, X, h => by
    simp only [unp, List.getElem?_cons_succ]
    rw [unp_get w (by omega), Nat.div_div_eq_div_mul, ← Nat.pow_add, Nat.mul_succ, Nat.add_comm]
end Go.ScT
namespace Go.Proofs.YtaacjjhmojecnaaGreatDoor
open Go.RowKit Go.ScT Go.Proofs

theorem and_mask (V wid : Nat) (hw : wid ≤ 8) (hV : V < 4294967296) : bits .and .u32 (V : Int) ((2 ^ wid - 1) % 4294967296) = ((V % 2 ^ wid : Nat) : Int) := by
  have hp : 2 ^ wid ≤ 256 := by have := Nat.pow_le_pow_right (n := 2) (by omega) hw; omega
  have hp0 := Nat.two_pow_pos wid
  have e : (2 ^ wid - 1 : Int) % 4294967296 = ((2 ^ wid - 1 : Nat) : Int) := by
    have : (2 : Int) ^ wid = ((2 ^ wid : Nat) : Int) := by simp
    rw [this]
    omega
  rw [e, u32_and_nat V (2 ^ wid - 1) hV (by omega), Nat.and_two_pow_sub_one_eq_mod]
theorem or_byte (W k : Nat) (c : UInt8) (hk : k ≤ 3) (hW : W < 256 ^ k) : bits .or .u32 (W : Int) ((c.toNat : Int) % 4294967296 * 2 ^ (8 * k) % 4294967296) = ((W + 256 ^ k * c.toNat : Nat) : Int) ∧ W + 256 ^ k * c.toNat < 256 ^ (k + 1) := by
  have hc := c.toNat_lt
  have e8 : (2 : Nat) ^ (8 * k) = 256 ^ k := by rw [Nat.pow_mul]
  have e8i : (2 : Int) ^ (8 * k) = ((256 ^ k : Nat) : Int) := by rw [← e8]; simp
  have hp : 256 ^ k ≤ 16777216 := by have := Nat.pow_le_pow_right (n := 256) (by omega) hk; omega
  have hp0 : 0 < 256 ^ k := Nat.pow_pos (by omega)
  have hcp : c.toNat * 256 ^ k ≤ 255 * 256 ^ k := Nat.mul_le_mul_right _ (by omega)
  have hlt : W + 256 ^ k * c.toNat < 256 ^ (k + 1) := by rw [Nat.pow_succ, Nat.mul_comm (256 ^ k) c.toNat]; omega
  refine ⟨?_, hlt⟩
  have e1 : (c.toNat : Int) % 4294967296 * 2 ^ (8 * k) % 4294967296 = ((c.toNat * 256 ^ k : Nat) : Int) := by
    rw [e8i, show (c.toNat : Int) % 4294967296 = (c.toNat : Int) by omega]
    have : ((c.toNat * 256 ^ k : Nat) : Int) = (c.toNat : Int) * ((256 ^ k : Nat) : Int) := by simp
    rw [← this]
    omega
  rw [e1, u32_or_nat W (c.toNat * 256 ^ k) (by omega) (by omega), Nat.or_comm, nat_join (8 * k) (c.toNat * 256 ^ k) W (by rw [e8]; exact Nat.mul_mod_left _ _) (by rw [e8]; exact hW), Nat.mul_comm, Nat.add_comm]
set_option maxHeartbeats 1000000 in
set_option maxRecDepth 1000000 in
/-- unpack: as unp; what is left. -/
theorem unpack_any (w : World) (x : Bs) (wid : Nat) (hw : wid ≤ 8) (hx : x.length ≤ 4) :
    Calls Tryz.prog 321 #[lstV x, .int .i64 (wid : Int)] w fun e w' => ∃ g cap, e = .returned (.tuple #[.slice (some ⟨g, 0, none⟩) 4 cap, .int .u32 ((leV x / 2 ^ (wid * 4) : Nat) : Int)]) ∧ w'.ownsRow w.heap.size 3 1 (.slice (some ⟨g, 0, none⟩) 4 cap) 4 ((unp wid 4 (leV x)).map natV) ∧ Below w.heap.size w w' := by
  have hi3' : (Tryz.prog.info? 3).map (fun i => (i.zero, i.size, i.bytes)) = some (some (.int .i64 0), 1, 8) := by kernel_rfl
  obtain ⟨i3, hi3, hy0, hy1, hy2⟩ := info_parts hi3'
  clear hi3'
  obtain ⟨X, hX⟩ : ∃ X, leV x = X := ⟨_, rfl⟩
  rw [hX]
  have HXX := hid hX
  clear hX
  go_enter Tryz.func321, Tryz.ntmps321
  go_wp2
  go_loopw [6, 10] (fun s6 s10 wr => ∃ (k W : Nat), s10 = .int .i64 (k : Int) ∧ s6 = .int .u32 (W : Int) ∧ k ≤ x.length ∧ W < 4294967296 ∧ w = wr ∧ Hid (leV (x.take k) = W)) (fun _ s10 _ => x.length - (intOf s10).toNat)
  case atStart => exact ⟨0, 0, rfl, rfl, by omega, by omega, rfl, hid (by simp [leV])⟩
  case round =>
    obtain ⟨k, W, rfl, rfl, hk, hW, rfl, HW⟩ := hrel
    by_cases hlt : k < x.length
    · have hlti : (k : Int) < (x.length : Int) := by omega
      obtain ⟨c, hc⟩ : ∃ c, x[k]? = some c := ⟨_, List.getElem?_eq_getElem hlt⟩
      have HV := hid (leV_take hc)
      have hob := or_byte W k c (by omega) (by rw [← HW.out]; have := leV_lt (x.take k); simp only [List.length_take] at this; rwa [show min k x.length = k by omega] at this)
      have hxk : (⟨x.toArray⟩ : ByteArray)[k]'(by simpa [ByteArray.size] using hlt) = c := by
        have := List.getElem?_eq_some_iff.1 hc
        exact this.2
      have hp4 : 256 ^ (k + 1) ≤ 4294967296 := by have := Nat.pow_le_pow_right (n := 256) (by omega) (show k + 1 ≤ 4 by omega); omega
      go_wp2
      go_roundw
      case rel =>
        refine ⟨k + 1, W + 256 ^ k * c.toNat, by go_num, ?_, by omega, by omega, trivial, ?_⟩
        · simp
        · show _ = _
          rw [HV.out, HW.out]
      case measure => simp [intOf]; omega
    · have hlti : ¬ ((k : Int) < (x.length : Int)) := by omega
      obtain rfl : W = X := by rw [← HW.out, ← HXX.out, List.take_of_length_le (by omega)]
      clear HW HXX
      obtain ⟨l, hl⟩ : ∃ l, unp wid 4 W = l := ⟨_, rfl⟩
      have hl4 : l.length = 4 := by rw [← hl]; exact unp_len _ _ _
      have HG : Hid (∀ j, j < 4 → l.take (j + 1) = l.take j ++ [W / 2 ^ (wid * j) % 2 ^ wid]) := fun j hj => by
        rw [List.take_add_one, ← hl, unp_get wid hj]; rfl
      have HL := hid hl
      clear hl
      go_wp2
      go_loopw [4, 6, 23] (fun s4 s6 s23 wr => ∃ (j V : Nat), s23 = .int .i64 (j : Int) ∧ s6 = .int .u32 (V : Int) ∧ j ≤ 4 ∧ V < 4294967296 ∧ Hid (wr.ownsRow w.heap.size 3 1 s4 (l.take j).length ((l.take j).map natV)) ∧ Hid (Below w.heap.size w wr) ∧ Hid (W / 2 ^ (wid * j) = V)) (fun _ _ s23 _ => 4 - (intOf s23).toNat)
      case atStart => exact ⟨0, W, rfl, rfl, by omega, hW, hid ⟨rfl, Or.inl ⟨rfl, rfl⟩⟩, Below.refl _ _, hid (by simp)⟩
      case round =>
        obtain ⟨j, V, rfl, rfl, hj, hV, HO, HB, HD⟩ := hrel
        have hsz := HB.out.size
        by_cases hj4 : j < 4
        · have hj4i : (j : Int) < 4 := by omega
          have hln : (l.take j).length = j := by simp; omega
          have hm := and_mask V wid hw hV
          have HGj := HG.out j hj4
          rw [HD.out] at HGj
          have hp : 2 ^ wid ≤ 256 := by have := Nat.pow_le_pow_right (n := 2) (by omega) hw; omega
          have hml := Nat.mod_lt V (Nat.two_pow_pos wid)
          have HD2 : Hid (W / 2 ^ (wid * (j + 1)) = V / 2 ^ wid) := show _ = _ by rw [Nat.mul_succ, Nat.pow_add, ← Nat.div_div_eq_div_mul, HD.out]
          have hVd : V / 2 ^ wid ≤ V := Nat.div_le_self _ _
          have HVC : Hid ((V : Int) / 2 ^ wid = ((V / 2 ^ wid : Nat) : Int)) := show _ = _ by simp
          generalize V % 2 ^ wid = m at *
          have HGG := hid HGj
          clear HGj
          go_wp2_with (first
            | (at_builtin; refine wpList_append_lies _ rfl _ _ 35 rfl w.heap.size 3 i3 (.int .i64 0) 1 8 Tryz.underlying35 hi3 hy0 hy1 hy2 rfl (by decide) _ _ _ rfl (HO.out.alloc _) ⟨wr.heap.size, 0, none⟩ 1 1 [natV m] rfl rfl (cell_one_new _ _ _) (fun x hx => by simp at hx; subst hx; rfl) (by omega) (by unfold maxLen; omega) (by omega) (by simp; omega) (wr.heap.size + 1) (by simp) ?_; intro gA capA w5 hownA hgrowA hatA hltA; have hB5 := below_row HB.out HO.out hgrowA))
          go_roundw
          case rel =>
            refine ⟨j + 1, V / 2 ^ wid, by go_num, by rw [HVC.out], by omega, by omega, ?_, hB5, HD2⟩
            rw [HGG.out]
            exact hid (by simpa [hln] using hownA)
          case measure => simp [intOf]; omega
        · have hj4i : ¬ ((j : Int) < 4) := by omega
          obtain rfl : j = 4 := by omega
          have hlt4 : l.take 4 = l := List.take_of_length_le (by omega)
          rw [hlt4, hl4] at HO
          obtain ⟨g, cap, rfl⟩ : ∃ g cap, u4 = .slice (some ⟨g, 0, none⟩) 4 cap := by
            obtain ⟨g, cap, ao, hve, _, hao⟩ := ownsRow_shape HO.out
            exact ⟨g, cap, by rw [hve, hao (by omega)]⟩
          go_wp2
          go_ret2
          have HVV : ((W : Int) / 2 ^ (wid * 4)) = (V : Int) := by rw [← HD.out]; simp
          rw [HL.out, HVV]
          exact ⟨g, cap, rfl, HO.out, HB.out⟩

/-! ### packed -/
theorem psz_le (n : Nat) (h : n ≤ 8) : psz n ≤ 4 := by unfold psz; omega
set_option maxHeartbeats 1000000 in
set_option maxRecDepth 1000000 in
theorem packed_yes (w : World) (b : Nat) (s : ByteArray) (r x t : Bs) (D L : Value) (h : PAt w b s r D L) (hs : s.size ≤ 60000) (wid : Nat) (hw : wid ≤ 8) (hp : pTake (psz wid) r = some (x, t)) (h1 : leV x / 2 ^ (wid * 4) = 0) (h2 : wd (unp wid 4 (leV x)) = wid) :
    Calls Tryz.prog 319 #[.pointer (some ⟨b, 0, none⟩), .int .i64 (wid : Int)] w fun e w' => ∃ g cap, e = .returned (.tuple #[.slice (some ⟨g, 0, none⟩) 4 cap, .nilIface]) ∧ w'.ownsRow w.heap.size 3 1 (.slice (some ⟨g, 0, none⟩) 4 cap) 4 ((unp wid 4 (leV x)).map natV) ∧ PAt w' b s t D L ∧ Turned (fun i => i = b) w w' := by
  have hx4 : x.length ≤ 4 := by
    have := (pTake_iff.1 hp).2
    have := psz_le wid hw
    omega
  have C0 := hid (fun w' => packedSize_any wid (by omega) w')
  have C1 := hid (take_ok w b s r D L h hs (psz wid) (by have := psz_le wid hw; omega) x t hp)
  have C2 := hid (fun w' => unpack_any w' x wid hw hx4)
  have hul := unp_len wid 4 (leV x)
  have hub : ∀ n ∈ unp wid 4 (leV x), n < 1048576 := fun n hn => by
    have h3 := unp_lt wid 4 (leV x) n hn
    have := Nat.pow_le_pow_right (n := 2) (by omega) hw
    omega
  have C3 : Hid (∀ w' g cap base, w'.ownsRow base 3 1 (.slice (some ⟨g, 0, none⟩) 4 cap) 4 ((unp wid 4 (leV x)).map natV) → Calls Tryz.prog 281 #[.slice (some ⟨g, 0, none⟩) 4 cap] w' fun e w'' => e = .returned (.int .i64 (wid : Int)) ∧ w'' = w') := fun w' g cap base hr => by
    have := widthOf_any w' base g cap 4 (unp wid 4 (leV x)) hul.symm hr (by omega) (by omega) hub
    rw [h2] at this
    exact this
  rw [h1] at C2
  obtain ⟨at_, h', _⟩ := h
  obtain ⟨c0, c1, c2, c3, cf⟩ := cell_par h'
  clear h' cf h1 h2 hp hub hul
  generalize unp wid 4 (leV x) = l at *
  generalize psz wid = pz at *
  go_enter Tryz.func319, Tryz.ntmps319
  go_wp2_with (first
    | (go_at_call 306; refine (C0.out _).mono ?_; rintro e w1 ⟨rfl, hw1⟩; subst hw1)
    | (go_at_call 165; refine C1.out.mono ?_; rintro e w1 ⟨rfl, hP, hT⟩)
    | (go_at_call 321; refine (C2.out _).mono ?_; rintro e w2 ⟨g, cap, rfl, hO, hB⟩)
    | (go_at_call 281; refine (C3.out _ _ _ _ hO).mono ?_; rintro e w3 ⟨rfl, hw3⟩; subst hw3))
  go_ret2
  exact ⟨g, cap, rfl, World.ownsRow.mono hO hT.size, hP.turned (Turned.ofBelow (Z := fun _ => False) hB) (fun e => e), hT.trans (Turned.ofBelow hB)⟩
set_option maxHeartbeats 1000000 in
set_option maxRecDepth 1000000 in
theorem packed_e0 (w : World) (b base : Nat) (A : Nat → Addr) (s : ByteArray) (r : Bs) (D L : Value) (h : PAt w b s r D L) (hS : Sent w A base) (hs : s.size ≤ 60000) (wid : Nat) (hw : wid ≤ 8) (hp : pTake (psz wid) r = none) :
    Calls Tryz.prog 319 #[.pointer (some ⟨b, 0, none⟩), .int .i64 (wid : Int)] w fun e w' => ∃ ev, e = .returned (.tuple #[.slice none 0 0, ev]) ∧ Chain w' A 0 ev ∧ Turned (fun i => i = b) w w' := by
  have C0 := hid (fun w' => packedSize_any wid (by omega) w')
  have C1 := hid (take_no w b base A s r D L h hS hs (psz wid) hp)
  obtain ⟨at_, h', _⟩ := h
  obtain ⟨c0, c1, c2, c3, cf⟩ := cell_par h'
  clear h' cf hS hp
  generalize psz wid = pz at *
  go_enter Tryz.func319, Tryz.ntmps319
  go_wp2_with (first | (go_at_call 306; refine (C0.out _).mono ?_; rintro e w1 ⟨rfl, hw1⟩; subst hw1))
  refine C1.out.mono ?_
  rintro e w1 ⟨ev, rfl, hC, hT⟩
  have HC := hid hC
  obtain ⟨u, x, rfl⟩ := hC.iface
  clear hC
  go_wp2
  go_ret2
  exact ⟨_, rfl, HC.out, hT⟩
set_option maxHeartbeats 1000000 in
set_option maxRecDepth 1000000 in
theorem packed_e1 (w : World) (b base : Nat) (A : Nat → Addr) (s : ByteArray) (r x t : Bs) (D L : Value) (h : PAt w b s r D L) (hS : Sent w A base) (hb : base ≤ b) (hs : s.size ≤ 60000) (wid : Nat) (hw : wid ≤ 8) (hp : pTake (psz wid) r = some (x, t)) (h1 : ¬ (leV x / 2 ^ (wid * 4) = 0 ∧ wd (unp wid 4 (leV x)) = wid)) :
    Calls Tryz.prog 319 #[.pointer (some ⟨b, 0, none⟩), .int .i64 (wid : Int)] w fun e w' => ∃ ev, e = .returned (.tuple #[.slice none 0 0, ev]) ∧ Chain w' A 0 ev ∧ Turned (fun i => i = b) w w' := by
  have hx4 : x.length ≤ 4 := by
    have := (pTake_iff.1 hp).2
    have := psz_le wid hw
    omega
  have C0 := hid (fun w' => packedSize_any wid (by omega) w')
  have C1 := hid (take_ok w b s r D L h hs (psz wid) (by have := psz_le wid hw; omega) x t hp)
  have C2 := hid (fun w' => unpack_any w' x wid hw hx4)
  have hul := unp_len wid 4 (leV x)
  have hub : ∀ n ∈ unp wid 4 (leV x), n < 1048576 := fun n hn => by
    have h3 := unp_lt wid 4 (leV x) n hn
    have := Nat.pow_le_pow_right (n := 2) (by omega) hw
    omega
  have C3 : Hid (∀ w' g cap base, w'.ownsRow base 3 1 (.slice (some ⟨g, 0, none⟩) 4 cap) 4 ((unp wid 4 (leV x)).map natV) → Calls Tryz.prog 281 #[.slice (some ⟨g, 0, none⟩) 4 cap] w' fun e w'' => e = .returned (.int .i64 (wd (unp wid 4 (leV x)) : Int)) ∧ w'' = w') := fun w' g cap base hr =>
    widthOf_any w' base g cap 4 (unp wid 4 (leV x)) hul.symm hr (by omega) (by omega) hub
  have HS := hid hS
  obtain ⟨at_, h', _⟩ := h
  obtain ⟨c0, c1, c2, c3, cf⟩ := cell_par h'
  clear h' cf hp hub hul hS
  generalize wd (unp wid 4 (leV x)) = m at *
  generalize unp wid 4 (leV x) = l at *
  generalize leV x / 2 ^ (wid * 4) = q at *
  generalize psz wid = pz at *
  by_cases hq : q = 0
  · subst hq
    have hmw : ((m : Int) == (wid : Int)) = false := by simp; omega
    clear h1
    go_enter Tryz.func319, Tryz.ntmps319
    go_wp2_with (first
      | (go_at_call 306; refine (C0.out _).mono ?_; rintro e w1 ⟨rfl, hw1⟩; subst hw1)
      | (go_at_call 165; refine C1.out.mono ?_; rintro e w1 ⟨rfl, hP, hT⟩)
      | (go_at_call 321; refine (C2.out _).mono ?_; rintro e w2 ⟨g, cap, rfl, hO, hB⟩; have hS2 := (HS.out.turned hT (fun i hi e => by omega)).below hB; have g2 := hS2.cell 2 (by simp); clear hS2)
      | (go_at_call 281; refine (C3.out _ _ _ _ hO).mono ?_; rintro e w3 ⟨rfl, hw3⟩; subst hw3))
    go_region
    go_wp2
    go_ret2
    refine ⟨_, rfl, Chain.at_ (k := 2) (z := at_) ?_ (by simp) (by decide), ?_⟩
    · exact heap_alloc_new _ _
    · exact (hT.trans (Turned.ofBelow hB)).trans (((Turned.refl _ _).ofDrew 1).trans (Turned.ofAlloc _ _))
  · have hqi : ((q : Int) == 0) = false := by simp; omega
    clear h1
    go_enter Tryz.func319, Tryz.ntmps319
    go_wp2_with (first
      | (go_at_call 306; refine (C0.out _).mono ?_; rintro e w1 ⟨rfl, hw1⟩; subst hw1)
      | (go_at_call 165; refine C1.out.mono ?_; rintro e w1 ⟨rfl, hP, hT⟩)
      | (go_at_call 321; refine (C2.out _).mono ?_; rintro e w2 ⟨g, cap, rfl, hO, hB⟩; have hS2 := (HS.out.turned hT (fun i hi e => by omega)).below hB; have g2 := hS2.cell 2 (by simp); clear hS2))
    go_region
    go_wp2
    go_ret2
    refine ⟨_, rfl, Chain.at_ (k := 2) (z := at_) ?_ (by simp) (by decide), ?_⟩
    · exact heap_alloc_new _ _
    · exact (hT.trans (Turned.ofBelow hB)).trans (((Turned.refl _ _).ofDrew 1).trans (Turned.ofAlloc _ _))
theorem packed_ok {w : World} {b : Nat} {s : ByteArray} {r t : Bs} {l : List Nat} {D L : Value} (h : PAt w b s r D L) (hs : s.size ≤ 60000) {wid : Nat} (hw : wid ≤ 8) (hp : pPack wid r = some (l, t)) :
    Calls Tryz.prog 319 #[.pointer (some ⟨b, 0, none⟩), .int .i64 (wid : Int)] w fun e w' => ∃ g cap, e = .returned (.tuple #[.slice (some ⟨g, 0, none⟩) 4 cap, .nilIface]) ∧ w'.ownsRow w.heap.size 3 1 (.slice (some ⟨g, 0, none⟩) 4 cap) 4 (l.map natV) ∧ PAt w' b s t D L ∧ Turned (fun i => i = b) w w' := by
  unfold pPack at hp
  obtain ⟨⟨x, u⟩, h1, h2⟩ := Option.bind_eq_some_iff.1 hp
  simp only at h2
  split at h2
  · rename_i hc
    simp only [Option.some.injEq, Prod.mk.injEq] at h2
    obtain ⟨rfl, rfl⟩ := h2
    exact packed_yes w b s r x u D L h hs wid hw h1 hc.1 hc.2
  · cases h2
theorem packed_no {w : World} {b base : Nat} {A : Nat → Addr} {s : ByteArray} {r : Bs} {D L : Value} (h : PAt w b s r D L) (hS : Sent w A base) (hb : base ≤ b) (hs : s.size ≤ 60000) {wid : Nat} (hw : wid ≤ 8) (hp : pPack wid r = none) :
    Calls Tryz.prog 319 #[.pointer (some ⟨b, 0, none⟩), .int .i64 (wid : Int)] w fun e w' => ∃ ev, e = .returned (.tuple #[.slice none 0 0, ev]) ∧ Chain w' A 0 ev ∧ Turned (fun i => i = b) w w' := by
  unfold pPack at hp
  cases h1 : pTake (psz wid) r with
  | none => exact packed_e0 w b base A s r D L h hS hs wid hw h1
  | some x =>
    obtain ⟨x, u⟩ := x
    rw [h1] at hp
    simp only [Option.bind_some] at hp
    split at hp
    · cases hp
    · rename_i hc
      exact packed_e1 w b base A s r x u D L h hS hb hs wid hw h1 hc
end Go.Proofs.YtaacjjhmojecnaaGreatDoor
