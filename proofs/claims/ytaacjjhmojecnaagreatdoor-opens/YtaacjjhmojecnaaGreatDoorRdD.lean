/- The program's reader: keys and documents. -/
import Derived.Test.YtaacjjhmojecnaaGreatDoorRdAC
import Derived.Deep.DeepMust
import Derived.Deep.RegionLaw
namespace Go.Proofs.YtaacjjhmojecnaaGreatDoor
open Go.RowKit Go.ScT Go.Proofs Go.Shelf

/-! ### rows of documents -/
def docC : List DocP → List Value
  | [] => []
  | d :: r => natV d.1 :: lstV d.2.1 :: natV d.2.2 :: docC r
theorem docC_len : ∀ ds : List DocP, (docC ds).length = ds.length * 3
  | [] => rfl
  | d :: r => by simp only [docC, List.length_cons, docC_len r]; omega
theorem docC_snoc : ∀ (ds : List DocP) (d : DocP), docC (ds ++ [d]) = docC ds ++ [natV d.1, lstV d.2.1, natV d.2.2]
  | [], d => rfl
  | e :: r, d => by simp [docC, docC_snoc r d]
theorem docC_get : ∀ {ds : List DocP} {i : Nat} {d : DocP}, ds[i]? = some d → (docC ds)[i * 3]? = some (natV d.1) ∧ (docC ds)[i * 3 + 1]? = some (lstV d.2.1) ∧ (docC ds)[i * 3 + 2]? = some (natV d.2.2)
  | e :: r, 0, d, h => by simp at h; subst h; simp [docC]
  | e :: r, i + 1, d, h => by
    simp only [List.getElem?_cons_succ] at h
    have := docC_get h
    rw [show (i + 1) * 3 = i * 3 + 3 by omega]
    simpa [docC] using this
  | [], i, d, h => by simp at h
/-- The documents of a content in memory. -/
abbrev DRow (w : World) (base : Nat) (D : Value) (ds : List DocP) : Prop := w.ownsRow base 141 3 D ds.length (docC ds)
theorem DRow.cells {w : World} {base g n cap : Nat} {ds : List DocP} (h : DRow w base (.slice (some ⟨g, 0, none⟩) n cap) ds) {i : Nat} {d : DocP} (hd : ds[i]? = some d) :
    w.cell? ⟨g, i * 3, none⟩ = some (natV d.1) ∧ w.cell? ⟨g, i * 3 + 1, none⟩ = some (lstV d.2.1) ∧ w.cell? ⟨g, i * 3 + 2, none⟩ = some (natV d.2.2) := by
  have hi := (List.getElem?_eq_some_iff.1 hd).1
  have hn : n = ds.length := by
    obtain ⟨_, _, _, e, _, _⟩ := ownsRow_shape h
    injection e
  subst hn
  obtain ⟨c0, c1, c2⟩ := docC_get hd
  exact ⟨by rw [h.cellAt _ (by omega), c0], by rw [h.cellAt _ (by omega), c1], by rw [h.cellAt _ (by omega), c2]⟩
/-- Is the key among these? -/
def hasK (ds : List DocP) (k : Bs) : Bool := ds.any fun d => d.2.1 == k

set_option maxHeartbeats 400000 in
theorem cloKey (a b : Int) (x k : Bs) (B : Nat) (w : World) (hB : w.cell? ⟨B, 0, none⟩ = some (lstV k)) (hlt : B < w.heap.size) :
    Calls Tryz.prog 302 #[.agg #[.int .i64 a, lstV x, .int .i64 b], .pointer (some ⟨B, 0, none⟩)] w fun e w' => e = .returned (.bool (x == k)) ∧ Below w.heap.size w w' := by
  have hB' : ∀ o, (w.alloc o).cell? ⟨B, 0, none⟩ = some (lstV k) := fun o => by rw [World.cell?_of_block (Below.heap_alloc _ _ _ hlt)]; exact hB
  go_enter Tryz.func302, Tryz.ntmps302
  go_wp2
  go_ret
  exact ⟨rfl, (Below.refl _ _).alloc (Nat.le_refl _) _⟩
theorem entersKey : ∀ args w, (callFunc 302 args).run Tryz.prog w = .ok (.enter 302 args) w := enters_of Tryz.func302 (by kernel_rfl) rfl
set_option maxHeartbeats 1000000 in
set_option maxRecDepth 1000000 in
theorem indexKey (w : World) (base B : Nat) (D : Value) (ds : List DocP) (k : Bs) (h : DRow w base D ds) (hl : ds.length ≤ 1000) (hB : w.cell? ⟨B, 0, none⟩ = some (lstV k)) (hlt : B < w.heap.size) :
    Calls Tryz.prog 233 #[D, .func (.func 302) #[] #[.pointer (some ⟨B, 0, none⟩)]] w fun e w' => ∃ r : Int, e = .returned (.int .i64 r) ∧ (0 ≤ r ↔ hasK ds k = true) ∧ Below w.heap.size w w' := by
  obtain ⟨g, cap, ao, rfl, _, hao⟩ := ownsRow_shape h
  have HR := hid h
  have HB := hid hB
  have e93 := entersKey
  clear h hB
  go_enter Tryz.func233, Tryz.ntmps233
  go_wp2
  go_loopw [8] (fun s8 wr => ∃ j : Nat, j ≤ ds.length ∧ s8 = .int .i64 (j : Int) ∧ Hid (Below w.heap.size w wr) ∧ Hid (hasK (ds.take j) k = false)) (fun s8 _ => ds.length - (intOf s8).toNat)
  case atStart => exact ⟨0, by omega, rfl, Below.refl _ _, hid (by simp [hasK])⟩
  case round =>
    obtain ⟨j, hj, rfl, HBw, HN⟩ := hrel
    have hsz := HBw.out.size
    by_cases hjl : j < ds.length
    · have hjli : (j : Int) < (ds.length : Int) := by omega
      obtain ⟨d, hd⟩ : ∃ d, ds[j]? = some d := ⟨_, List.getElem?_eq_getElem hjl⟩
      obtain rfl := hao (by omega)
      have hr2 := ownsRow_turned HR.out (Turned.ofBelow (Z := fun _ => False) HBw.out) (fun _ _ e => e)
      obtain ⟨d0, d1, d2⟩ := DRow.cells hr2 hd
      have hB2 : wr.cell? ⟨B, 0, none⟩ = some (lstV k) := by rw [World.cell?_of_block (HBw.out.block B hlt)]; exact HB.out
      have C := hid (cloKey (d.1 : Int) (d.2.2 : Int) d.2.1 k B wr hB2 (by omega))
      have HT : Hid (hasK (ds.take (j + 1)) k = (hasK (ds.take j) k || (d.2.1 == k))) := show _ = _ by
        rw [List.take_add_one, hd]; simp [hasK]
      have HA : Hid ((d.2.1 == k) = true → hasK ds k = true) := fun e => List.any_eq_true.2 ⟨d, List.mem_of_getElem? hd, e⟩
      clear hr2 hd hB2
      cases he : (d.2.1 == k) with
      | true =>
        rw [he] at C HA
        have HA2 := hid (HA.out rfl)
        clear HA HT
        go_wp2_with (first | (go_at_call 302; refine C.out.mono ?_; rintro e w2 ⟨rfl, hb2⟩))
        go_ret
        exact ⟨_, rfl, by rw [HA2.out]; simp, HBw.out.trans (hb2.mono hsz)⟩
      | false =>
        rw [he, HN.out] at HT
        rw [he] at C
        go_wp2_with (first | (go_at_call 302; refine C.out.mono ?_; rintro e w2 ⟨rfl, hb2⟩))
        go_roundw
        case rel => exact ⟨j + 1, by omega, by go_num, HBw.out.trans (hb2.mono hsz), hid (by rw [HT.out]; rfl)⟩
        case measure => simp [intOf]; omega
    · have hjli : ¬ ((j : Int) < (ds.length : Int)) := by omega
      have HF : Hid (hasK ds k = false) := show _ = _ by have := HN.out; rwa [List.take_of_length_le (by omega)] at this
      go_wp2
      go_ret
      exact ⟨_, rfl, by rw [HF.out]; simp, HBw.out⟩

set_option maxHeartbeats 1000000 in
set_option maxRecDepth 1000000 in
theorem containsKey (w : World) (base B : Nat) (D : Value) (ds : List DocP) (k : Bs) (h : DRow w base D ds) (hl : ds.length ≤ 1000) (hB : w.cell? ⟨B, 0, none⟩ = some (lstV k)) (hlt : B < w.heap.size) :
    Calls Tryz.prog 301 #[D, .func (.func 302) #[] #[.pointer (some ⟨B, 0, none⟩)]] w fun e w' => e = .returned (.bool (hasK ds k)) ∧ Below w.heap.size w w' := by
  have C := hid (indexKey w base B D ds k h hl hB hlt)
  obtain ⟨g, cap, ao, rfl, _, hao⟩ := ownsRow_shape h
  clear h hB hao
  go_enter Tryz.func301, Tryz.ntmps301
  go_wp2_with (first | (go_at_call 233; refine C.out.mono ?_; rintro e w2 ⟨r, rfl, hr, hb2⟩))
  go_ret
  refine ⟨?_, hb2⟩
  by_cases h0 : 0 ≤ r
  · rw [hr.1 h0]; simp
  · have : hasK ds k = false := by
      cases hk : hasK ds k with
      | false => rfl
      | true => exact absurd (hr.2 hk) h0
    rw [this]; simp
set_option maxHeartbeats 1000000 in
set_option maxRecDepth 1000000 in
theorem hasKey_any (w : World) (b base : Nat) (s : ByteArray) (r : Bs) (D L : Value) (ds : List DocP) (k : Bs) (h : PAt w b s r D L) (hD : DRow w base D ds) (hl : ds.length ≤ 1000) :
    Calls Tryz.prog 277 #[.pointer (some ⟨b, 0, none⟩), lstV k] w fun e w' => e = .returned (.bool (hasK ds k)) ∧ Below w.heap.size w w' := by
  have hbl := h.lt
  have C := hid (containsKey (w.alloc (.cells #[lstV k] 9)) base w.heap.size D ds k (ownsRow_turned hD (Turned.ofAlloc (Z := fun _ => False) w _) (fun _ _ e => e)) hl (by have hn := heap_alloc_new w (.cells #[lstV k] 9); simp only [World.cell?, hn]; rfl) (by simp))
  obtain ⟨at_, h', _⟩ := h
  obtain ⟨c0, c1, c2, c3, cf⟩ := cell_par h'
  obtain ⟨g, cap, ao, rfl, _, hao⟩ := ownsRow_shape hD
  have c2' : (w.alloc (.cells #[lstV k] 9)).cell? ⟨b, 2, none⟩ = some (.slice ao ds.length cap) := by rw [World.cell?_of_block (Below.heap_alloc _ _ _ hbl)]; exact c2
  clear h' cf hao hD
  go_enter Tryz.func277, Tryz.ntmps277
  go_wp2_with (first | (go_at_call 301; refine C.out.mono ?_; rintro e w2 ⟨rfl, hb2⟩))
  go_ret
  exact ⟨rfl, ((Below.refl _ w).alloc (Nat.le_refl _) _).trans (hb2.mono (by simp))⟩
theorem isKey_lst (k : Bs) (w : World) (hm : k.length ≤ 1000) : Calls Tryz.prog 46 #[lstV k] w fun e w' => e = .returned (.bool (keyOk k)) ∧ Below w.heap.size w w' := by
  have := isKey_any ⟨k.toArray⟩ w (by unfold maxLen; simp [ByteArray.size]; omega)
  simpa using this
set_option maxHeartbeats 1000000 in
set_option maxRecDepth 1000000 in
theorem readKey_ok0 (w : World) (b base : Nat) (s : ByteArray) (r k t : Bs) (D L : Value) (ds : List DocP) (h : PAt w b s r D L) (hD : DRow w base D ds) (hl : ds.length ≤ 1000) (hs : s.size ≤ 60000) (hbb : b < base) (hp : pName r = some (k, t)) (h1 : keyOk k = true) (h2 : hasK ds k = false) :
    Calls Tryz.prog 236 #[.pointer (some ⟨b, 0, none⟩)] w fun e w' => e = .returned (.tuple #[lstV k, .nilIface]) ∧ PAt w' b s t D L ∧ Turned (fun i => i = b) w w' := by
  have C := hid (name_ok h hs hp)
  have hkl : k.length ≤ 1000 := by have := (pName_iff.1 hp).2; omega
  have C2 := hid (fun w' => isKey_lst k w' hkl)
  have C3 := hid (fun w' (h : PAt w' b s t D L) (hD : DRow w' base D ds) => hasKey_any w' b base s t D L ds k h hD hl)
  rw [h1] at C2
  rw [h2] at C3
  have HD := hid hD
  obtain ⟨at_, h', _⟩ := h
  obtain ⟨c0, c1, c2, c3, cf⟩ := cell_par h'
  clear h' cf hp h1 h2 hD
  go_enter Tryz.func236, Tryz.ntmps236
  go_wp2_with (first
    | (go_at_call 276; refine C.out.mono ?_; rintro e w1 ⟨rfl, hP, hT⟩; have HD1 := hid (ownsRow_turned HD.out hT (fun g hg e => by have := (HD.out.lt g hg).1; omega)))
    | (go_at_call 46; refine (C2.out _).mono ?_; rintro e w2 ⟨rfl, hb2⟩; have hP2 := hP.turned (Turned.ofBelow (Z := fun _ => False) hb2) (fun e => e); have HD2 := hid (ownsRow_turned HD1.out (Turned.ofBelow (Z := fun _ => False) hb2) (fun _ _ e => e)))
    | (go_at_call 277; refine (C3.out _ hP2 HD2.out).mono ?_; rintro e w3 ⟨rfl, hb3⟩))
  go_ret2
  exact ⟨rfl, hP2.turned (Turned.ofBelow (Z := fun _ => False) hb3) (fun e => e), (hT.trans (Turned.ofBelow hb2)).trans (Turned.ofBelow hb3)⟩
set_option maxHeartbeats 1000000 in
set_option maxRecDepth 1000000 in
theorem readKey_e0 (w : World) (b base : Nat) (A : Nat → Addr) (s : ByteArray) (r : Bs) (D L : Value) (h : PAt w b s r D L) (hS : Sent w A base) (hb : base ≤ b) (hs : s.size ≤ 60000) (hp : pName r = none) :
    Calls Tryz.prog 236 #[.pointer (some ⟨b, 0, none⟩)] w fun e w' => ∃ ev, e = .returned (.tuple #[lstV [], ev]) ∧ Chain w' A 0 ev ∧ Turned (fun i => i = b) w w' := by
  have C := hid (name_no h hS hb hs hp)
  obtain ⟨at_, h', _⟩ := h
  obtain ⟨c0, c1, c2, c3, cf⟩ := cell_par h'
  clear h' cf hp hS
  go_enter Tryz.func236, Tryz.ntmps236
  go_wp2_with (fail)
  refine C.out.mono ?_
  rintro e w1 ⟨ev, rfl, hC, hT⟩
  have HC := hid hC
  obtain ⟨u, x, rfl⟩ := hC.iface
  clear hC
  go_wp2
  go_ret2
  exact ⟨_, rfl, HC.out, hT⟩
set_option maxHeartbeats 1000000 in
set_option maxRecDepth 1000000 in
theorem readKey_e1 (w : World) (b base base2 : Nat) (A : Nat → Addr) (s : ByteArray) (r k t : Bs) (D L : Value) (ds : List DocP) (h : PAt w b s r D L) (hS : Sent w A base) (hb : base ≤ b) (hD : DRow w base2 D ds) (hl : ds.length ≤ 1000) (hs : s.size ≤ 60000) (hbb : b < base2) (hp : pName r = some (k, t)) (h1 : keyOk k = false ∨ hasK ds k = true) :
    Calls Tryz.prog 236 #[.pointer (some ⟨b, 0, none⟩)] w fun e w' => ∃ ev, e = .returned (.tuple #[lstV [], ev]) ∧ Chain w' A 0 ev ∧ Turned (fun i => i = b) w w' := by
  have C := hid (name_ok h hs hp)
  have hkl : k.length ≤ 1000 := by have := (pName_iff.1 hp).2; omega
  have C2 := hid (fun w' => isKey_lst k w' hkl)
  have C3 := hid (fun w' (h : PAt w' b s t D L) (hD : DRow w' base2 D ds) => hasKey_any w' b base2 s t D L ds k h hD hl)
  have HD := hid hD
  have HS := hid hS
  obtain ⟨at_, h', _⟩ := h
  obtain ⟨c0, c1, c2, c3, cf⟩ := cell_par h'
  clear h' cf hp hD hS
  cases hk : keyOk k with
  | false =>
    rw [hk] at C2
    clear h1 hk
    go_enter Tryz.func236, Tryz.ntmps236
    go_wp2_with (first
      | (go_at_call 276; refine C.out.mono ?_; rintro e w1 ⟨rfl, hP, hT⟩; have HD1 := hid (ownsRow_turned HD.out hT (fun g hg e => by have := (HD.out.lt g hg).1; omega)))
      | (go_at_call 46; refine (C2.out _).mono ?_; rintro e w2 ⟨rfl, hb2⟩; have hS2 := (HS.out.turned hT (fun i hi e => by omega)).below hb2; have g8 := hS2.cell 8 (by simp); clear hS2))
    go_region
    go_wp2
    go_ret2
    refine ⟨_, rfl, Chain.at_ (k := 8) (z := at_) ?_ (by simp) (by decide), ?_⟩
    · exact heap_alloc_new _ _
    · exact (hT.trans (Turned.ofBelow hb2)).trans (((Turned.refl _ _).ofDrew 1).trans (Turned.ofAlloc _ _))
  | true =>
    have h2 : hasK ds k = true := by
      rcases h1 with h1 | h1
      · rw [hk] at h1; cases h1
      · exact h1
    rw [hk] at C2
    rw [h2] at C3
    clear h1 hk h2
    go_enter Tryz.func236, Tryz.ntmps236
    go_wp2_with (first
      | (go_at_call 276; refine C.out.mono ?_; rintro e w1 ⟨rfl, hP, hT⟩; have HD1 := hid (ownsRow_turned HD.out hT (fun g hg e => by have := (HD.out.lt g hg).1; omega)))
      | (go_at_call 46; refine (C2.out _).mono ?_; rintro e w2 ⟨rfl, hb2⟩; have hP2 := hP.turned (Turned.ofBelow (Z := fun _ => False) hb2) (fun e => e); have HD2 := hid (ownsRow_turned HD1.out (Turned.ofBelow (Z := fun _ => False) hb2) (fun _ _ e => e)))
      | (go_at_call 277; refine (C3.out _ hP2 HD2.out).mono ?_; rintro e w3 ⟨rfl, hb3⟩; have hS3 := ((HS.out.turned hT (fun i hi e => by omega)).below hb2).below hb3; have g8 := hS3.cell 8 (by simp); clear hS3))
    go_region
    go_wp2
    go_ret2
    refine ⟨_, rfl, Chain.at_ (k := 8) (z := at_) ?_ (by simp) (by decide), ?_⟩
    · exact heap_alloc_new _ _
    · exact ((hT.trans (Turned.ofBelow hb2)).trans (Turned.ofBelow hb3)).trans (((Turned.refl _ _).ofDrew 1).trans (Turned.ofAlloc _ _))
theorem lt_of_block' {w : World} {g : Nat} {o : Obj} (h : w.heap[g]? = some o) : g < w.heap.size := by
  rcases Nat.lt_or_ge g w.heap.size with h1 | h1
  · exact h1
  · rw [Array.getElem?_eq_none h1] at h; cases h
theorem hasK_iff {ds : List DocP} {k : Bs} : hasK ds k = true ↔ k ∈ ds.map (·.2.1) := by
  simp [hasK, List.any_eq_true, List.mem_map]
theorem readKey_ok {w : World} {b base : Nat} {s : ByteArray} {r k t : Bs} {D L : Value} {ds : List DocP} (h : PAt w b s r D L) (hD : DRow w base D ds) (hl : ds.length ≤ 1000) (hs : s.size ≤ 60000) (hbb : b < base) (hp : pKey (ds.map (·.2.1)) r = some (k, t)) :
    Calls Tryz.prog 236 #[.pointer (some ⟨b, 0, none⟩)] w fun e w' => e = .returned (.tuple #[lstV k, .nilIface]) ∧ PAt w' b s t D L ∧ Turned (fun i => i = b) w w' := by
  unfold pKey at hp
  obtain ⟨⟨k', t'⟩, h1, h2⟩ := Option.bind_eq_some_iff.1 hp
  simp only at h2
  split at h2
  · rename_i hc
    simp only [Option.some.injEq, Prod.mk.injEq] at h2
    obtain ⟨rfl, rfl⟩ := h2
    exact readKey_ok0 w b base s r k' t' D L ds h hD hl hs hbb h1 hc.1 (by
      cases hk : hasK ds k' with
      | false => rfl
      | true => exact absurd (hasK_iff.1 hk) hc.2)
  · cases h2
theorem readKey_no {w : World} {b base base2 : Nat} {A : Nat → Addr} {s : ByteArray} {r : Bs} {D L : Value} {ds : List DocP} (h : PAt w b s r D L) (hS : Sent w A base) (hb : base ≤ b) (hD : DRow w base2 D ds) (hl : ds.length ≤ 1000) (hs : s.size ≤ 60000) (hbb : b < base2) (hp : pKey (ds.map (·.2.1)) r = none) :
    Calls Tryz.prog 236 #[.pointer (some ⟨b, 0, none⟩)] w fun e w' => ∃ ev, e = .returned (.tuple #[lstV [], ev]) ∧ Chain w' A 0 ev ∧ Turned (fun i => i = b) w w' := by
  unfold pKey at hp
  cases h1 : pName r with
  | none => exact readKey_e0 w b base A s r D L h hS hb hs h1
  | some x =>
    obtain ⟨k, t⟩ := x
    rw [h1] at hp
    simp only [Option.bind_some] at hp
    split at hp
    · cases hp
    · rename_i hc
      refine readKey_e1 w b base base2 A s r k t D L ds h hS hb hD hl hs hbb h1 ?_
      cases hk : keyOk k with
      | false => exact Or.inl rfl
      | true =>
        right
        rw [hasK_iff]
        exact Classical.byContradiction fun hn => hc ⟨hk, hn⟩

/-! ### a document -/
theorem number_okz {w : World} {b : Nat} {s : ByteArray} {r : Bs} {D L : Value} {lo hi n : Nat} {t : Bs} (z1 z2 : Int) (e1 : (lo : Int) = z1) (e2 : (hi : Int) = z2) (h : PAt w b s r D L) (hs : s.size ≤ 60000) (hp : pNum lo hi r = some (n, t)) :
    Calls Tryz.prog 166 #[.pointer (some ⟨b, 0, none⟩), .int .i64 z1, .int .i64 z2] w fun e w' => e = .returned (.tuple #[.int .i64 (n : Int), .nilIface]) ∧ PAt w' b s t D L ∧ Turned (fun i => i = b) w w' := by
  subst e1 e2; exact number_ok h hs hp
theorem number_noz {w : World} {b base : Nat} {A : Nat → Addr} {s : ByteArray} {r : Bs} {D L : Value} {lo hi : Nat} (z1 z2 : Int) (e1 : (lo : Int) = z1) (e2 : (hi : Int) = z2) (h : PAt w b s r D L) (hS : Sent w A base) (hb : base ≤ b) (hs : s.size ≤ 60000) (hp : pNum lo hi r = none) :
    Calls Tryz.prog 166 #[.pointer (some ⟨b, 0, none⟩), .int .i64 z1, .int .i64 z2] w fun e w' => ∃ ev, e = .returned (.tuple #[.int .i64 0, ev]) ∧ Chain w' A 0 ev ∧ Turned (fun i => i = b) w w' := by
  subst e1 e2; exact number_no h hS hb hs hp
theorem turned_set3 (w : World) (g : Nat) (v0 v1 v2 : Value) : Turned (fun i => i = g) w (((w.setCell ⟨g, 0, none⟩ v0).setCell ⟨g, 1, none⟩ v1).setCell ⟨g, 2, none⟩ v2) :=
  ((Turned.ofSet (Z := fun i => i = g) w ⟨g, 0, none⟩ v0 rfl).trans (Turned.ofSet (Z := fun i => i = g) _ ⟨g, 1, none⟩ v1 rfl)).trans (Turned.ofSet (Z := fun i => i = g) _ ⟨g, 2, none⟩ v2 rfl)
/-- A block that the call itself has made is left as it is by a reader's step. -/
theorem kept_new {w w' : World} {b g : Nat} {o : Obj} (ht : Turned (fun i => i = b) w w') (h : w.heap[g]? = some o) (hne : g ≠ b) : w'.heap[g]? = some o := (ht.block g (lt_of_block' h) hne).trans h
set_option maxHeartbeats 1000000 in
set_option maxRecDepth 1000000 in
theorem readDocument_ok {w : World} {b base : Nat} {s : ByteArray} {r t : Bs} {D L : Value} {ds : List DocP} {d : DocP} (h : PAt w b s r D L) (hD : DRow w base D ds) (hl : ds.length ≤ 1000) (hs : s.size ≤ 60000) (hbb : b < base) (bf : Nat) (hbf : bf ≤ 100) (hp : pDoc bf (ds.map (·.2.1)) r = some (d, t)) :
    Calls Tryz.prog 167 #[.pointer (some ⟨b, 0, none⟩), .int .i64 (bf : Int)] w fun e w' => e = .returned (.tuple #[.agg #[natV d.1, lstV d.2.1, natV d.2.2], .nilIface]) ∧ PAt w' b s t D L ∧ Turned (fun i => i = b) w w' := by
  unfold pDoc at hp
  obtain ⟨⟨n1, r1⟩, h1, hp⟩ := Option.bind_eq_some_iff.1 hp
  obtain ⟨⟨n2, r2⟩, h2, hp⟩ := Option.bind_eq_some_iff.1 hp
  obtain ⟨⟨k, r3⟩, h3, hp⟩ := Option.bind_eq_some_iff.1 hp
  simp only [Option.some.injEq, Prod.mk.injEq] at h1 h2 h3 hp
  obtain ⟨rfl, rfl⟩ := hp
  have hn1 := (pNum_iff (by omega)).1 h1
  have hn2 := (pNum_iff (by omega)).1 h2
  have C1 := hid (fun w' (h : PAt w' b s r D L) => number_okz 1 ((100 - bf : Nat) : Int) rfl rfl h hs h1)
  have C2 := hid (fun w' (h : PAt w' b s r1 D L) => number_okz 0 40 rfl rfl h hs h2)
  have C3 := hid (fun w' (h : PAt w' b s r2 D L) (hD : DRow w' base D ds) => readKey_ok h hD hl hs hbb h3)
  have e0 : (100 : Int) - (bf : Int) = ((100 - bf : Nat) : Int) := by omega
  have hn1b : n1 ≤ 100 := by omega
  have hbl := h.lt
  have hP0 := h.turned (Turned.ofAlloc (Z := fun _ => False) w (.cells #[.int .i64 0, .string ⟨#[]⟩, .int .i64 0] 141)) (fun e => e)
  have HD0 := hid (ownsRow_turned hD (Turned.ofAlloc (Z := fun _ => False) w (.cells #[.int .i64 0, .string ⟨#[]⟩, .int .i64 0] 141)) (fun _ _ e => e))
  have HN := hid (heap_alloc_new w (.cells #[.int .i64 0, .string ⟨#[]⟩, .int .i64 0] 141))
  have HT0 := hid (Turned.ofAlloc (Z := fun i => i = b) w (.cells #[.int .i64 0, .string ⟨#[]⟩, .int .i64 0] 141))
  have HP0 := hid hP0
  clear h1 h2 h3 hn1 hn2 hP0 h hD
  generalize 100 - bf = m at *
  go_enter Tryz.func167, Tryz.ntmps167
  go_wp2_with (fail)
  generalize w.alloc (.cells #[.int .i64 0, .string ⟨#[]⟩, .int .i64 0] 141) = w0 at *
  go_wp2_with (first
    | (go_at_call 236; refine (C3.out _ hP2 HD2.out).mono ?_; rintro e w3 ⟨rfl, hP3, hT3⟩; have HN3 := hid (kept_new hT3 HN2.out (by omega)); obtain ⟨k0, k1, k2, kf⟩ := cell_three HN3.out; have f0 := kf 0; have f1 := kf 1; have f2 := kf 2; clear kf)
    | (go_at_call 166; have _h := hP1; refine (C2.out _ hP1).mono ?_; rintro e w2 ⟨rfl, hP2, hT2⟩; have HN2 := hid (kept_new hT2 HN1.out (by omega)); have HD2 := hid (ownsRow_turned HD1.out hT2 (fun g hg e => by have := (HD1.out.lt g hg).1; omega)))
    | (go_at_call 166; refine (C1.out _ HP0.out).mono ?_; rintro e w1 ⟨rfl, hP1, hT1⟩; have HN1 := hid (kept_new hT1 HN.out (by omega)); have HD1 := hid (ownsRow_turned HD0.out hT1 (fun g hg e => by have := (HD0.out.lt g hg).1; omega))))
  have hT := ((HT0.out.trans hT1).trans hT2).trans hT3
  refine bodyPost_ret (v := .tuple #[.agg #[natV (bf + n1), lstV k, natV n2], .nilIface]) (by simp [results, Tryz.results167, go_sem, k0, k1, k2]) rfl ⟨rfl, ?_, ?_⟩
  · exact hP3.turned (((Turned.ofSet (Z := fun i => i = w.heap.size) _ _ _ rfl).trans (Turned.ofSet _ _ _ rfl)).trans (Turned.ofSet _ _ _ rfl)) (by omega)
  · exact Turned.over hT (((Turned.ofSet (Z := fun i => i = w.heap.size) _ _ _ rfl).trans (Turned.ofSet _ _ _ rfl)).trans (Turned.ofSet _ _ _ rfl)) (fun i hi e => by omega)
theorem Chain.turn {w w' : World} {A : Nat → Addr} {n g : Nat} {v : Value} {c : Array Value} (h : Chain w A n v) (ht : Turned (fun i => i = g) w w') (hg : w.heap[g]? = some (.cells c 141 (0, 0))) : Chain w' A n v := by
  induction n generalizing v with
  | zero =>
    obtain ⟨_, _, _, h, hk, h0, rfl⟩ := h
    exact .at_ ((ht.block _ (lt_of_block h) (fun e => tag_ne h hg (by decide) e)).trans h) hk h0
  | succ n ih =>
    obtain ⟨_, _, _, h, hu, rfl⟩ := h
    exact .in_ ((ht.block _ (lt_of_block h) (fun e => tag_ne h hg (by decide) e)).trans h) (ih hu)
set_option maxHeartbeats 1000000 in
set_option maxRecDepth 1000000 in
theorem readDocument_e1 {w : World} {b base base2 : Nat} {A : Nat → Addr} {s : ByteArray} {r : Bs} {D L : Value} {ds : List DocP} (h : PAt w b s r D L) (hS : Sent w A base) (hb : base ≤ b) (hD : DRow w base2 D ds) (_hl : ds.length ≤ 1000) (hs : s.size ≤ 60000) (_hbb : b < base2) (bf : Nat) (hbf : bf ≤ 100) (h1 : pNum 1 (100 - bf) r = none) :
    Calls Tryz.prog 167 #[.pointer (some ⟨b, 0, none⟩), .int .i64 (bf : Int)] w fun e w' => ∃ ev, e = .returned (.tuple #[.agg #[.int .i64 0, .string ⟨#[]⟩, .int .i64 0], ev]) ∧ Chain w' A 0 ev ∧ Turned (fun i => i = b) w w' := by
  have C1 := hid (fun w' (h : PAt w' b s r D L) (hS : Sent w' A base) => number_noz 1 ((100 - bf : Nat) : Int) rfl rfl h hS hb hs h1)
  have e0 : (100 : Int) - (bf : Int) = ((100 - bf : Nat) : Int) := by omega
  have hbl := h.lt
  have hP0 := h.turned (Turned.ofAlloc (Z := fun _ => False) w (.cells #[.int .i64 0, .string ⟨#[]⟩, .int .i64 0] 141)) (fun e => e)
  have HS0 := hid (hS.below ((Below.refl w.heap.size w).alloc (Nat.le_refl _) (.cells #[.int .i64 0, .string ⟨#[]⟩, .int .i64 0] 141)))
  have HD0 := hid (ownsRow_turned hD (Turned.ofAlloc (Z := fun _ => False) w (.cells #[.int .i64 0, .string ⟨#[]⟩, .int .i64 0] 141)) (fun _ _ e => e))
  have HN := hid (heap_alloc_new w (.cells #[.int .i64 0, .string ⟨#[]⟩, .int .i64 0] 141))
  have HT0 := hid (Turned.ofAlloc (Z := fun i => i = b) w (.cells #[.int .i64 0, .string ⟨#[]⟩, .int .i64 0] 141))
  have HP0 := hid hP0
  clear h1 hP0 h hD hS
  generalize 100 - bf = m at *
  go_enter Tryz.func167, Tryz.ntmps167
  go_wp2_with (fail)
  generalize w.alloc (.cells #[.int .i64 0, .string ⟨#[]⟩, .int .i64 0] 141) = w0 at *
  refine (C1.out _ HP0.out HS0.out).mono ?_
  rintro e w1 ⟨ev, rfl, hC, hT1⟩
  have HN1 := hid (kept_new hT1 HN.out (by omega))
  obtain ⟨k0, k1, k2, kf⟩ := cell_three HN1.out
  have f0 := kf 0
  have f1 := kf 1
  have f2 := kf 2
  clear kf
  have HC := hid hC
  obtain ⟨u, x, rfl⟩ := hC.iface
  clear hC
  go_wp2
  have hT := HT0.out.trans hT1
  have hTS := turned_set3 w1 w.heap.size (.int .i64 0) (.string ⟨#[]⟩) (.int .i64 0)
  refine bodyPost_ret (v := .tuple #[.agg #[.int .i64 0, .string ⟨#[]⟩, .int .i64 0], .iface u x]) (by simp [results, Tryz.results167, go_sem, k0, k1, k2]) rfl ⟨_, rfl, HC.out.turn hTS HN1.out, Turned.over hT hTS (fun i hi e => by omega)⟩
set_option maxHeartbeats 1000000 in
set_option maxRecDepth 1000000 in
theorem readDocument_e2 {w : World} {b base base2 : Nat} {A : Nat → Addr} {s : ByteArray} {r : Bs} {D L : Value} {ds : List DocP} (h : PAt w b s r D L) (hS : Sent w A base) (hb : base ≤ b) (hD : DRow w base2 D ds) (_hl : ds.length ≤ 1000) (hs : s.size ≤ 60000) (_hbb : b < base2) (bf : Nat) (hbf : bf ≤ 100) {n1 : Nat} {r1 : Bs} (h1 : pNum 1 (100 - bf) r = some (n1, r1)) (h2 : pNum 0 40 r1 = none) :
    Calls Tryz.prog 167 #[.pointer (some ⟨b, 0, none⟩), .int .i64 (bf : Int)] w fun e w' => ∃ ev, e = .returned (.tuple #[.agg #[.int .i64 0, .string ⟨#[]⟩, .int .i64 0], ev]) ∧ Chain w' A 0 ev ∧ Turned (fun i => i = b) w w' := by
  have C1 := hid (fun w' (h : PAt w' b s r D L) => number_okz 1 ((100 - bf : Nat) : Int) rfl rfl h hs h1)
  have C2 := hid (fun w' (h : PAt w' b s r1 D L) (hS : Sent w' A base) => number_noz 0 40 rfl rfl h hS hb hs h2)
  have e0 : (100 : Int) - (bf : Int) = ((100 - bf : Nat) : Int) := by omega
  have hbl := h.lt
  have hP0 := h.turned (Turned.ofAlloc (Z := fun _ => False) w (.cells #[.int .i64 0, .string ⟨#[]⟩, .int .i64 0] 141)) (fun e => e)
  have HS0 := hid (hS.below ((Below.refl w.heap.size w).alloc (Nat.le_refl _) (.cells #[.int .i64 0, .string ⟨#[]⟩, .int .i64 0] 141)))
  have HD0 := hid (ownsRow_turned hD (Turned.ofAlloc (Z := fun _ => False) w (.cells #[.int .i64 0, .string ⟨#[]⟩, .int .i64 0] 141)) (fun _ _ e => e))
  have HN := hid (heap_alloc_new w (.cells #[.int .i64 0, .string ⟨#[]⟩, .int .i64 0] 141))
  have HT0 := hid (Turned.ofAlloc (Z := fun i => i = b) w (.cells #[.int .i64 0, .string ⟨#[]⟩, .int .i64 0] 141))
  have HP0 := hid hP0
  clear h1 h2 hP0 h hD hS
  generalize 100 - bf = m at *
  go_enter Tryz.func167, Tryz.ntmps167
  go_wp2_with (fail)
  generalize w.alloc (.cells #[.int .i64 0, .string ⟨#[]⟩, .int .i64 0] 141) = w0 at *
  refine (C1.out _ HP0.out).mono ?_
  rintro e w1 ⟨rfl, hP1, hT1⟩
  have HN1 := hid (kept_new hT1 HN.out (by omega))
  have HS1 := hid (HS0.out.turned hT1 (fun i hi e => by omega))
  go_wp2_with (fail)
  refine (C2.out _ hP1 HS1.out).mono ?_
  rintro e w2 ⟨ev, rfl, hC, hT2⟩
  have HN2 := hid (kept_new hT2 HN1.out (by omega))
  obtain ⟨k0, k1, k2, kf⟩ := cell_three HN2.out
  have f0 := kf 0
  have f1 := kf 1
  have f2 := kf 2
  clear kf
  have HC := hid hC
  obtain ⟨u, x, rfl⟩ := hC.iface
  clear hC
  go_wp2
  have hT := (HT0.out.trans hT1).trans hT2
  have hTS := turned_set3 w2 w.heap.size (.int .i64 0) (.string ⟨#[]⟩) (.int .i64 0)
  refine bodyPost_ret (v := .tuple #[.agg #[.int .i64 0, .string ⟨#[]⟩, .int .i64 0], .iface u x]) (by simp [results, Tryz.results167, go_sem, k0, k1, k2]) rfl ⟨_, rfl, HC.out.turn hTS HN2.out, Turned.over hT hTS (fun i hi e => by omega)⟩
set_option maxHeartbeats 1000000 in
set_option maxRecDepth 1000000 in
theorem readDocument_e3 {w : World} {b base base2 : Nat} {A : Nat → Addr} {s : ByteArray} {r : Bs} {D L : Value} {ds : List DocP} (h : PAt w b s r D L) (hS : Sent w A base) (hb : base ≤ b) (hD : DRow w base2 D ds) (hl : ds.length ≤ 1000) (hs : s.size ≤ 60000) (hbb : b < base2) (bf : Nat) (hbf : bf ≤ 100) {n1 n2 : Nat} {r1 r2 : Bs} (h1 : pNum 1 (100 - bf) r = some (n1, r1)) (h2 : pNum 0 40 r1 = some (n2, r2)) (h3 : pKey (ds.map (·.2.1)) r2 = none) :
    Calls Tryz.prog 167 #[.pointer (some ⟨b, 0, none⟩), .int .i64 (bf : Int)] w fun e w' => ∃ ev, e = .returned (.tuple #[.agg #[.int .i64 0, .string ⟨#[]⟩, .int .i64 0], ev]) ∧ Chain w' A 0 ev ∧ Turned (fun i => i = b) w w' := by
  have C1 := hid (fun w' (h : PAt w' b s r D L) => number_okz 1 ((100 - bf : Nat) : Int) rfl rfl h hs h1)
  have C2 := hid (fun w' (h : PAt w' b s r1 D L) => number_okz 0 40 rfl rfl h hs h2)
  have C3 := hid (fun w' (h : PAt w' b s r2 D L) (hS : Sent w' A base) (hD : DRow w' base2 D ds) => readKey_no h hS hb hD hl hs hbb h3)
  have e0 : (100 : Int) - (bf : Int) = ((100 - bf : Nat) : Int) := by omega
  have hbl := h.lt
  have hP0 := h.turned (Turned.ofAlloc (Z := fun _ => False) w (.cells #[.int .i64 0, .string ⟨#[]⟩, .int .i64 0] 141)) (fun e => e)
  have HS0 := hid (hS.below ((Below.refl w.heap.size w).alloc (Nat.le_refl _) (.cells #[.int .i64 0, .string ⟨#[]⟩, .int .i64 0] 141)))
  have HD0 := hid (ownsRow_turned hD (Turned.ofAlloc (Z := fun _ => False) w (.cells #[.int .i64 0, .string ⟨#[]⟩, .int .i64 0] 141)) (fun _ _ e => e))
  have HN := hid (heap_alloc_new w (.cells #[.int .i64 0, .string ⟨#[]⟩, .int .i64 0] 141))
  have HT0 := hid (Turned.ofAlloc (Z := fun i => i = b) w (.cells #[.int .i64 0, .string ⟨#[]⟩, .int .i64 0] 141))
  have HP0 := hid hP0
  clear h1 h2 h3 hP0 h hD hS
  generalize 100 - bf = m at *
  go_enter Tryz.func167, Tryz.ntmps167
  go_wp2_with (fail)
  generalize w.alloc (.cells #[.int .i64 0, .string ⟨#[]⟩, .int .i64 0] 141) = w0 at *
  go_wp2_with (first
    | (go_at_call 166; have _h := hP1; refine (C2.out _ hP1).mono ?_; rintro e w2 ⟨rfl, hP2, hT2⟩; have HN2 := hid (kept_new hT2 HN1.out (by omega)); have HS2 := hid (HS1.out.turned hT2 (fun i hi e => by omega)); have HD2 := hid (ownsRow_turned HD1.out hT2 (fun g hg e => by have := (HD1.out.lt g hg).1; omega)))
    | (go_at_call 166; refine (C1.out _ HP0.out).mono ?_; rintro e w1 ⟨rfl, hP1, hT1⟩; have HN1 := hid (kept_new hT1 HN.out (by omega)); have HS1 := hid (HS0.out.turned hT1 (fun i hi e => by omega)); have HD1 := hid (ownsRow_turned HD0.out hT1 (fun g hg e => by have := (HD0.out.lt g hg).1; omega))))
  refine (C3.out _ hP2 HS2.out HD2.out).mono ?_
  rintro e w3 ⟨ev, rfl, hC, hT3⟩
  have HN3 := hid (kept_new hT3 HN2.out (by omega))
  obtain ⟨k0, k1, k2, kf⟩ := cell_three HN3.out
  have f0 := kf 0
  have f1 := kf 1
  have f2 := kf 2
  clear kf
  have HC := hid hC
  obtain ⟨u, x, rfl⟩ := hC.iface
  clear hC
  go_wp2
  have hT := ((HT0.out.trans hT1).trans hT2).trans hT3
  have hTS := turned_set3 w3 w.heap.size (.int .i64 0) (.string ⟨#[]⟩) (.int .i64 0)
  refine bodyPost_ret (v := .tuple #[.agg #[.int .i64 0, .string ⟨#[]⟩, .int .i64 0], .iface u x]) (by simp [results, Tryz.results167, go_sem, k0, k1, k2]) rfl ⟨_, rfl, HC.out.turn hTS HN3.out, Turned.over hT hTS (fun i hi e => by omega)⟩
theorem readDocument_no {w : World} {b base base2 : Nat} {A : Nat → Addr} {s : ByteArray} {r : Bs} {D L : Value} {ds : List DocP} (h : PAt w b s r D L) (hS : Sent w A base) (hb : base ≤ b) (hD : DRow w base2 D ds) (hl : ds.length ≤ 1000) (hs : s.size ≤ 60000) (hbb : b < base2) (bf : Nat) (hbf : bf ≤ 100) (hp : pDoc bf (ds.map (·.2.1)) r = none) :
    Calls Tryz.prog 167 #[.pointer (some ⟨b, 0, none⟩), .int .i64 (bf : Int)] w fun e w' => ∃ ev, e = .returned (.tuple #[.agg #[.int .i64 0, .string ⟨#[]⟩, .int .i64 0], ev]) ∧ Chain w' A 0 ev ∧ Turned (fun i => i = b) w w' := by
  unfold pDoc at hp
  cases h1 : pNum 1 (100 - bf) r with
  | none => exact readDocument_e1 h hS hb hD hl hs hbb bf hbf h1
  | some x =>
    obtain ⟨n1, r1⟩ := x
    rw [h1] at hp
    simp only [Option.bind_some] at hp
    cases h2 : pNum 0 40 r1 with
    | none => exact readDocument_e2 h hS hb hD hl hs hbb bf hbf h1 h2
    | some y =>
      obtain ⟨n2, r2⟩ := y
      rw [h2] at hp
      simp only [Option.bind_some] at hp
      cases h3 : pKey (ds.map (·.2.1)) r2 with
      | none => exact readDocument_e3 h hS hb hD hl hs hbb bf hbf h1 h2 h3
      | some z =>
        rw [h3] at hp
        cases hp
end Go.Proofs.YtaacjjhmojecnaaGreatDoor
