/- The walk of DeleteFunc at rows of documents. -/
import Derived.Test.YtaacjjhmojecnaaGreatDoorDelDoc
namespace Go.Proofs.YtaacjjhmojecnaaGreatDoor
open Go.RowKit Go.ScT Go.Proofs Go.Shelf

def zDoc : List Value := [.int .i64 0, .string ⟨#[]⟩, .int .i64 0]
def zDocs (k : Nat) : List Value := (List.replicate k zDoc).flatten
theorem zDocs_succ (k : Nat) : zDocs (k + 1) = .int .i64 0 :: .string ⟨#[]⟩ :: .int .i64 0 :: zDocs k := by simp [zDocs, zDoc, List.replicate_succ]
theorem zDocs_len : ∀ k, (zDocs k).length = k * 3
  | 0 => rfl
  | k + 1 => by rw [zDocs_succ]; simp [zDocs_len k]; omega
theorem zDocs_at : ∀ (k i : Nat), i < k * 3 → (zDocs k)[i]? = some (if i % 3 = 1 then .string ⟨#[]⟩ else .int .i64 0)
  | 0, i, h => by omega
  | k + 1, 0, _ => by rw [zDocs_succ]; rfl
  | k + 1, 1, _ => by rw [zDocs_succ]; rfl
  | k + 1, 2, _ => by rw [zDocs_succ]; rfl
  | k + 1, i + 3, h => by
    rw [zDocs_succ]
    have := zDocs_at k i (by omega)
    have e : (i + 3) % 3 = i % 3 := by omega
    rw [e]
    simpa using this
theorem zeros_three (k : Nat) : (Builtin.zeroCells (Value.agg #[.int .i64 0, .string ⟨#[]⟩, .int .i64 0]).cells k).toList = zDocs k := by
  apply List.ext_getElem?
  intro i
  by_cases h : i < k * 3
  · rw [zDocs_at k i h]
    have : i % 3 = 0 ∨ i % 3 = 1 ∨ i % 3 = 2 := by omega
    simp only [Builtin.zeroCells, Value.cells]
    rcases this with e | e | e <;> simp [h, e]
  · have l1 : (Builtin.zeroCells (Value.agg #[.int .i64 0, .string ⟨#[]⟩, .int .i64 0]).cells k).toList.length = k * 3 := by simp [Builtin.zeroCells, Value.cells]
    have l2 := zDocs_len k
    rw [List.getElem?_eq_none (by omega), List.getElem?_eq_none (by omega)]
theorem zDocs_one (k : Nat) : ∀ v ∈ zDocs k, v.oneCell' = true := by
  induction k with
  | zero => intro v hv; simp [zDocs] at hv
  | succ k ih =>
    intro v hv
    rw [zDocs_succ] at hv
    simp at hv
    rcases hv with rfl | rfl | hv
    · rfl
    · rfl
    · rcases hv with rfl | hv
      · rfl
      · exact ih v hv

theorem DocRow.setZeros {g c t : Nat} : ∀ (k i : Nat) (w : World), DocRow w g c t → i + k ≤ c → DocRow (w.setCells g (i * 3) (zDocs k)) g c t
  | 0, _, _, h, _ => h
  | k + 1, i, w, h, hk => by
    rw [zDocs_succ]
    have h1 := h.setDoc i (by omega) 0 0 ⟨#[]⟩
    have h2 := DocRow.setZeros k (i + 1) _ h1 (by omega)
    rw [show (i + 1) * 3 = i * 3 + 1 + 1 + 1 by omega] at h2
    exact h2

theorem clear_three (w : World) (ty : TypeId) (g o k c : Nat) (hk : 0 < k) (hc : ∀ j, j < k * 3 → (w.cell? ⟨g, o + j, none⟩).isSome = true) (hf : ∀ j, j < k * 3 → w.frozen? ⟨g, o + j, none⟩ = false) :
    (Builtin.clear_ #[82] ty #[.slice (some ⟨g, o, none⟩) k c]).run Tryz.prog w = .ok (.tuple #[]) (w.setCells g o (zDocs k)) := by
  have hv : (zeroValue 141).run Tryz.prog w = .ok (.agg #[.int .i64 0, .string ⟨#[]⟩, .int .i64 0]) w := Tryz.zeroValue141 w
  have hst := run_storeCells_cells (P := Tryz.prog) g o (zDocs k) 0 w (by simpa [zDocs_len] using hc) (by simpa [zDocs_len] using hf) (zDocs_one k)
  simp only [Nat.add_zero] at hst
  obtain ⟨m, rfl⟩ : ∃ m, k = m + 1 := ⟨k - 1, by omega⟩
  simp [Builtin.clear_, run_underlying Tryz.underlying82, hv, zeros_three, hst]

def isB (g : Nat) : Nat → Prop := fun b => b = g
theorem isB_self (g : Nat) : isB g g := rfl
/-- A slice of documents of at most m documents. -/
def DocsOk (w : World) (v : Value) (m : Nat) : Prop := v = .slice none 0 0 ∨ ∃ g n cap t, v = .slice (some ⟨g, 0, none⟩) n cap ∧ DocRow w g cap t ∧ n ≤ t ∧ n ≤ m
/-- What DeleteFunc leaves: a slice in the same block. -/
def DeletedD (w : World) (v : Value) (m : Nat) (e : Ending) (w' : World) : Prop :=
  ∃ v', e = .returned v' ∧ DocsOk w' v' m ∧ v'.ownBlock = v.ownBlock ∧ Turned (fun b => v.ownBlock = some b) w w'

set_option maxHeartbeats 1000000 in
theorem del92_nil (B : Nat) (num : Int) (w : World) (m : Nat) (hB : w.cell? ⟨B, 0, none⟩ = some (.int .i64 num)) (hlt : B < w.heap.size) :
    Calls Tryz.prog 161 #[.slice none 0 0, .func (.func 162) #[] #[.pointer (some ⟨B, 0, none⟩)]] w (DeletedD w (.slice none 0 0) m) := by
  have CX : Hid (Calls Tryz.prog 233 #[.slice none 0 0, .func (.func 162) #[] #[.pointer (some ⟨B, 0, none⟩)]] w fun e w' => e = .returned (.int .i64 (-1)) ∧ Below w.heap.size w w') := by
    refine (index98 none 0 0 0 0 B num w (by omega) (fun h => by omega) hB hlt).mono ?_
    rintro e w' ⟨r, h1, h2, h3⟩
    rcases h2 with h2 | ⟨i, _, hi⟩
    · exact ⟨by rw [h1, h2], h3⟩
    · omega
  go_enter Tryz.func161, Tryz.ntmps161
  go_wp2_with (go_at_call 233; refine CX.out.mono ?_; rintro e w2 ⟨rfl, hb2⟩)
  go_ret
  exact ⟨.slice none 0 0, rfl, Or.inl rfl, rfl, Turned.ofBelow hb2⟩

set_option maxHeartbeats 2000000 in
set_option maxRecDepth 1000000 in
theorem del92_some (g n cap t B : Nat) (num : Int) (w : World) (m : Nat) (hrow : DocRow w g cap t) (hnt : n ≤ t) (hnm : n ≤ m) (hm : m ≤ 100000) (hB : w.cell? ⟨B, 0, none⟩ = some (.int .i64 num)) (hlt : B < w.heap.size) (hBg : B ≠ g) :
    Calls Tryz.prog 161 #[.slice (some ⟨g, 0, none⟩) n cap, .func (.func 162) #[] #[.pointer (some ⟨B, 0, none⟩)]] w (DeletedD w (.slice (some ⟨g, 0, none⟩) n cap) m) := by
  have CI : Hid (Calls Tryz.prog 233 #[.slice (some ⟨g, 0, none⟩) n cap, .func (.func 162) #[] #[.pointer (some ⟨B, 0, none⟩)]] w fun e w' => ∃ r : Int, e = .returned (.int .i64 r) ∧ (r = -1 ∨ ∃ i : Nat, r = (i : Int) ∧ i < n) ∧ Below w.heap.size w w') := index98 (some ⟨g, 0, none⟩) g n cap cap B num w (by omega) (fun _ => ⟨rfl, ⟨hrow.lt, hrow.there, hrow.free, fun j hj => hrow.docs j (by omega), by have := hrow.le; omega, hrow.cap⟩⟩) hB hlt
  have e93 := enters93
  have hcapm := hrow.cap
  unfold maxLen at hcapm
  have htc := hrow.le
  have HZ : Hid ((Value.slice (some ⟨g, 0, none⟩) n cap).ownBlock = some g) := rfl
  go_enter Tryz.func161, Tryz.ntmps161
  go_wp2_with fail
  refine CI.out.mono ?_
  rintro e w1 ⟨r, rfl, hr, hb1⟩
  rcases hr with rfl | ⟨i, rfl, hi⟩
  · go_wp2
    go_ret
    exact ⟨.slice (some ⟨g, 0, none⟩) n cap, rfl, Or.inr ⟨g, n, cap, t, rfl, hrow.below hb1, hnt, hnm⟩, rfl, Turned.ofBelow hb1⟩
  · have hneg : ((i : Int) == -1) = false := beq_eq_false_iff_ne.2 (by omega)
    go_wp2
    go_loopw [5, 6] (fun s5 s6 wr => ∃ i j : Nat, s5 = .int .i64 (i : Int) ∧ s6 = .int .i64 (j : Int) ∧ i < j ∧ j ≤ n ∧ Turned (isB g) w wr ∧ DocRow wr g cap t) (fun _ s6 _ => n - (intOf s6).toNat)
    case atStart => exact ⟨i, i + 1, rfl, by go_num, by omega, by omega, Turned.ofBelow hb1, hrow.below hb1⟩
    case round =>
      obtain ⟨i, j, rfl, rfl, hij, hjn, htu, hrr⟩ := hrel
      have hBw : wr.cell? ⟨B, 0, none⟩ = some (.int .i64 num) := (World.cell?_of_block (w := w) (htu.block B hlt hBg)).trans hB
      have hsz := htu.size
      by_cases hj : j < n
      · obtain ⟨a, s, b, ha, hs, hb⟩ := hrr.docs j (by omega)
        have CC : Hid (∀ o, Calls Tryz.prog 162 #[.agg #[.int .i64 a, .string s, .int .i64 b], .pointer (some ⟨B, 0, none⟩)] (wr.alloc o) fun e w' => e = .returned (.bool (a == num)) ∧ Below (wr.alloc o).heap.size (wr.alloc o) w') := fun o => clo93 a b num s B (wr.alloc o) (by rw [World.cell?_of_block (w := wr) (Below.heap_alloc wr o B (by omega))]; exact hBw) (by simp; omega)
        have HR2 : Hid (∀ o w2, Below (wr.alloc o).heap.size (wr.alloc o) w2 → DocRow w2 g cap t ∧ Turned (isB g) w w2) := fun o w2 hb2 => ⟨(hrr.below ((Below.refl _ wr).alloc (Nat.le_refl _) o)).below hb2, htu.trans ((Turned.ofAlloc wr o).trans (Turned.ofBelow hb2))⟩
        by_cases hab : a = num
        · have hab' : (a == num) = true := by simp [hab]
          clear hab
          go_wp2_with (go_at_fn 162; refine (CC.out _).mono ?_; rintro e w2 ⟨rfl, hb2⟩)
          go_roundw
          case rel => exact ⟨i, j + 1, rfl, by go_num, by omega, by omega, (HR2.out _ _ hb2).2, (HR2.out _ _ hb2).1⟩
          case measure => simp [intOf]; omega
        · have hab' : (a == num) = false := by simp [hab]
          clear hab
          go_wp2_with (go_at_fn 162; refine (CC.out _).mono ?_; rintro e w2 ⟨rfl, hb2⟩; have q0 := hb2.cell (p := ⟨wr.heap.size, 0, none⟩) (by simp); have q1 := hb2.cell (p := ⟨wr.heap.size, 1, none⟩) (by simp); have q2 := hb2.cell (p := ⟨wr.heap.size, 2, none⟩) (by simp); simp at q0 q1 q2; have hr2 := (HR2.out _ _ hb2).1; obtain ⟨u0, u1, u2, k0, k1, k2⟩ := hr2.docs i (by omega); have k3 := hr2.free (i * 3); have k4 := hr2.free (i * 3 + 1); have k5 := hr2.free (i * 3 + 2))
          go_roundw
          case rel => exact ⟨i + 1, j + 1, by go_num, by go_num, by omega, by omega, (HR2.out _ _ hb2).2.trans (((Turned.ofSet (Z := isB g) _ _ _ (isB_self g)).trans (Turned.ofSet (Z := isB g) _ _ _ (isB_self g))).trans (Turned.ofSet (Z := isB g) _ _ _ (isB_self g))), (HR2.out _ _ hb2).1.setDoc i (by omega) _ _ _⟩
          case measure => simp [intOf]; omega
      · have hjz : ¬ ((j : Int) < (n : Int)) := by omega
        have hcl := fun ty => clear_three wr ty g (i * 3) (n - i) (cap - i) (by omega) (fun q hq => hrr.there _ (by omega)) (fun q _ => hrr.free _)
        have HF : Hid (DeletedD w (.slice (some ⟨g, 0, none⟩) n cap) m (.returned (.slice (some ⟨g, 0, none⟩) i cap)) (wr.setCells g (i * 3) (zDocs (n - i)))) :=
          ⟨_, rfl, Or.inr ⟨g, i, cap, t, rfl, DocRow.setZeros _ _ _ hrr (by omega), by omega, by omega⟩, rfl, (htu.trans (Turned.setMany (Z := isB g) g (isB_self g) _ _ _)).mono (fun b _ (hb : b = g) => by rw [hb]; rfl)⟩
        generalize wr.setCells g (i * 3) (zDocs (n - i)) = W9 at hcl HF
        go_wp2
        go_ret
        exact HF.out

theorem del92_any (v : Value) (B : Nat) (num : Int) (w : World) (m : Nat) (hv : DocsOk w v m) (hm : m ≤ 100000) (hB : w.cell? ⟨B, 0, none⟩ = some (.int .i64 num)) (hlt : B < w.heap.size) (hBv : v.ownBlock ≠ some B) :
    Calls Tryz.prog 161 #[v, .func (.func 162) #[] #[.pointer (some ⟨B, 0, none⟩)]] w (DeletedD w v m) := by
  rcases hv with rfl | ⟨g, n, cap, t, rfl, hrow, h1, h2⟩
  · exact del92_nil B num w m hB hlt
  · exact del92_some g n cap t B num w m hrow h1 h2 hm hB hlt (fun e => hBv (by rw [e]; rfl))
end Go.Proofs.YtaacjjhmojecnaaGreatDoor
