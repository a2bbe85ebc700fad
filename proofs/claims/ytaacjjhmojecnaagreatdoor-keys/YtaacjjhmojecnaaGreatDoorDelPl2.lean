/- The walk of DeleteFunc at rows of places. -/
import Derived.Test.YtaacjjhmojecnaaGreatDoorDelPl
namespace Go.Proofs.YtaacjjhmojecnaaGreatDoor
open Go.RowKit Go.ScT Go.Proofs Go.Shelf

theorem zeros_two (k : Nat) : (Builtin.zeroCells (Value.agg #[.int .i64 0, .int .i64 0]).cells k).toList = List.replicate (k * 2) (.int .i64 0) := by
  apply List.ext_getElem
  · simp [Builtin.zeroCells, Value.cells]
  · intro i h1 h2
    simp only [Builtin.zeroCells, Value.cells]
    simp
    have : i % 2 = 0 ∨ i % 2 = 1 := by omega
    rcases this with e | e <;> simp [e]

theorem RowsOk.setInts {T : PT} (b : Nat) : ∀ (k o : Nat) (w : World), RowsOk w T → RowsOk (w.setCells b o (List.replicate k (.int .i64 0))) T
  | 0, _, _, h => h
  | k + 1, o, _, h => RowsOk.setInts b k (o + 1) _ (h.setInt b o 0)
theorem Turned.setMany {Z : Nat → Prop} (b : Nat) (hz : Z b) : ∀ (vs : List Value) (o : Nat) (w : World), Turned Z w (w.setCells b o vs)
  | [], _, w => Turned.refl Z w
  | v :: r, o, _ => (Turned.ofSet _ ⟨b, o, none⟩ v hz).trans (Turned.setMany b hz r (o + 1) _)

theorem clear_two (w : World) (ty : TypeId) (g o k c : Nat) (hk : 0 < k) (hc : ∀ j, j < k * 2 → (w.cell? ⟨g, o + j, none⟩).isSome = true) (hf : ∀ j, j < k * 2 → w.frozen? ⟨g, o + j, none⟩ = false) :
    (Builtin.clear_ #[173] ty #[.slice (some ⟨g, o, none⟩) k c]).run Tryz.prog w = .ok (.tuple #[]) (w.setCells g o (List.replicate (k * 2) (.int .i64 0))) := by
  have hv : (zeroValue 175).run Tryz.prog w = .ok (.agg #[.int .i64 0, .int .i64 0]) w := Tryz.zeroValue175 w
  have hst := run_storeCells_cells (P := Tryz.prog) g o (List.replicate (k * 2) (.int .i64 0)) 0 w (by simpa using hc) (by simpa using hf) (by intro v hv'; rw [List.eq_of_mem_replicate hv']; rfl)
  simp only [Nat.add_zero] at hst
  obtain ⟨m, rfl⟩ : ∃ m, k = m + 1 := ⟨k - 1, by omega⟩
  simp [Builtin.clear_, run_underlying Tryz.underlying173, hv, zeros_two, hst]

/-- What DeleteFunc leaves. -/
def Deleted (w : World) (T : PT) (m : Nat) (e : Ending) (w' : World) : Prop :=
  ∃ v', e = .returned v' ∧ RowsOk w' T ∧ placeB T m v' = true ∧ Turned (InT T) w w'

theorem index99_zero (ao : Option Addr) (cap B : Nat) (num : Int) (w : World) (hB : w.cell? ⟨B, 0, none⟩ = some (.int .i64 num)) (hlt : B < w.heap.size) :
    Calls Tryz.prog 234 #[.slice ao 0 cap, .func (.func 164) #[] #[.pointer (some ⟨B, 0, none⟩)]] w fun e w' => e = .returned (.int .i64 (-1)) ∧ Below w.heap.size w w' := by
  refine (index99 ao 0 0 cap B num w (by omega) (fun h => by omega) (fun j hj => by omega) hB hlt).mono ?_
  rintro e w' ⟨r, h1, h2, h3⟩
  rcases h2 with h2 | ⟨i, _, hi⟩
  · exact ⟨by rw [h1, h2], h3⟩
  · omega

set_option maxHeartbeats 1000000 in
theorem del94_none (ao : Option Addr) (cap B : Nat) (num : Int) (w : World) (T : PT) (m : Nat) (hR : RowsOk w T) (hv : placeB T m (.slice ao 0 cap) = true) (hB : w.cell? ⟨B, 0, none⟩ = some (.int .i64 num)) (hlt : B < w.heap.size) :
    Calls Tryz.prog 163 #[.slice ao 0 cap, .func (.func 164) #[] #[.pointer (some ⟨B, 0, none⟩)]] w (Deleted w T m) := by
  have CX : Hid (Calls Tryz.prog 234 #[.slice ao 0 cap, .func (.func 164) #[] #[.pointer (some ⟨B, 0, none⟩)]] w fun e w' => e = .returned (.int .i64 (-1)) ∧ Below w.heap.size w w') := index99_zero ao cap B num w hB hlt
  have HV : Hid (placeB T m (.slice ao 0 cap) = true) := hv
  clear hv
  go_enter Tryz.func163, Tryz.ntmps163
  go_wp2_with (go_at_call 234; refine CX.out.mono ?_; rintro e w2 ⟨rfl, hb2⟩)
  go_ret
  exact ⟨.slice ao 0 cap, rfl, hR.below hb2, HV.out, Turned.ofBelow hb2⟩

set_option maxHeartbeats 2000000 in
set_option maxRecDepth 1000000 in
theorem del94_some (g n cap t B : Nat) (num : Int) (w : World) (T : PT) (m : Nat) (hR : RowsOk w T) (hT : T g = some (cap, t)) (hnt : n ≤ t) (hnm : n ≤ m) (hm : m ≤ 100000) (hB : w.cell? ⟨B, 0, none⟩ = some (.int .i64 num)) (hlt : B < w.heap.size) (hBT : ¬ InT T B) :
    Calls Tryz.prog 163 #[.slice (some ⟨g, 0, none⟩) n cap, .func (.func 164) #[] #[.pointer (some ⟨B, 0, none⟩)]] w (Deleted w T m) := by
  have hrow := hR g cap t hT
  have CI : Hid (Calls Tryz.prog 234 #[.slice (some ⟨g, 0, none⟩) n cap, .func (.func 164) #[] #[.pointer (some ⟨B, 0, none⟩)]] w fun e w' => ∃ r : Int, e = .returned (.int .i64 r) ∧ (r = -1 ∨ ∃ i : Nat, r = (i : Int) ∧ i < n) ∧ Below w.heap.size w w') := index99 (some ⟨g, 0, none⟩) g n cap B num w (by omega) (fun _ => ⟨rfl, hrow.lt⟩) (fun j hj => hrow.ints j (by omega)) hB hlt
  have e95 := enters95
  have hcapm := hrow.cap
  unfold maxLen at hcapm
  have htc := hrow.le
  go_enter Tryz.func163, Tryz.ntmps163
  go_wp2_with fail
  refine CI.out.mono ?_
  rintro e w1 ⟨r, rfl, hr, hb1⟩
  rcases hr with rfl | ⟨i, rfl, hi⟩
  · go_wp2
    go_ret
    exact ⟨.slice (some ⟨g, 0, none⟩) n cap, rfl, hR.below hb1, placeB_mk hT hnt hnm, Turned.ofBelow hb1⟩
  · have hneg : ((i : Int) == -1) = false := beq_eq_false_iff_ne.2 (by omega)
    go_wp2
    go_loopw [5, 6] (fun s5 s6 wr => ∃ i j : Nat, s5 = .int .i64 (i : Int) ∧ s6 = .int .i64 (j : Int) ∧ i < j ∧ j ≤ n ∧ Turned (InT T) w wr ∧ RowsOk wr T) (fun _ s6 _ => n - (intOf s6).toNat)
    case atStart => exact ⟨i, i + 1, rfl, by go_num, by omega, by omega, Turned.ofBelow hb1, hR.below hb1⟩
    case round =>
      obtain ⟨i, j, rfl, rfl, hij, hjn, htu, hRr⟩ := hrel
      have hrr := hRr g cap t hT
      have hBw : wr.cell? ⟨B, 0, none⟩ = some (.int .i64 num) := (World.cell?_of_block (w := w) (htu.block B hlt hBT)).trans hB
      have hsz := htu.size
      by_cases hj : j < n
      · obtain ⟨a, ha⟩ := hrr.ints (j * 2) (by omega)
        obtain ⟨b, hb⟩ := hrr.ints (j * 2 + 1) (by omega)
        have CC : Hid (∀ o, Calls Tryz.prog 164 #[.agg #[.int .i64 a, .int .i64 b], .pointer (some ⟨B, 0, none⟩)] (wr.alloc o) fun e w' => e = .returned (.bool (a == num)) ∧ Below (wr.alloc o).heap.size (wr.alloc o) w') := fun o => clo95 a b num B (wr.alloc o) (by rw [World.cell?_of_block (w := wr) (Below.heap_alloc wr o B (by omega))]; exact hBw) (by simp; omega)
        have HR2 : Hid (∀ o w2, Below (wr.alloc o).heap.size (wr.alloc o) w2 → RowsOk w2 T ∧ Turned (InT T) w w2) := fun o w2 hb2 => ⟨(hRr.below ((Below.refl _ wr).alloc (Nat.le_refl _) o)).below hb2, htu.trans ((Turned.ofAlloc wr o).trans (Turned.ofBelow hb2))⟩
        by_cases hab : a = num
        · have hab' : (a == num) = true := by simp [hab]
          clear hab
          go_wp2_with (go_at_fn 164; refine (CC.out _).mono ?_; rintro e w2 ⟨rfl, hb2⟩)
          go_roundw
          case rel => exact ⟨i, j + 1, rfl, by go_num, by omega, by omega, (HR2.out _ _ hb2).2, (HR2.out _ _ hb2).1⟩
          case measure => simp [intOf]; omega
        · have hab' : (a == num) = false := by simp [hab]
          clear hab
          go_wp2_with (go_at_fn 164; refine (CC.out _).mono ?_; rintro e w2 ⟨rfl, hb2⟩; have q0 := hb2.cell (p := ⟨wr.heap.size, 0, none⟩) (by simp); have q1 := hb2.cell (p := ⟨wr.heap.size, 1, none⟩) (by simp); simp at q0 q1; have hr2 := (HR2.out _ _ hb2).1 g cap t hT; obtain ⟨u0, k0⟩ := hr2.ints (i * 2) (by omega); obtain ⟨u1, k1⟩ := hr2.ints (i * 2 + 1) (by omega); have k2 := hr2.free (i * 2); have k3 := hr2.free (i * 2 + 1))
          go_roundw
          case rel => exact ⟨i + 1, j + 1, by go_num, by go_num, by omega, by omega, (HR2.out _ _ hb2).2.trans ((Turned.ofSet _ _ _ ⟨_, hT⟩).trans (Turned.ofSet _ _ _ ⟨_, hT⟩)), ((HR2.out _ _ hb2).1.setInt _ _ _).setInt _ _ _⟩
          case measure => simp [intOf]; omega
      · have hjz : ¬ ((j : Int) < (n : Int)) := by omega
        have hcl := fun ty => clear_two wr ty g (i * 2) (n - i) (cap - i) (by omega) (fun q hq => hrr.there _ (by omega)) (fun q _ => hrr.free _)
        have HF : Hid (Deleted w T m (.returned (.slice (some ⟨g, 0, none⟩) i cap)) (wr.setCells g (i * 2) (List.replicate ((n - i) * 2) (.int .i64 0)))) :=
          ⟨_, rfl, RowsOk.setInts g _ _ _ hRr, placeB_mk hT (by omega) (by omega), htu.trans (Turned.setMany g ⟨_, hT⟩ _ _ _)⟩
        generalize wr.setCells g (i * 2) (List.replicate ((n - i) * 2) (.int .i64 0)) = W9 at hcl HF
        go_wp2
        go_ret
        exact HF.out

theorem del94_any (v : Value) (B : Nat) (num : Int) (w : World) (T : PT) (m : Nat) (hR : RowsOk w T) (hv : placeB T m v = true) (hm : m ≤ 100000) (hB : w.cell? ⟨B, 0, none⟩ = some (.int .i64 num)) (hlt : B < w.heap.size) (hBT : ¬ InT T B) :
    Calls Tryz.prog 163 #[v, .func (.func 164) #[] #[.pointer (some ⟨B, 0, none⟩)]] w (Deleted w T m) := by
  rcases placeB_inv hv with rfl | ⟨g, n, cap, t, rfl, hT, h1, h2⟩
  · exact del94_none none 0 B num w T m hR hv hB hlt
  · exact del94_some g n cap t B num w T m hR hT h1 h2 hm hB hlt hBT
end Go.Proofs.YtaacjjhmojecnaaGreatDoor
