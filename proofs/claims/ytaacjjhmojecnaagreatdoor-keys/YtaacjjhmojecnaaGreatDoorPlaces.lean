/- Rows of places in memory: what is known of them, and what keeps it. -/
import Derived.Test.YtaacjjhmojecnaaGreatDoorRefPush
import Derived.Maps.OwnSet
namespace Go.Proofs.YtaacjjhmojecnaaGreatDoor
open Go.RowKit Go.ScT Go.Proofs

/-- Block g is a row of c places; the first t of them are places. -/
structure PlRow (w : World) (g c t : Nat) : Prop where
  lt : g < w.heap.size
  there : ∀ j, j < c * 2 → (w.cell? ⟨g, j, none⟩).isSome = true
  free : ∀ j, w.frozen? ⟨g, j, none⟩ = false
  ints : ∀ j, j < t * 2 → ∃ z, w.cell? ⟨g, j, none⟩ = some (.int .i64 z)
  le : t ≤ c
  cap : c ≤ maxLen

abbrev PT := Nat → Option (Nat × Nat)
def RowsOk (w : World) (T : PT) : Prop := ∀ g c t, T g = some (c, t) → PlRow w g c t

theorem PlRow.turned {w w' : World} {Z : Nat → Prop} {g c t : Nat} (h : PlRow w g c t) (ht : Turned Z w w') (hz : ¬ Z g) : PlRow w' g c t := by
  have hb := ht.block g h.lt hz
  have hc : ∀ j, w'.cell? ⟨g, j, none⟩ = w.cell? ⟨g, j, none⟩ := fun j => World.cell?_of_block (w := w) hb
  have hf : ∀ j, w'.frozen? ⟨g, j, none⟩ = w.frozen? ⟨g, j, none⟩ := fun j => World.frozen?_of_block (w := w) hb
  exact ⟨Nat.lt_of_lt_of_le h.lt ht.size, fun j hj => by rw [hc]; exact h.there j hj, fun j => by rw [hf]; exact h.free j, fun j hj => by rw [hc]; exact h.ints j hj, h.le, h.cap⟩

theorem RowsOk.turned {w w' : World} {Z : Nat → Prop} {T : PT} (h : RowsOk w T) (ht : Turned Z w w') (hz : ∀ g x, T g = some x → ¬ Z g) : RowsOk w' T := fun g c t hg => (h g c t hg).turned ht (hz g _ hg)
theorem RowsOk.below {w w' : World} {T : PT} (h : RowsOk w T) (hb : Below w.heap.size w w') : RowsOk w' T := h.turned (Z := fun _ => False) (Turned.ofBelow hb) (fun _ _ _ h => h)

/-- A number is laid into a cell, wherever. -/
theorem PlRow.setInt {w : World} {g c t : Nat} (h : PlRow w g c t) (b j : Nat) (z : Int) : PlRow (w.setCell ⟨b, j, none⟩ (.int .i64 z)) g c t := by
  have hf : ∀ i, (w.setCell ⟨b, j, none⟩ (.int .i64 z)).frozen? ⟨g, i, none⟩ = w.frozen? ⟨g, i, none⟩ := fun i => World.frozen?_setCell _ _ _ _
  have hc : ∀ i, (w.cell? ⟨g, i, none⟩).isSome = true → (w.setCell ⟨b, j, none⟩ (.int .i64 z)).cell? ⟨g, i, none⟩ = if (g = b ∧ i = j) then some (.int .i64 z) else w.cell? ⟨g, i, none⟩ := by
    intro i hi
    by_cases e : g = b ∧ i = j
    · obtain ⟨rfl, rfl⟩ := e
      rw [if_pos ⟨rfl, rfl⟩]
      obtain ⟨u, hu⟩ := Option.isSome_iff_exists.1 hi
      exact World.cell?_setCell_same w _ _ hu
    · rw [if_neg e]
      exact World.cell?_setCell_other w _ _ _ (fun e' => e (by cases e'; exact ⟨rfl, rfl⟩))
  refine ⟨by simp [World.setCell]; exact h.lt, fun i hi => ?_, fun i => by rw [hf]; exact h.free i, fun i hi => ?_, h.le, h.cap⟩
  · rw [hc i (h.there i hi)]
    split
    · rfl
    · exact h.there i hi
  · have hle := h.le
    rw [hc i (h.there i (by omega))]
    split
    · exact ⟨z, rfl⟩
    · exact h.ints i hi
theorem RowsOk.setInt {w : World} {T : PT} (h : RowsOk w T) (b j : Nat) (z : Int) : RowsOk (w.setCell ⟨b, j, none⟩ (.int .i64 z)) T := fun g c t hg => (h g c t hg).setInt b j z

/-- Is a value a slice of places that T knows, of at most m places? -/
def placeB (T : PT) (m : Nat) (v : Value) : Bool := match v with
  | .slice none 0 0 => true
  | .slice (some ⟨g, 0, none⟩) n cap => (match T g with | some (c, t) => c == cap && decide (n ≤ t) && decide (n ≤ m) | none => false)
  | _ => false
def placeE (T : PT) (m : Nat) (v : Value) : Option (DataW Unit × List MemPlace) := if placeB T m v then some (.nil, []) else none

theorem placeB_inv {T : PT} {m : Nat} {v : Value} (h : placeB T m v = true) : v = .slice none 0 0 ∨ ∃ g n cap t, v = .slice (some ⟨g, 0, none⟩) n cap ∧ T g = some (cap, t) ∧ n ≤ t ∧ n ≤ m := by
  unfold placeB at h
  split at h
  · exact Or.inl rfl
  · rename_i g n cap
    right
    split at h
    · rename_i c t hT
      simp at h
      obtain ⟨⟨rfl, h1⟩, h2⟩ := h
      exact ⟨g, n, _, t, rfl, hT, h1, h2⟩
    · cases h
  · cases h
theorem placeB_mk {T : PT} {m g n cap t : Nat} (hT : T g = some (cap, t)) (h1 : n ≤ t) (h2 : n ≤ m) : placeB T m (.slice (some ⟨g, 0, none⟩) n cap) = true := by
  simp [placeB, hT, h1, h2]
theorem placeB_mono {T T' : PT} {m m' : Nat} (hT : ∀ g c t, T g = some (c, t) → ∃ t', T' g = some (c, t') ∧ t ≤ t') (hm : m ≤ m') {v : Value} (h : placeB T m v = true) : placeB T' m' v = true := by
  rcases placeB_inv h with rfl | ⟨g, n, cap, t, rfl, h1, h2, h3⟩
  · rfl
  · obtain ⟨t', h4, h5⟩ := hT g cap t h1
    exact placeB_mk h4 (by omega) (by omega)
theorem placeE_inv {T : PT} {m : Nat} {v : Value} {y : DataW Unit × List MemPlace} (h : placeE T m v = some y) : placeB T m v = true ∧ y = (.nil, []) := by
  unfold placeE at h
  split at h
  · rename_i hb; cases h; exact ⟨hb, rfl⟩
  · cases h
theorem placeE_mk {T : PT} {m : Nat} {v : Value} (h : placeB T m v = true) : placeE T m v = some (.nil, []) := by simp [placeE, h]

/-- A map read by one reader is read by any other that reads the same of its elements. -/
theorem ownsMap_reader {w : World} {R R' : Value → Option (DataW Unit × List MemPlace)} {k : TypeId} {b n : Nat} {D : DataW Unit} (h : w.ownsMap Tryz.prog k R b n D) (hR : ∀ v y, R v = some y → R' v = some y) : w.ownsMap Tryz.prog k R' b n D := by
  obtain ⟨es, clock, hb, F, hs, hD⟩ := h
  have hrd : ∀ x ∈ es.toList, WideElems.rd Tryz.prog k R' x = WideElems.rd Tryz.prog k R x := by
    intro x hx
    obtain ⟨y, hy⟩ := F.reads x hx
    unfold WideElems.rd at hy ⊢
    cases hk : keyOf Tryz.prog k x.key with
    | none => rfl
    | some key =>
      rw [hk] at hy
      simp only [Option.bind_some] at hy ⊢
      cases hv : R x.val with
      | none => rw [hv] at hy; simp at hy
      | some z => rw [hR _ _ hv]
  refine ⟨es, clock, hb, ⟨F.size, F.stamped, fun x hx => by rw [hrd x hx]; exact F.reads x hx⟩, hs, ?_⟩
  have hm : es.toList.map (WideElems.rg Tryz.prog k R') = es.toList.map (WideElems.rg Tryz.prog k R) := List.map_congr_left fun x hx => by
    unfold WideElems.rg
    rw [hrd x hx]
  rw [hD, hm]
theorem ownsMap_turned {w w' : World} {Z : Nat → Prop} {H : Type} {R : Value → Option (DataW H × List MemPlace)} {k : TypeId} {b n : Nat} {D : DataW H} (h : w.ownsMap Tryz.prog k R b n D) (ht : Turned Z w w') (hz : ¬ Z b) : w'.ownsMap Tryz.prog k R b n D := by
  have hlt := h.lt
  obtain ⟨es, clock, hb, rest⟩ := h
  exact ⟨es, clock, (ht.block b hlt hz).trans hb, rest⟩
end Go.Proofs.YtaacjjhmojecnaaGreatDoor
