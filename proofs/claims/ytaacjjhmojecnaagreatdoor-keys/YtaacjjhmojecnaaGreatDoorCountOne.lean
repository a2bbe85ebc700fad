/- The walk of countOne. -/
import Derived.Test.YtaacjjhmojecnaaGreatDoorPlaces
import Derived.ArgAppend
namespace Go.Proofs.YtaacjjhmojecnaaGreatDoor
open Go.RowKit Go.ScT Go.Proofs

theorem info137 : (Tryz.prog.info? 175).map (fun i => (i.zero, i.size, i.bytes)) = some (some (.agg #[.int .i64 0, .int .i64 0]), 2, 16) := by kernel_rfl

/-- T' knows all that T knows, and no less of each row. -/
def Ext (T T' : PT) : Prop := ∀ g c t, T g = some (c, t) → ∃ t', T' g = some (c, t') ∧ t ≤ t'
theorem Ext.refl (T : PT) : Ext T T := fun _ _ t h => ⟨t, h, Nat.le_refl _⟩
theorem Ext.trans {A B C : PT} (h : Ext A B) (k : Ext B C) : Ext A C := fun g c t hg => by
  obtain ⟨t1, h1, h2⟩ := h g c t hg
  obtain ⟨t2, h3, h4⟩ := k g c t1 h1
  exact ⟨t2, h3, by omega⟩
def InT (T : PT) : Nat → Prop := fun b => ∃ x, T b = some x

/-- A row that has been laid anew. -/
theorem rows_grow {W w' : World} {T : PT} {v' : Value} {k m : Nat} {xs : List Value} (hR : RowsOk W T) (hg : W.grownBy w' none) (ho : w'.ownsRow W.heap.size 175 2 v' k xs) (hk : 0 < k) (hkm : k ≤ m) (hx : ∀ j, j < k * 2 → ∃ z, xs[j]? = some (.int .i64 z)) :
    ∃ T', Ext T T' ∧ RowsOk w' T' ∧ placeB T' m v' = true ∧ ∀ g x, T' g = some x → InT T g ∨ (W.heap.size ≤ g ∧ g < w'.heap.size) := by
  rcases ho.2 with ⟨_, h0⟩ | ⟨g, cap, cur, rfl, hge, hb, hnc, hcm, hcs, htk⟩
  · omega
  have hlt := lt_of_block hb
  have hTn : T g = none := by
    cases hT : T g with
    | none => rfl
    | some x => have := (hR g x.1 x.2 hT).lt; omega
  refine ⟨fun b => if b = g then some (cap, k) else T b, ?_, ?_, ?_, ?_⟩
  · intro b c t hb'
    have : b ≠ g := fun e => by rw [e, hTn] at hb'; cases hb'
    exact ⟨t, by simp [this, hb'], Nat.le_refl _⟩
  · intro b c t hb'
    by_cases e : b = g
    · subst e
      simp at hb'
      obtain ⟨rfl, rfl⟩ := hb'
      refine ⟨hlt, fun j hj => ?_, fun j => by simp [World.frozen?, hb], fun j hj => ?_, hnc, hcm⟩
      · have : j < cur.size := by omega
        simp [World.cell?, hb, this]
      · rw [ho.cellAt j hj]
        exact hx j hj
    · simp [e] at hb'
      exact (hR b c t hb').turned (Z := fun _ => False) (Turned.ofGrown hg (fun k hk => by cases hk)) (fun h => h)
  · exact placeB_mk (t := k) (by simp) (Nat.le_refl _) hkm
  · intro b x hb'
    by_cases e : b = g
    · subst e; exact Or.inr ⟨hge, hlt⟩
    · simp [e] at hb'; exact Or.inl ⟨x, hb'⟩

/-- A row that has one place more, where there was room. -/
theorem rows_room {W : World} {T : PT} {g n cap t m : Nat} {z1 z2 : Int} (hR : RowsOk W T) (hT : T g = some (cap, t)) (hn : n ≤ t) (hroom : n + 1 ≤ cap) (hm : n + 1 ≤ m) :
    ∃ T', Ext T T' ∧ RowsOk (W.setCells g (0 + n * 2) [.int .i64 z1, .int .i64 z2]) T' ∧ placeB T' m (.slice (some ⟨g, 0, none⟩) (n + 1) cap) = true ∧ (∀ b x, T' b = some x → InT T b) ∧ Turned (InT T) W (W.setCells g (0 + n * 2) [.int .i64 z1, .int .i64 z2]) := by
  have hrow := hR g cap t hT
  have hR2 : RowsOk (W.setCells g (0 + n * 2) [.int .i64 z1, .int .i64 z2]) T := (hR.setInt g (0 + n * 2) z1).setInt g (0 + n * 2 + 1) z2
  have hrow2 := hR2 g cap t hT
  have htu : Turned (InT T) W (W.setCells g (0 + n * 2) [.int .i64 z1, .int .i64 z2]) := (Turned.ofSet W _ _ ⟨_, hT⟩).trans (Turned.ofSet _ _ _ ⟨_, hT⟩)
  by_cases hle : n + 1 ≤ t
  · exact ⟨T, Ext.refl T, hR2, placeB_mk hT hle hm, fun b x h => ⟨x, h⟩, htu⟩
  · have hnt : n = t := by omega
    subst hnt
    refine ⟨fun b => if b = g then some (cap, n + 1) else T b, ?_, ?_, placeB_mk (t := n + 1) (by simp) (Nat.le_refl _) hm, ?_, htu⟩
    · intro b c t hb
      by_cases e : b = g
      · subst e
        rw [hT] at hb
        simp at hb
        exact ⟨n + 1, by simp [hb.1], by omega⟩
      · exact ⟨t, by simp [e, hb], Nat.le_refl _⟩
    · intro b c t hb
      by_cases e : b = g
      · subst e
        simp at hb
        obtain ⟨rfl, rfl⟩ := hb
        refine ⟨hrow2.lt, hrow2.there, hrow2.free, fun j hj => ?_, hroom, hrow2.cap⟩
        by_cases hj2 : j < n * 2
        · exact hrow2.ints j hj2
        · have hin := World.cell?_setCells_in b [.int .i64 z1, .int .i64 z2] (0 + n * 2) W (fun i hi => by simp at hi; exact hrow.there _ (by omega)) (j - n * 2) (by simp; omega)
          rw [show 0 + n * 2 + (j - n * 2) = j by omega] at hin
          rw [hin]
          have : j - n * 2 = 0 ∨ j - n * 2 = 1 := by omega
          rcases this with e | e
          · exact ⟨z1, by simp [e]⟩
          · exact ⟨z2, by simp [e]⟩
      · simp [e] at hb
        exact hR2 b c t hb
    · intro b x hb
      by_cases e : b = g
      · subst e; exact ⟨_, hT⟩
      · simp [e] at hb; exact ⟨x, hb⟩

/-- What countOne leaves. -/
def Counted (w : World) (T : PT) (m : Nat) (e : Ending) (w' : World) : Prop :=
  ∃ v' T', e = .returned v' ∧ RowsOk w' T' ∧ placeB T' m v' = true ∧ Ext T T' ∧ (∀ g x, T' g = some x → InT T g ∨ (w.heap.size ≤ g ∧ g < w'.heap.size)) ∧ Turned (InT T) w w'

set_option maxHeartbeats 1000000 in
theorem countOne_nil (w : World) (T : PT) (m : Nat) (z : Int) (hR : RowsOk w T) (hm : 1 ≤ m) :
    Calls Tryz.prog 181 #[.slice none 0 0, .int .i64 z] w (Counted w T m) := by
  obtain ⟨i0, hi, hz0, hz1, hz2⟩ := info_parts info137
  go_enter Tryz.func181, Tryz.ntmps181
  go_wp2_with (at_builtin; refine wpList_append_grows _ rfl _ _ 173 rfl 175 i0 _ 2 16 Tryz.underlying173 hi hz0 hz1 hz2 rfl (by decide) none 0 0 [] rfl (fun _ => ⟨rfl, rfl⟩) rfl (fun b h => by cases h) ⟨w.heap.size, 0, none⟩ 1 1 [.int .i64 z, .int .i64 1] rfl rfl (cell_two_new _ _ _ _) (fun x hx => by simp at hx; rcases hx with rfl | rfl <;> rfl) (by omega) (by unfold maxLen; omega) (by omega) ?_; intro v' w' hown hgrow)
  go_ret
  obtain ⟨T', h1, h2, h3, h4⟩ := rows_grow (m := m) (hR.below ((Below.refl _ w).alloc (Nat.le_refl _) _)) hgrow hown (by omega) hm (fun j hj => by
    have : j = 0 ∨ j = 1 := by omega
    rcases this with rfl | rfl
    · exact ⟨z, rfl⟩
    · exact ⟨1, rfl⟩)
  refine ⟨v', T', rfl, h2, h3, h1, fun g x hg => ?_, (Turned.ofAlloc w _).trans (Turned.ofGrown hgrow (fun k hk => by cases hk))⟩
  rcases h4 g x hg with h | ⟨ha, hb⟩
  · exact Or.inl h
  · exact Or.inr ⟨by simp at ha; omega, hb⟩

theorem row_list {w : World} {g c t : Nat} (h : PlRow w g c t) : ∀ k, k ≤ t * 2 → ∃ olds : List Value, olds.length = k ∧ (∀ j u, olds[j]? = some u → w.cell? ⟨g, 0 + j, none⟩ = some u) ∧ ∀ j, j < k → ∃ z, olds[j]? = some (.int .i64 z)
  | 0, _ => ⟨[], rfl, fun j u hj => by simp at hj, fun j hj => by omega⟩
  | k + 1, hk => by
    obtain ⟨l, h1, h2, h3⟩ := row_list h k (by omega)
    obtain ⟨z, hz⟩ := h.ints k (by omega)
    refine ⟨l ++ [.int .i64 z], by simp [h1], fun j u hj => ?_, fun j hj => ?_⟩
    · rw [List.getElem?_append] at hj
      split at hj
      · exact h2 j u hj
      · rename_i hge
        have h0 : j - l.length = 0 := by
          have := (List.getElem?_eq_some_iff.1 hj).1
          simp at this
          omega
        rw [h0] at hj
        simp at hj
        subst hj
        have : j = k := by omega
        subst this
        rw [Nat.zero_add]; exact hz
    · by_cases hjk : j < k
      · obtain ⟨y, hy⟩ := h3 j hjk
        exact ⟨y, by rw [List.getElem?_append_left (by omega)]; exact hy⟩
      · have : j = k := by omega
        subst this
        exact ⟨z, by rw [List.getElem?_append_right (by omega), h1]; simp⟩

set_option maxHeartbeats 2000000 in
theorem countOne_app (w : World) (T : PT) (m : Nat) (z : Int) (hR : RowsOk w T) (g n cap t : Nat) (hT : T g = some (cap, t)) (hn : n ≤ t) (hnm : n + 1 ≤ m) (hm : m ≤ 100000) (hne : n = 0 ∨ ∃ x, w.cell? ⟨g, (n - 1) * 2, none⟩ = some (.int .i64 x) ∧ (x == z) = false) :
    Calls Tryz.prog 181 #[.slice (some ⟨g, 0, none⟩) n cap, .int .i64 z] w (Counted w T m) := by
  obtain ⟨i0, hi, hz0, hz1, hz2⟩ := info_parts info137
  have hrow := hR g cap t hT
  obtain ⟨olds, ol, oc, oi⟩ := row_list hrow (n * 2) (by omega)
  have hR1 : ∀ o, RowsOk (w.alloc o) T := fun o => hR.below ((Below.refl _ w).alloc (Nat.le_refl _) _)
  have hrow1 : ∀ o, PlRow (w.alloc o) g cap t := fun o => hR1 o g cap t hT
  have oc1 : ∀ o j u, olds[j]? = some u → (w.alloc o).cell? ⟨g, 0 + j, none⟩ = some u := fun o j u hj => by
    rw [World.cell?_of_block (Below.heap_alloc _ _ _ hrow.lt)]; exact oc j u hj
  have OC : Hid (∀ o j u, olds[j]? = some u → (w.alloc o).cell? ⟨g, 0 + j, none⟩ = some u) := oc1
  have HR1 : Hid (∀ o, RowsOk (w.alloc o) T) := hR1
  have HW1 : Hid (∀ o, PlRow (w.alloc o) g cap t) := hrow1
  have OI : Hid (∀ j, j < n * 2 → ∃ z, olds[j]? = some (.int .i64 z)) := oi
  have hxi : Hid (∀ j, j < (n + 1) * 2 → ∃ y, (olds ++ [.int .i64 z, .int .i64 1])[j]? = some (.int .i64 y)) := by
    intro j hj
    by_cases h : j < n * 2
    · obtain ⟨y, hy⟩ := oi j h
      exact ⟨y, by rw [List.getElem?_append_left (by omega)]; exact hy⟩
    · have : j - n * 2 = 0 ∨ j - n * 2 = 1 := by omega
      rw [List.getElem?_append_right (by omega), ol]
      rcases this with e | e
      · exact ⟨z, by rw [e]; rfl⟩
      · exact ⟨1, by rw [e]; rfl⟩
  have fin1 : Hid (∀ v' w' o B k, B = w.heap.size + 1 → k = n + 1 → w'.ownsRow B 175 2 v' k (olds ++ [.int .i64 z, .int .i64 1]) → (w.alloc o).grownBy w' none → Counted w T m (.returned v') w') := by
    intro v' w' o B k hB hk hown hgrow
    rw [hB, hk] at hown
    have hsz : (w.alloc o).heap.size = w.heap.size + 1 := by simp
    rw [← hsz] at hown
    obtain ⟨T', h1, h2, h3, h4⟩ := rows_grow (m := m) (hR1 o) hgrow hown (by omega) hnm hxi.out
    refine ⟨v', T', rfl, h2, h3, h1, fun g x hg => ?_, (Turned.ofAlloc w _).trans (Turned.ofGrown hgrow (fun k hk => by cases hk))⟩
    rcases h4 g x hg with h | ⟨ha, hb⟩
    · exact Or.inl h
    · exact Or.inr ⟨by simp at ha; omega, hb⟩
  have fin2 : Hid (∀ o k off, k = n + 1 → off = 0 + n * 2 → n + 1 ≤ cap → Counted w T m (.returned (.slice (some ⟨g, 0, none⟩) k cap)) ((w.alloc o).setCells g off [.int .i64 z, .int .i64 1])) := by
    intro o k off hk hoff hroom
    rw [hk, hoff]
    obtain ⟨T', h1, h2, h3, h4, h5⟩ := rows_room (z1 := z) (z2 := 1) (m := m) (hR1 o) hT hn hroom hnm
    exact ⟨_, T', rfl, h2, h3, h1, fun g x hg => Or.inl (h4 g x hg), (Turned.ofAlloc w _).trans h5⟩
  have hsp : Hid (∀ o, n + 1 ≤ cap → ∀ j, j < 2 → ((w.alloc o).cell? ⟨g, 0 + n * 2 + j, none⟩).isSome = true ∧ (w.alloc o).frozen? ⟨g, 0 + n * 2 + j, none⟩ = false) := fun o hroom j hj => ⟨(hrow1 o).there _ (by omega), (hrow1 o).free _⟩
  clear hR1 hrow1 oc1 oi oc hR hxi
  have hcapm := hrow.cap
  unfold maxLen at hcapm
  have htc := hrow.le
  rcases hne with rfl | ⟨x, hx, hxz⟩
  · go_enter Tryz.func181, Tryz.ntmps181
    go_wp2_with (at_builtin; refine wpList_append_arg _ rfl _ _ 173 rfl 175 i0 _ 2 16 Tryz.underlying173 hi hz0 hz1 hz2 rfl (by decide) g 0 0 cap olds rfl ol (OC.out _) ⟨w.heap.size, 0, none⟩ 1 1 [.int .i64 z, .int .i64 1] rfl rfl (cell_two_new _ _ _ _) (fun x hx => by simp at hx; rcases hx with rfl | rfl <;> rfl) (hsp.out _) (by unfold maxLen; omega) (by omega) ?_ ?_)
    · intro hroom
      go_wp2
      go_ret
      exact fin2.out _ _ _ (by simp) (by simp) (by omega)
    · intro _ v' w' hown hgrow
      go_wp2
      go_ret
      exact fin1.out v' _ _ _ _ rfl (by simp) hown hgrow
  · by_cases hn0 : n = 0
    · subst hn0
      go_enter Tryz.func181, Tryz.ntmps181
      go_wp2_with (at_builtin; refine wpList_append_arg _ rfl _ _ 173 rfl 175 i0 _ 2 16 Tryz.underlying173 hi hz0 hz1 hz2 rfl (by decide) g 0 0 cap olds rfl ol (OC.out _) ⟨w.heap.size, 0, none⟩ 1 1 [.int .i64 z, .int .i64 1] rfl rfl (cell_two_new _ _ _ _) (fun x hx => by simp at hx; rcases hx with rfl | rfl <;> rfl) (hsp.out _) (by unfold maxLen; omega) (by omega) ?_ ?_)
      · intro hroom
        go_wp2
        go_ret
        exact fin2.out _ _ _ (by simp) (by simp) (by omega)
      · intro _ v' w' hown hgrow
        go_wp2
        go_ret
        exact fin1.out v' _ _ _ _ rfl (by simp) hown hgrow
    · obtain ⟨k, rfl⟩ : ∃ k, n = k + 1 := ⟨n - 1, by omega⟩
      rw [show (k + 1 - 1) * 2 = k * 2 by omega] at hx
      have hk1 : (0 : Int) ≤ (k : Int) := by omega
      clear hn0
      go_enter Tryz.func181, Tryz.ntmps181
      go_wp2_with (at_builtin; refine wpList_append_arg _ rfl _ _ 173 rfl 175 i0 _ 2 16 Tryz.underlying173 hi hz0 hz1 hz2 rfl (by decide) g 0 (k + 1) cap olds rfl ol (OC.out _) ⟨w.heap.size, 0, none⟩ 1 1 [.int .i64 z, .int .i64 1] rfl rfl (cell_two_new _ _ _ _) (fun x hx => by simp at hx; rcases hx with rfl | rfl <;> rfl) (hsp.out _) (by unfold maxLen; omega) (by omega) ?_ ?_)
      · intro hroom
        go_wp2
        go_ret
        exact fin2.out _ _ _ (by simp) (by simp) (by omega)
      · intro _ v' w' hown hgrow
        go_wp2
        go_ret
        exact fin1.out v' _ _ _ _ rfl (by simp) hown hgrow
end Go.Proofs.YtaacjjhmojecnaaGreatDoor
