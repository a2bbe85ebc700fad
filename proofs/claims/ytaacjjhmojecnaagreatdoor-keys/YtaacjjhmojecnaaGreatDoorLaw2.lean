/- The walks of made and pick. -/
import Derived.Test.YtaacjjhmojecnaaGreatDoorLaw1
namespace Go.Proofs.YtaacjjhmojecnaaGreatDoor
open Go.RowKit Go.ScT Go.Proofs Go.Shelf

set_option maxHeartbeats 1000000 in
set_option maxRecDepth 1000000 in
theorem made_any (w : World) (B L : Nat) (v : Value) (ps : List Pr) (h : LawOk w B L v ps) (hBw : B ≤ w.heap.size) (hl : (ps.length + 1) * 16 ≤ 140737488355328) :
    Calls Tryz.prog 36 #[.pointer (some ⟨L, 0, none⟩)] w fun en w' => en = .returned (.bool true) ∧ (∃ v' ps', LawOk w' B L v' ps' ∧ ps'.length = ps.length + 1) ∧ Below B w w' := by
  obtain ⟨i67, hi, hz0, hz1, hz2⟩ := info_parts info67
  obtain ⟨gv, capv, aov, rfl, _, _⟩ := ownsRow_shape h.own
  have H : Hid (LawOk w B L (.slice aov ps.length capv) ps) := h
  have HL := lt_of_block h.cell
  have C29 : Hid (Calls Tryz.prog 62 #[] w fun en w' => ∃ e', en = .returned (.pointer (some ⟨e', 0, none⟩)) ∧ EngOk w' (fun b => w.heap.size ≤ b ∧ b < w'.heap.size) e' [] ∧ Below w.heap.size w w') := new_any w
  have C30 : Hid (∀ w, Calls Tryz.prog 63 #[] w fun e w' => e = .returned (.pointer (some ⟨w.heap.size, 0, none⟩)) ∧ w' = w.alloc (.cells #[.slice none 0 0, .slice none 0 0, .slice none 0 0, .slice none 0 0] 193)) := refNew_any
  have hne : (Value.slice aov ps.length capv).ownBlock ≠ some L := fun hg => by
    obtain ⟨cu, bq⟩ := ownsRow_block h.own hg
    exact tag_ne h.cell bq (by decide) rfl
  have HC : Hid (∀ w1, Below w.heap.size w w1 → ∀ o o', ((w1.alloc o).alloc o').cell? ⟨L, 0, none⟩ = some (.slice aov ps.length capv) ∧ (w1.alloc o).cell? ⟨L, 0, none⟩ = some (.slice aov ps.length capv) ∧ ((w1.alloc o).alloc o').frozen? ⟨L, 0, none⟩ = false) := fun w1 hb1 o o' => by
    have hs := hb1.size
    have e1 : (w1.alloc o).heap[L]? = some (.cells #[.slice aov ps.length capv] 61 (0, 0)) := by
      rw [Below.heap_alloc _ _ _ (by omega), hb1.block L HL]; exact h.cell
    have e2 : ((w1.alloc o).alloc o').heap[L]? = some (.cells #[.slice aov ps.length capv] 61 (0, 0)) := by
      rw [Below.heap_alloc _ _ _ (by simp; omega)]; exact e1
    exact ⟨by simp [World.cell?, e2], by simp [World.cell?, e1], by simp [World.frozen?, e2]⟩
  have HOW : Hid (∀ w1, Below w.heap.size w w1 → ∀ o o', ((w1.alloc o).alloc o').ownsRow B 108 2 (.slice aov ps.length capv) ps.length (pairCells ps)) := fun w1 hb1 o o' =>
    ownsRow_turned h.own (((Turned.ofBelow (Z := fun _ => False) hb1).trans (Turned.ofAlloc w1 o)).trans (Turned.ofAlloc _ o')) (fun _ _ hf => hf)
  have HNB : Hid (∀ (w1 : World) (o : Obj) (x y : Value), ((w1.alloc o).alloc (.cells #[x, y] 108)).heap[w1.heap.size + 1]? = some (.cells #[x, y] 108 (0, 0))) := fun w1 o x y => by
    have := heap_alloc_new (w1.alloc o) (.cells #[x, y] 108)
    rw [show (w1.alloc o).heap.size = w1.heap.size + 1 by simp] at this
    exact this
  have HFA : Hid (∀ (w1 : World) (o o' : Obj) (w3 : World), Below w.heap.size w w1 → ((w1.alloc o).alloc o').grownBy w3 (Value.slice aov ps.length capv).ownBlock → w3.cell? ⟨L, 0, none⟩ = some (.slice aov ps.length capv) ∧ w3.frozen? ⟨L, 0, none⟩ = false) := fun w1 o o' w3 hb1 hg => by
    have hs := hb1.size
    have hc := HC.out w1 hb1 o o'
    have hb := hg.block L (by simp; omega) (Ne.symm hne)
    exact ⟨(World.cell?_of_block hb).trans hc.1, (World.frozen?_of_block hb).trans hc.2.2⟩
  have HS : Hid (∀ w1, Below w.heap.size w w1 → ∀ o o', B ≤ ((w1.alloc o).alloc o').heap.size) := fun w1 hb1 o o' => by
    have := hb1.size
    simp
    omega
  clear h
  go_enter Tryz.func36, Tryz.ntmps36
  go_wp2_with (first
    | (go_at_call 62; refine C29.out.mono ?_; rintro en w1 ⟨e', rfl, hE1, hb1⟩; have hs1 := hb1.size; have HE1 : Hid (EngOk w1 (fun b => w.heap.size ≤ b ∧ b < w1.heap.size) e' []) := hE1; clear hE1; have HB1 : Hid (Below w.heap.size w w1) := hb1; clear hb1)
    | (go_at_call 63; refine (C30.out _).mono ?_; rintro en w2 ⟨rfl, hw2⟩; rw [hw2]; clear hw2 w2; have k0 := (HC.out w1 HB1.out (.cells #[.slice none 0 0, .slice none 0 0, .slice none 0 0, .slice none 0 0] 193) (.map #[] 0)).2.1)
    | (at_builtin; refine wpList_append_lies _ rfl _ _ 59 rfl B 108 i67 _ 2 16 Tryz.underlying59 hi hz0 hz1 hz2 rfl (by omega) (.slice aov ps.length capv) ps.length (pairCells ps) rfl (HOW.out w1 HB1.out _ _) ⟨w1.heap.size + 1, 0, none⟩ 1 1 [.pointer (some ⟨e', 0, none⟩), .pointer (some ⟨w1.heap.size, 0, none⟩)] rfl rfl (World.news_of_block (HNB.out w1 _ _ _)) (fun x hx => by simp at hx; rcases hx with rfl | rfl <;> rfl) (by omega) (by unfold maxLen; omega) (by omega) (HS.out w1 HB1.out _ _) (w1.heap.size + 1 + 1) (by simp) ?_; intro gA capA w3 hownA hgrowA hatA hltA; have FA := HFA.out w1 _ _ w3 HB1.out hgrowA; have k1 := FA.1; have k2 := FA.2; have HD : Hid _ := made_done H.out hBw HE1.out HB1.out hgrowA hownA hatA; clear FA))
  go_ret
  exact ⟨rfl, HD.out.1, HD.out.2⟩
end Go.Proofs.YtaacjjhmojecnaaGreatDoor
