/- The walk of the law's step. -/
import Derived.Test.YtaacjjhmojecnaaGreatDoorLaw3
namespace Go.Proofs.YtaacjjhmojecnaaGreatDoor
open Go.RowKit Go.ScT Go.Proofs Go.Shelf

theorem pairCells_set : ∀ (ps : List Pr) (i : Nat) (p p' : Pr), ps[i]? = some p → p'.x = p.x → p'.y = p.y → pairCells (ps.set i p') = pairCells ps
  | [], i, p, p', h, _, _ => by simp at h
  | q :: r, 0, p, p', h, hx, hy => by
    simp at h
    subst h
    simp [pairCells, hx, hy]
  | q :: r, i + 1, p, p', h, hx, hy => by
    have ih := pairCells_set r i p p' (by simpa using h) hx hy
    simp only [pairCells, List.set_cons_succ, List.flatMap_cons] at ih ⊢
    rw [ih]

theorem law_kept {w w' : World} {B L : Nat} {v : Value} {ps : List Pr} {i : Nat} {p : Pr} {en : Ending} (h : LawOk w B L v ps) (hp : ps[i]? = some p) (hd : KeptDone w B p en w') :
    en = .returned (.bool true) ∧ (∃ v' ps', LawOk w' B L v' ps' ∧ ps'.length ≤ ps.length + 1) ∧ Below B w w' := by
  obtain ⟨he, ⟨p', hx, hy, hP', hz'⟩, ht⟩ := hd
  have hLl := lt_of_block h.cell
  have hil := (List.getElem?_eq_some_iff.1 hp).1
  have vlt : ∀ g, v.ownBlock = some g → g < w.heap.size := fun g hg => by
    obtain ⟨cu, bq⟩ := ownsRow_block h.own hg
    exact lt_of_block bq
  have getp : ∀ (j : Nat) (q : Pr), (ps.set i p')[j]? = some q → (i = j ∧ q = p') ∨ (i ≠ j ∧ ps[j]? = some q) := by
    intro j q hq
    by_cases e : i = j
    · subst e
      rw [List.getElem?_set_self hil] at hq
      cases hq
      exact Or.inl ⟨rfl, rfl⟩
    · rw [List.getElem?_set_ne e] at hq
      exact Or.inr ⟨e, hq⟩
  refine ⟨he, ⟨v, ps.set i p', ⟨(ht.block L hLl (h.zL i p hp)).trans h.cell, h.lB, ?_, ?_, ?_, ?_, ?_⟩, by simp⟩, ?_⟩
  · rw [pairCells_set ps i p p' hp hx hy, List.length_set]
    exact ownsRow_turned h.own ht (fun g hg => h.zv i p g hp hg)
  · intro j q hq
    rcases getp j q hq with ⟨_, rfl⟩ | ⟨e, hq⟩
    · exact hP'
    · exact (h.each j q hq).turned ht (fun b hb hb' => h.apart j i q p hq hp (Ne.symm e) b hb hb')
  · intro j k q r hq hr hjk b hb hb'
    rcases getp j q hq with ⟨ej, eq⟩ | ⟨ej, hq2⟩ <;> rcases getp k r hr with ⟨ek, er⟩ | ⟨ek, hr2⟩
    · omega
    · rw [eq] at hb
      rcases hz' b hb with hb | hb
      · exact h.apart i k p r hp hr2 ek b hb hb'
      · have := ((h.each k r hr2).lt b hb').2
        omega
    · rw [er] at hb'
      rcases hz' b hb' with hb' | hb'
      · exact h.apart j i q p hq2 hp (Ne.symm ej) b hb hb'
      · have := ((h.each j q hq2).lt b hb).2
        omega
    · exact h.apart j k q r hq2 hr2 hjk b hb hb'
  · intro j q hq hz
    rcases getp j q hq with ⟨_, rfl⟩ | ⟨_, hq⟩
    · rcases hz' L hz with hz | hz
      · exact h.zL i p hp hz
      · omega
    · exact h.zL j q hq hz
  · intro j q g hq hg hz
    rcases getp j q hq with ⟨_, rfl⟩ | ⟨_, hq⟩
    · rcases hz' g hz with hz | hz
      · exact h.zv i p g hp hg hz
      · have := vlt g hg
        omega
    · exact h.zv j q g hq hg hz
  · exact ⟨ht.os, ht.tape, ht.output, ht.size, fun b hb => by
      by_cases hbl : b < w.heap.size
      · exact ht.block b hbl (fun hz => by have := ((h.each i p hp).lt b hz).1; omega)
      · have hlB := h.lB
        omega⟩

/-- What a step leaves. -/
def StepDone (B L n : Nat) (w : World) (en : Ending) (w' : World) : Prop := en = .returned (.bool true) ∧ (∃ v' ps', LawOk w' B L v' ps' ∧ ps'.length ≤ n + 1) ∧ Below B w w'

abbrev opV (k c : Int) (y z : Value) (K S : List UInt8) : Value := .agg #[.int .i64 k, .int .i64 c, y, z, .string ⟨K.toArray⟩, .string ⟨S.toArray⟩]

theorem LawOk.below {w w' : World} {B L : Nat} {v : Value} {ps : List Pr} (h : LawOk w B L v ps) (hb : Below w.heap.size w w') : LawOk w' B L v ps :=
  h.turned (Turned.ofBelow (Z := fun _ => False) hb) (fun h => h) (fun _ _ h => h) (fun _ _ _ _ _ h => h)

set_option maxHeartbeats 1000000 in
set_option maxRecDepth 1000000 in
theorem step_tokens (c : Int) (y z : Value) (K S : List UInt8) (w : World) (B L : Nat) (v : Value) (ps : List Pr) (h : LawOk w B L v ps) (hBw : B ≤ w.heap.size) (hS : S.length ≤ maxLen) :
    Calls Tryz.prog 37 #[.pointer (some ⟨L, 0, none⟩), opV 1 c y z K S] w (StepDone B L ps.length w) := by
  have CT : Hid (Calls Tryz.prog 14 #[opV 1 c y z K S] (w.alloc (.cells #[.int .i64 1, .int .i64 c, y, z, .string ⟨K.toArray⟩, .string ⟨S.toArray⟩] 24)) fun e w' => e = .returned (.bool true) ∧ Below (w.alloc (.cells #[.int .i64 1, .int .i64 c, y, z, .string ⟨K.toArray⟩, .string ⟨S.toArray⟩] 24)).heap.size (w.alloc (.cells #[.int .i64 1, .int .i64 c, y, z, .string ⟨K.toArray⟩, .string ⟨S.toArray⟩] 24)) w') := texts_any _ y z ⟨K.toArray⟩ ⟨S.toArray⟩ _ (by show S.toArray.size ≤ maxLen; simpa using hS)
  have H : Hid (LawOk w B L v ps) := h
  clear h
  go_enter Tryz.func37, Tryz.ntmps37
  go_wp2_with (go_at_call 14; refine CT.out.mono ?_; rintro en w2 ⟨rfl, hb2⟩)
  go_ret
  have hb : Below w.heap.size w w2 := ((Below.refl _ w).alloc (Nat.le_refl _) _).trans (hb2.mono (by simp))
  exact ⟨rfl, ⟨v, ps, H.out.below hb, by omega⟩, hb.mono hBw⟩

set_option maxHeartbeats 1000000 in
set_option maxRecDepth 1000000 in
theorem step_new (c : Int) (y z : Value) (K S : List UInt8) (w : World) (B L : Nat) (v : Value) (ps : List Pr) (h : LawOk w B L v ps) (hBw : B ≤ w.heap.size) (hl : (ps.length + 1) * 16 ≤ 140737488355328) :
    Calls Tryz.prog 37 #[.pointer (some ⟨L, 0, none⟩), opV 2 c y z K S] w (StepDone B L ps.length w) := by
  have hb : Below w.heap.size w (w.alloc (.cells #[.int .i64 2, .int .i64 c, y, z, .string ⟨K.toArray⟩, .string ⟨S.toArray⟩] 24)) := (Below.refl _ w).alloc (Nat.le_refl _) _
  have CM : Hid (Calls Tryz.prog 36 #[.pointer (some ⟨L, 0, none⟩)] (w.alloc (.cells #[.int .i64 2, .int .i64 c, y, z, .string ⟨K.toArray⟩, .string ⟨S.toArray⟩] 24)) fun en w' => en = .returned (.bool true) ∧ (∃ v' ps', LawOk w' B L v' ps' ∧ ps'.length = ps.length + 1) ∧ Below B (w.alloc (.cells #[.int .i64 2, .int .i64 c, y, z, .string ⟨K.toArray⟩, .string ⟨S.toArray⟩] 24)) w') := made_any _ B L v ps (h.below hb) (by simp; omega) hl
  clear h
  go_enter Tryz.func37, Tryz.ntmps37
  go_wp2_with (go_at_call 36; refine CM.out.mono ?_; rintro en w2 ⟨rfl, hL2, hb2⟩)
  go_ret
  obtain ⟨v', ps', h1, h2⟩ := hL2
  exact ⟨rfl, ⟨v', ps', h1, by omega⟩, (hb.mono hBw).trans hb2⟩

set_option maxHeartbeats 1000000 in
set_option maxRecDepth 1000000 in
theorem step_none (k c : Int) (y z : Value) (K S : List UInt8) (w : World) (B L : Nat) (v : Value) (ps : List Pr) (h : LawOk w B L v ps) (hBw : B ≤ w.heap.size) (hk5 : k ≤ 5) (hk1 : k ≠ 1) (hk2 : k ≠ 2) (hn : ps.length = 0 ∨ k < 2) :
    Calls Tryz.prog 37 #[.pointer (some ⟨L, 0, none⟩), opV k c y z K S] w (StepDone B L ps.length w) := by
  have hb : Below w.heap.size w (w.alloc (.cells #[.int .i64 k, .int .i64 c, y, z, .string ⟨K.toArray⟩, .string ⟨S.toArray⟩] 24)) := (Below.refl _ w).alloc (Nat.le_refl _) _
  obtain ⟨gv, capv, aov, rfl, _, _⟩ := ownsRow_shape h.own
  have c0 : (w.alloc (.cells #[.int .i64 k, .int .i64 c, y, z, .string ⟨K.toArray⟩, .string ⟨S.toArray⟩] 24)).cell? ⟨L, 0, none⟩ = some (.slice aov ps.length capv) := by
    rw [cell_of_row _ _ _ _ _ _ (h.below hb).cell]; rfl
  have H : Hid (LawOk (w.alloc (.cells #[.int .i64 k, .int .i64 c, y, z, .string ⟨K.toArray⟩, .string ⟨S.toArray⟩] 24)) B L (.slice aov ps.length capv) ps) := h.below hb
  have b1 : (k == 1) = false := beq_eq_false_iff_ne.2 hk1
  have b2 : (k == 2) = false := beq_eq_false_iff_ne.2 hk2
  have b6 : (k == 6) = false := beq_eq_false_iff_ne.2 (by omega)
  clear h hk1 hk2
  by_cases hl : ps.length = 0
  · have hl0 := slice_eq_zero hl
    clear hn
    go_enter Tryz.func37, Tryz.ntmps37
    go_wp2
    go_ret
    exact ⟨rfl, ⟨_, ps, H.out, by omega⟩, hb.mono hBw⟩
  · have hl0 := slice_ne_zero hl
    have hk : k < 2 := hn.resolve_left hl
    go_enter Tryz.func37, Tryz.ntmps37
    go_wp2
    go_ret
    exact ⟨rfl, ⟨_, ps, H.out, by omega⟩, hb.mono hBw⟩
end Go.Proofs.YtaacjjhmojecnaaGreatDoor
