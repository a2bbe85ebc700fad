/- The law's world of pairs of engines, and the walks of made and pick. -/
import Derived.Test.YtaacjjhmojecnaaGreatDoorCalls
import Derived.Test.YtaacjjhmojecnaaGreatDoorTexts
namespace Go.Proofs.YtaacjjhmojecnaaGreatDoor
open Go.RowKit Go.ScT Go.Proofs Go.Shelf

/-- An engine of the program's and one of the document's that hold the same. -/
structure Pr where
  x : Nat
  y : Nat
  ds : Docs
  zx : Nat → Prop
  zy : Nat → Prop
def Pr.z (p : Pr) (b : Nat) : Prop := p.zx b ∨ p.zy b

structure PairOk (w : World) (B : Nat) (p : Pr) : Prop where
  eng : EngOk w p.zx p.x p.ds
  ref : ∃ v1 v2 v3 v4 xs ws, RefOk w p.zy p.y p.ds v1 v2 v3 v4 xs ws
  len : p.ds.length ≤ 100
  apart : ∀ b, p.zx b → ¬ p.zy b
  lt : ∀ b, p.z b → B ≤ b ∧ b < w.heap.size

theorem PairOk.turned {w w' : World} {B : Nat} {p : Pr} {Z : Nat → Prop} (h : PairOk w B p) (ht : Turned Z w w') (hz : ∀ b, p.z b → ¬ Z b) : PairOk w' B p := by
  refine ⟨h.eng.turned ht (fun g hg => hz g (Or.inl hg)), ?_, h.len, h.apart, fun b hb => ⟨(h.lt b hb).1, Nat.lt_of_lt_of_le (h.lt b hb).2 ht.size⟩⟩
  obtain ⟨v1, v2, v3, v4, xs, ws, hr⟩ := h.ref
  exact ⟨v1, v2, v3, v4, xs, ws, hr.turned ht (fun g hg => hz g (Or.inr hg))⟩

def pairCells (ps : List Pr) : List Value := ps.flatMap fun p => [.pointer (some ⟨p.x, 0, none⟩), .pointer (some ⟨p.y, 0, none⟩)]
theorem pairCells_snoc (ps : List Pr) (p : Pr) : pairCells (ps ++ [p]) = pairCells ps ++ [.pointer (some ⟨p.x, 0, none⟩), .pointer (some ⟨p.y, 0, none⟩)] := by simp [pairCells]
theorem pairCells_at : ∀ (ps : List Pr) (i : Nat) (p : Pr), ps[i]? = some p → (pairCells ps)[i * 2]? = some (.pointer (some ⟨p.x, 0, none⟩)) ∧ (pairCells ps)[i * 2 + 1]? = some (.pointer (some ⟨p.y, 0, none⟩))
  | [], i, p, h => by simp at h
  | q :: r, 0, p, h => by
    simp at h
    subst h
    simp [pairCells]
  | q :: r, i + 1, p, h => by
    have := pairCells_at r i p (by simpa using h)
    have e : pairCells (q :: r) = .pointer (some ⟨q.x, 0, none⟩) :: .pointer (some ⟨q.y, 0, none⟩) :: pairCells r := by simp [pairCells]
    rw [e, show (i + 1) * 2 = i * 2 + 1 + 1 by omega]
    simpa using this

/-- The law's world, in block L: all pairs of engines. Nothing of it lies below B. -/
structure LawOk (w : World) (B L : Nat) (v : Value) (ps : List Pr) : Prop where
  cell : w.heap[L]? = some (.cells #[v] 61 (0, 0))
  lB : B ≤ L
  own : w.ownsRow B 108 2 v ps.length (pairCells ps)
  each : ∀ (i : Nat) (p : Pr), ps[i]? = some p → PairOk w B p
  apart : ∀ (i j : Nat) (p q : Pr), ps[i]? = some p → ps[j]? = some q → i ≠ j → ∀ b, p.z b → ¬ q.z b
  zL : ∀ (i : Nat) (p : Pr), ps[i]? = some p → ¬ p.z L
  zv : ∀ (i : Nat) (p : Pr) (g : Nat), ps[i]? = some p → v.ownBlock = some g → ¬ p.z g

theorem LawOk.turned {w w' : World} {B L : Nat} {v : Value} {ps : List Pr} {Z : Nat → Prop} (h : LawOk w B L v ps) (ht : Turned Z w w') (hL : ¬ Z L) (hv : ∀ g, v.ownBlock = some g → ¬ Z g) (hz : ∀ (i : Nat) (p : Pr), ps[i]? = some p → ∀ b, p.z b → ¬ Z b) : LawOk w' B L v ps :=
  ⟨(ht.block L (lt_of_block h.cell) hL).trans h.cell, h.lB, ownsRow_turned h.own ht hv, fun i p hp => (h.each i p hp).turned ht (hz i p hp), h.apart, h.zL, h.zv⟩

theorem info67 : (Tryz.prog.info? 108).map (fun i => (i.zero, i.size, i.bytes)) = some (some (.agg #[.pointer none, .pointer none]), 2, 16) := by kernel_rfl

theorem snoc_at (ps : List Pr) (p : Pr) (i : Nat) (q : Pr) : (ps ++ [p])[i]? = some q ↔ ps[i]? = some q ∨ (i = ps.length ∧ q = p) := by
  rw [List.getElem?_append]
  split
  · rename_i hl
    exact ⟨Or.inl, fun h => h.elim id (fun h => by omega)⟩
  · rename_i hl
    rw [List.getElem?_eq_none (l := ps) (by omega)]
    constructor
    · intro h
      have h0 := (List.getElem?_eq_some_iff.1 h).1
      simp at h0
      have : i - ps.length = 0 := by omega
      rw [this] at h
      simp at h
      exact Or.inr ⟨by omega, h.symm⟩
    · rintro (h | ⟨rfl, rfl⟩)
      · cases h
      · simp

/-- What New of the document's lays. -/
theorem ref_new (w : World) : RefOk (w.alloc (.cells #[.slice none 0 0, .slice none 0 0, .slice none 0 0, .slice none 0 0] 193)) (fun b => b = w.heap.size) w.heap.size [] (.slice none 0 0) (.slice none 0 0) (.slice none 0 0) (.slice none 0 0) [] [] :=
  ⟨heap_alloc_new w _, World.ownsRow_nil _ _ _ _, fun i d h => by simp at h, World.ownsRow_nil _ _ _ _, World.ownsRow_nil _ _ _ _, rfl, fun g hg => (by cases hg), fun g hg => (by cases hg), fun g hg => (by cases hg), fun g hg => (by cases hg)⟩

/-- Behind made. -/
theorem made_done {w w1 w3 : World} {B L e' gA cA : Nat} {v : Value} {ps : List Pr} {o : Obj} (h : LawOk w B L v ps) (hBw : B ≤ w.heap.size) (hE : EngOk w1 (fun b => w.heap.size ≤ b ∧ b < w1.heap.size) e' []) (hb1 : Below w.heap.size w w1)
    (hgr : ((w1.alloc (.cells #[.slice none 0 0, .slice none 0 0, .slice none 0 0, .slice none 0 0] 193)).alloc o).grownBy w3 v.ownBlock)
    (hown : w3.ownsRow B 108 2 (.slice (some ⟨gA, 0, none⟩) (ps.length + 1) cA) (ps.length + 1) (pairCells ps ++ [.pointer (some ⟨e', 0, none⟩), .pointer (some ⟨w1.heap.size, 0, none⟩)]))
    (hat : v.ownBlock = some gA ∨ gA = w1.heap.size + 1 + 1) :
    (∃ v' ps', LawOk (w3.setCell ⟨L, 0, none⟩ (.slice (some ⟨gA, 0, none⟩) (ps.length + 1) cA)) B L v' ps' ∧ ps'.length = ps.length + 1) ∧ Below B w (w3.setCell ⟨L, 0, none⟩ (.slice (some ⟨gA, 0, none⟩) (ps.length + 1) cA)) := by
  have hL := lt_of_block h.cell
  have hs1 := hb1.size
  have t2 : Turned (fun _ => False) w1 ((w1.alloc (.cells #[.slice none 0 0, .slice none 0 0, .slice none 0 0, .slice none 0 0] 193)).alloc o) := (Turned.ofAlloc w1 _).trans (Turned.ofAlloc _ o)
  have t3 : Turned (fun b => v.ownBlock = some b) ((w1.alloc (.cells #[.slice none 0 0, .slice none 0 0, .slice none 0 0, .slice none 0 0] 193)).alloc o) w3 := Turned.ofGrown hgr (fun k hk _ => hk)
  have t4 : Turned (fun b => b = L) w3 (w3.setCell ⟨L, 0, none⟩ (.slice (some ⟨gA, 0, none⟩) (ps.length + 1) cA)) := Turned.ofSet w3 _ _ rfl
  have hs3 : w1.heap.size + 2 ≤ w3.heap.size := by have := hgr.size; simp at this; omega
  have vlt : ∀ g, v.ownBlock = some g → g < w.heap.size := fun g hg => by
    obtain ⟨cu, bq⟩ := ownsRow_block h.own hg
    exact lt_of_block bq
  have vge : ∀ g, v.ownBlock = some g → B ≤ g := fun g hg => ownsRow_base h.own hg
  have vL : v.ownBlock ≠ some L := fun hg => by
    obtain ⟨cu, bq⟩ := ownsRow_block h.own hg
    exact tag_ne h.cell bq (by decide) rfl
  have T13 : Turned (fun b => v.ownBlock = some b ∨ b = L) w1 (w3.setCell ⟨L, 0, none⟩ (.slice (some ⟨gA, 0, none⟩) (ps.length + 1) cA)) :=
    ((t2.mono (fun _ _ hf => hf.elim)).trans (t3.mono (fun _ _ hb => Or.inl hb))).trans (t4.mono (fun _ _ hb => Or.inr hb))
  have T : Turned (fun b => v.ownBlock = some b ∨ b = L) w (w3.setCell ⟨L, 0, none⟩ (.slice (some ⟨gA, 0, none⟩) (ps.length + 1) cA)) := (Turned.ofBelow hb1).trans T13
  have E3 : w3.heap[L]? = some (.cells #[v] 61 (0, 0)) := by
    rw [t3.block L (by simp; omega) vL, t2.block L (by omega) (fun h => h), hb1.block L hL]
    exact h.cell
  have gAL : gA ≠ L := fun e => by
    rcases hat with hg | hg
    · exact vL (e ▸ hg)
    · omega
  have hsf : (w3.setCell ⟨L, 0, none⟩ (.slice (some ⟨gA, 0, none⟩) (ps.length + 1) cA)).heap.size = w3.heap.size := by simp [World.setCell]
  refine ⟨⟨_, ps ++ [⟨e', w1.heap.size, [], fun b => w.heap.size ≤ b ∧ b < w1.heap.size, fun b => b = w1.heap.size⟩], ⟨heap_setCell_same w3 L 0 #[v] 61 _ E3, h.lB, ?_, ?_, ?_, ?_, ?_⟩, by simp⟩, ?_⟩
  · have := ownsRow_turned hown t4 (fun g hg e => gAL (by simp [Value.ownBlock] at hg; rw [hg]; exact e))
    rw [pairCells_snoc]
    simpa using this
  · intro i p hp
    rcases (snoc_at _ _ _ _).1 hp with hp | ⟨_, rfl⟩
    · refine (h.each i p hp).turned T ?_
      rintro b hb (hg | hg)
      · exact h.zv i p b hp hg hb
      · exact h.zL i p hp (hg ▸ hb)
    · refine ⟨hE.turned T13 ?_, ⟨_, _, _, _, _, _, (ref_new w1).turned (Z' := fun b => v.ownBlock = some b ∨ b = L) ?_ ?_⟩, by simp, ?_, ?_⟩
      · rintro g ⟨hg1, hg2⟩ (hg | hg)
        · have := vlt g hg; omega
        · omega
      · exact (((Turned.ofAlloc _ o).mono (fun _ _ hf => (hf : False).elim)).trans (t3.mono (fun _ _ hb => Or.inl hb))).trans (t4.mono (fun _ _ hb => Or.inr hb))
      · rintro g rfl (hg | hg)
        · have := vlt _ hg; omega
        · omega
      · rintro b ⟨_, hb2⟩ hb3
        have : b = w1.heap.size := hb3
        omega
      · rintro b (⟨hb1', hb2⟩ | hb3)
        · exact ⟨by omega, by omega⟩
        · have : b = w1.heap.size := hb3
          exact ⟨by omega, by omega⟩
  · intro i j p q hp hq hij b hb hb'
    rcases (snoc_at _ _ _ _).1 hp with hp | ⟨ei, rfl⟩ <;> rcases (snoc_at _ _ _ _).1 hq with hq | ⟨ej, rfl⟩
    · exact h.apart i j p q hp hq hij b hb hb'
    · have := ((h.each i p hp).lt b hb).2
      rcases hb' with ⟨h1, h2⟩ | h3
      · omega
      · have : b = w1.heap.size := h3
        omega
    · have := ((h.each j q hq).lt b hb').2
      rcases hb with ⟨h1, h2⟩ | h3
      · omega
      · have : b = w1.heap.size := h3
        omega
    · omega
  · intro i p hp
    rcases (snoc_at _ _ _ _).1 hp with hp | ⟨_, rfl⟩
    · exact h.zL i p hp
    · rintro (⟨h1, h2⟩ | h3)
      · omega
      · have : L = w1.heap.size := h3
        omega
  · intro i p g hp hg hz
    simp [Value.ownBlock] at hg
    subst hg
    rcases (snoc_at _ _ _ _).1 hp with hp | ⟨_, rfl⟩
    · rcases hat with hg | hg
      · exact h.zv i p _ hp hg hz
      · have := ((h.each i p hp).lt _ hz).2
        omega
    · rcases hat with hg | hg
      · have := vlt _ hg
        rcases hz with ⟨h1, h2⟩ | h3
        · omega
        · have : gA = w1.heap.size := h3
          omega
      · rcases hz with ⟨h1, h2⟩ | h3
        · omega
        · have : gA = w1.heap.size := h3
          omega
  · have hlB := h.lB
    exact ⟨T.os, T.tape, T.output, T.size, fun b hb => T.block b (by omega) (by
      rintro (hg | hg)
      · have := vge b hg; omega
      · omega)⟩
end Go.Proofs.YtaacjjhmojecnaaGreatDoor
