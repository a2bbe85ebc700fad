/- Texts joined: RefDocs, RefTok0. -/
import Derived.Test.YtaacjjhmojecnaaGreatDoorRefA
import Derived.Test.YtaacjjhmojecnaaGreatDoorRefPush
namespace Go.Proofs.YtaacjjhmojecnaaGreatDoor
open Go.RowKit Go.ScT Go.Proofs

def docCells : List DocR → List Value → List Value
  | d :: l, t :: tv => .string ⟨d.1.toArray⟩ :: natV d.2.1 :: t :: docCells l tv
  | _, _ => []
structure DocsAt (w : World) (base : Nat) (v : Value) (l : List DocR) (tv : List Value) : Prop where
  row : w.ownsRow base 185 3 v l.length (docCells l tv)
  len : tv.length = l.length
  toks : ∀ (i : Nat) (d : DocR) (t : Value), l[i]? = some d → tv[i]? = some t → w.ownsRow base 9 1 t d.2.2.length (d.2.2.map strV)
  apart : ∀ (i j : Nat) (a b : Value) (g : Nat), tv[i]? = some a → tv[j]? = some b → a.ownBlock = some g → b.ownBlock = some g → i = j

theorem docCells_len : ∀ (l : List DocR) (tv : List Value), tv.length = l.length → (docCells l tv).length = l.length * 3
  | [], [], _ => rfl
  | d :: l, t :: tv, h => by
    simp only [docCells, List.length_cons, docCells_len l tv (by simpa using h)]
    omega
  | [], _ :: _, h => by simp at h
  | _ :: _, [], h => by simp at h
theorem docCells_get : ∀ {l : List DocR} {tv : List Value} {i : Nat} {d : DocR} {t : Value}, l[i]? = some d → tv[i]? = some t →
    (docCells l tv)[i * 3]? = some (.string ⟨d.1.toArray⟩) ∧ (docCells l tv)[i * 3 + 1]? = some (natV d.2.1) ∧ (docCells l tv)[i * 3 + 2]? = some t
  | e :: l, u :: tv, 0, d, t, h1, h2 => by
    simp at h1 h2
    subst h1 h2
    simp [docCells]
  | e :: l, u :: tv, i + 1, d, t, h1, h2 => by
    simp only [List.getElem?_cons_succ] at h1 h2
    have := docCells_get h1 h2
    rw [show (i + 1) * 3 = i * 3 + 3 by omega]
    simpa [docCells] using this
  | [], _, i, d, t, h1, _ => by simp at h1
  | _ :: _, [], i, d, t, _, h2 => by simp at h2
theorem docCells_set : ∀ {l : List DocR} {tv : List Value} {i : Nat} {f : List Bs → List Bs} {t' : Value}, i < l.length → tv.length = l.length →
    (docCells l tv).set (i * 3 + 2) t' = docCells (l.modify i fun d => (d.1, d.2.1, f d.2.2)) (tv.set i t')
  | e :: l, u :: tv, 0, f, t', _, _ => by simp [docCells]
  | e :: l, u :: tv, i + 1, f, t', h1, h2 => by
    have := @docCells_set l tv i f t' (by simpa using h1) (by simpa using h2)
    rw [show (i + 1) * 3 + 2 = i * 3 + 2 + 3 by omega]
    simp [docCells, this]
  | [], _, i, f, t', h, _ => by simp at h
  | _ :: _, [], i, f, t', _, h => by simp at h
theorem DocsAt.turned {w w' : World} {Z : Nat → Prop} {base : Nat} {v : Value} {l : List DocR} {tv : List Value} (h : DocsAt w base v l tv) (ht : Turned Z w w') (hz : ∀ g, base ≤ g → ¬ Z g) : DocsAt w' base v l tv :=
  ⟨ownsRow_turned h.row ht fun g hg => hz g (h.row.lt g hg).1, h.len, fun i d t hd htv => ownsRow_turned (h.toks i d t hd htv) ht fun g hg => hz g ((h.toks i d t hd htv).lt g hg).1, h.apart⟩
theorem DocsAt.tok {w : World} {base : Nat} {v : Value} {l : List DocR} {tv : List Value} (h : DocsAt w base v l tv) {i : Nat} {d : DocR} (hd : l[i]? = some d) : ∃ t, tv[i]? = some t := by
  have := (List.getElem?_eq_some_iff.1 hd).1
  exact ⟨tv[i]'(by rw [h.len]; exact this), List.getElem?_eq_getElem _⟩
/-- A document's cells. -/
theorem DocsAt.cells {w : World} {base g n cap : Nat} {l : List DocR} {tv : List Value} (h : DocsAt w base (.slice (some ⟨g, 0, none⟩) n cap) l tv) {i : Nat} {d : DocR} {t : Value} (hd : l[i]? = some d) (ht : tv[i]? = some t) :
    w.cell? ⟨g, i * 3, none⟩ = some (.string ⟨d.1.toArray⟩) ∧ w.cell? ⟨g, i * 3 + 1, none⟩ = some (natV d.2.1) ∧ w.cell? ⟨g, i * 3 + 2, none⟩ = some t ∧ (∀ j, w.frozen? ⟨g, j, none⟩ = false) := by
  have hi := (List.getElem?_eq_some_iff.1 hd).1
  have hn : n = l.length := by
    obtain ⟨_, _, _, e, _, _⟩ := ownsRow_shape h.row
    injection e
  subst hn
  obtain ⟨c0, c1, c2⟩ := docCells_get hd ht
  refine ⟨?_, ?_, ?_, fun j => h.row.frozenAt j⟩
  · rw [h.row.cellAt _ (by omega), c0]
  · rw [h.row.cellAt _ (by omega), c1]
  · rw [h.row.cellAt _ (by omega), c2]
/-- One token more, behind a document's. -/
theorem DocsAt.push {w w3 : World} {base g n cap : Nat} {l : List DocR} {tv : List Value} {o : Obj} (h : DocsAt w base (.slice (some ⟨g, 0, none⟩) n cap) l tv) {i : Nat} {d : DocR} {t t' : Value} {x : Bs} (hd : l[i]? = some d) (ht : tv[i]? = some t)
    (hg : (w.alloc o).grownBy w3 t.ownBlock) (hown : w3.ownsRow base 9 1 t' (d.2.2.length + 1) (d.2.2.map strV ++ [strV x])) (hat : ∀ k, t'.ownBlock = some k → t.ownBlock = some k ∨ w.heap.size ≤ k) :
    DocsAt (w3.setCell ⟨g, i * 3 + 2, none⟩ t') base (.slice (some ⟨g, 0, none⟩) n cap) (addT l i 1 x) (tv.set i t') := by
  have hi := (List.getElem?_eq_some_iff.1 hd).1
  have hil : i < tv.length := by rw [h.len]; exact hi
  have hn : n = l.length := by
    obtain ⟨_, _, _, e, _, _⟩ := ownsRow_shape h.row
    injection e
  subst hn
  have hT : Turned (fun j => t.ownBlock = some j) w w3 := (Turned.ofAlloc w o).trans (Turned.ofGrown hg (fun j hj _ => hj))
  have hgb : ∃ cur, w.heap[g]? = some (.cells cur 185 (0, 0)) := ownsRow_block h.row rfl
  obtain ⟨cur, hgb⟩ := hgb
  have hgl := lt_of_block hgb
  have htg : ¬ (t.ownBlock = some g) := fun e => by
    obtain ⟨c2, hb2⟩ := ownsRow_block (h.toks i d t hd ht) e
    exact tag_ne hgb hb2 (by decide) rfl
  have hrow3 := ownsRow_turned h.row hT (fun k hk e => htg (by injection hk with hk; subst hk; exact e))
  have hst := hrow3.stored (i * 3 + 2) t'
  have hgb3 : w3.heap[g]? = some (.cells cur 185 (0, 0)) := (hT.block g hgl htg).trans hgb
  refine ⟨?_, by simp [addT, h.len], ?_, ?_⟩
  · rw [docCells_set (f := fun ts => ts ++ List.replicate 1 x) hi h.len] at hst
    simpa [addT] using hst.1
  · intro j d' u hd' hu
    rw [addT, List.getElem?_modify] at hd'
    rw [List.getElem?_set] at hu
    by_cases hij : i = j
    · subst hij
      simp only [if_true, hil, Option.some.injEq] at hu
      subst hu
      rw [hd] at hd'
      simp at hd'
      subst hd'
      have := ownsRow_setCell_other (a := ⟨g, i * 3 + 2, none⟩) hown (fun e => by
        obtain ⟨c2, hb2⟩ := ownsRow_block hown e
        exact tag_ne hgb3 hb2 (by decide) rfl) t'
      simpa using this
    · simp only [if_neg hij] at hu hd'
      have hd2 : l[j]? = some d' := by simpa using hd'
      have h0 := h.toks j d' u hd2 hu
      refine ownsRow_setCell_other (ownsRow_turned h0 hT fun k hk e => hij (h.apart i j t u k ht hu e hk)) (fun e => ?_) t'
      obtain ⟨c2, hb2⟩ := ownsRow_block h0 e
      exact tag_ne hgb hb2 (by decide) rfl
  · intro a b u1 u2 k h1 h2 e1 e2
    rw [List.getElem?_set] at h1 h2
    by_cases hia : i = a
    · by_cases hib : i = b
      · omega
      · subst hia
        simp only [if_true, hil, Option.some.injEq, if_neg hib] at h1 h2
        subst h1
        rcases hat k e1 with e | e
        · exact h.apart i b t u2 k ht h2 e e2
        · exfalso
          have hb : b < l.length := by rw [← h.len]; exact (List.getElem?_eq_some_iff.1 h2).1
          have := ((h.toks b l[b] u2 (List.getElem?_eq_getElem hb) h2).lt k e2).2
          omega
    · by_cases hib : i = b
      · subst hib
        simp only [if_true, hil, Option.some.injEq, if_neg hia] at h1 h2
        subst h2
        rcases hat k e2 with e | e
        · exact h.apart a i u1 t k h1 ht e1 e
        · exfalso
          have ha : a < l.length := by rw [← h.len]; exact (List.getElem?_eq_some_iff.1 h1).1
          have := ((h.toks a l[a] u1 (List.getElem?_eq_getElem ha) h1).lt k e1).2
          omega
      · simp only [if_neg hia, if_neg hib] at h1 h2
        exact h.apart a b u1 u2 k h1 h2 e1 e2
theorem DocsAt.pushT {w w3 : World} {base g n cap : Nat} {l : List DocR} {tv : List Value} {o : Obj} (h : DocsAt w base (.slice (some ⟨g, 0, none⟩) n cap) l tv) {i : Nat} {d : DocR} {t : Value} (t' : Value) (hd : l[i]? = some d) (ht : tv[i]? = some t)
    (hg : (w.alloc o).grownBy w3 t.ownBlock) : Turned (fun k => base ≤ k) w (w3.setCell ⟨g, i * 3 + 2, none⟩ t') :=
  ((Turned.ofAlloc w o).trans (Turned.ofGrown hg (fun j hj _ => ((h.toks i d t hd ht).lt j hj).1))).trans (Turned.ofSet _ _ _ (h.row.lt g rfl).1)
end Go.Proofs.YtaacjjhmojecnaaGreatDoor

namespace Go.ScT
theorem rBlks_end {t : Bs} {f left next : Nat} {l : List DocR} {st : RSt} (h : left = 0 ∨ st.2 = true) : rBlks t f left next l st = (l, st) := by
  cases f with
  | zero => rfl
  | succ f => simp only [rBlks, if_pos h]
theorem rBlks_none {t : Bs} {f left next : Nat} {l : List DocR} {st st' : RSt} (h : ¬ (left = 0 ∨ st.2 = true)) (hf : left ≤ f) (hs : rSteps (min 4 left) (rHead st) = (none, st')) : rBlks t f left next l st = (l, st') := by
  cases f with
  | zero => exact absurd (Or.inl (by omega)) h
  | succ f => simp only [rBlks, if_neg h, hs]
theorem rBlks_bad {t : Bs} {f left next : Nat} {l : List DocR} {st st' : RSt} {x : List Nat × List Nat} (h : ¬ (left = 0 ∨ st.2 = true)) (hf : left ≤ f) (hs : rSteps (min 4 left) (rHead st) = (some x, st')) (hb : st'.2 = true) : rBlks t f left next l st = (l, st') := by
  cases f with
  | zero => exact absurd (Or.inl (by omega)) h
  | succ f => simp only [rBlks, if_neg h, hs, if_pos hb]
theorem rBlks_fail {t : Bs} {f left next : Nat} {l : List DocR} {st st' : RSt} {x : List Nat × List Nat} (h : ¬ (left = 0 ∨ st.2 = true)) (hf : left ≤ f) (hs : rSteps (min 4 left) (rHead st) = (some x, st')) (hb : st'.2 = false) (hp : (rPut t x.1 x.2 next l).1 = true) :
    rBlks t f left next l st = ((rPut t x.1 x.2 next l).2.2, (st'.1, true)) := by
  cases f with
  | zero => exact absurd (Or.inl (by omega)) h
  | succ f => simp only [rBlks, if_neg h, hs, hb, Bool.false_eq_true, if_false, if_pos hp]
theorem rBlks_ok' {t : Bs} {f left next : Nat} {l : List DocR} {st st' : RSt} {x : List Nat × List Nat} (h : ¬ (left = 0 ∨ st.2 = true)) (hs : rSteps (min 4 left) (rHead st) = (some x, st')) (hb : st'.2 = false) (hp : (rPut t x.1 x.2 next l).1 = false) :
    rBlks t (f + 1) left next l st = rBlks t f (left - min 4 left) (rPut t x.1 x.2 next l).2.1 (rPut t x.1 x.2 next l).2.2 st' := by
  simp only [rBlks, if_neg h, hs, hb, hp, Bool.false_eq_true, if_false]
theorem rPut_len {t : Bs} : ∀ {ss qq : List Nat} {next : Nat} {l : List DocR}, (rPut t ss qq next l).2.2.length = l.length
  | [], _, _, _ => rfl
  | _ :: _, [], _, _ => rfl
  | s :: ss, q :: qq, next, l => by
    simp only [rPut]
    split
    · rfl
    · rw [rPut_len]; simp [addT]
theorem rPut_step {t : Bs} {ss qq : List Nat} {k next : Nat} {l : List DocR} {s q : Nat} (h1 : ss[k]? = some s) (h2 : qq[k]? = some q) :
    rPut t (ss.drop k) (qq.drop k) next l = if l.length ≤ next + s ∨ 40 ≤ toksL l (next + s) + q then (true, next, l) else rPut t (ss.drop (k + 1)) (qq.drop (k + 1)) (next + s + 1) (addT l (next + s) (q + 1) t) := by
  obtain ⟨hk1, e1⟩ := List.getElem?_eq_some_iff.1 h1
  obtain ⟨hk2, e2⟩ := List.getElem?_eq_some_iff.1 h2
  rw [List.drop_eq_getElem_cons hk1, List.drop_eq_getElem_cons hk2, e1, e2]
  rfl
theorem rPut_end {t : Bs} {ss qq : List Nat} {k next : Nat} {l : List DocR} (h1 : ss.length ≤ k) : rPut t (ss.drop k) (qq.drop k) next l = (false, next, l) := by
  rw [List.drop_eq_nil_of_le h1]
  rfl
theorem rByte_keeps {st : RSt} (h : st.2 = true) : rByte st = (0, (st.1, true)) := by
  obtain ⟨r, b⟩ := st
  simp only at h
  subst h
  unfold rByte; split <;> simp_all
theorem addT_addT (l : List DocR) (i a b : Nat) (t : Bs) : addT (addT l i a t) i b t = addT l i (a + b) t := by
  unfold addT
  rw [List.modify_modify_eq]
  congr 1
  funext d
  simp [List.replicate_append_replicate]
theorem addT_zero (l : List DocR) (i : Nat) (t : Bs) : addT l i 0 t = l := by
  unfold addT
  apply List.ext_getElem?
  intro j
  rw [List.getElem?_modify]
  cases h : l[j]? with
  | none => rfl
  | some d => by_cases e : i = j <;> simp [e]
theorem addT_get {l : List DocR} {i n : Nat} {t : Bs} {d : DocR} (h : l[i]? = some d) : (addT l i n t)[i]? = some (d.1, d.2.1, d.2.2 ++ List.replicate n t) := by
  unfold addT
  rw [List.getElem?_modify, h]
  simp
theorem addT_len (l : List DocR) (i n : Nat) (t : Bs) : (addT l i n t).length = l.length := by simp [addT]
theorem rVar_lt (most : Nat) (st : RSt) : (rVar most st).1 < 2097152 := by
  unfold rVar rFin
  have h1 : ∀ s, (rByte s).1 < 256 := by
    intro s; unfold rByte; split
    · rename_i b t; exact b.toNat_lt
    · simp
  have a := h1 st
  have b := h1 (rByte st).2
  split
  · simp only; omega
  · split
    · simp only; omega
    · simp only; omega
theorem rVar_good {most : Nat} {st : RSt} (h : (rVar most st).2.2 = false) : (rVar most st).1 ≤ most := by
  have : ∀ n s, (rFin most n s).2.2 = false → (rFin most n s).1 ≤ most := by
    intro n s h
    unfold rFin at h ⊢
    simp only [Bool.or_eq_false_iff, decide_eq_false_iff_not] at h
    simp only
    omega
  unfold rVar at h ⊢
  split at h <;> rename_i h1
  · simp only [h1, if_true]; exact this _ _ h
  · simp only [h1, if_false]
    split at h <;> rename_i h2
    · simp only [h2, if_true]; exact this _ _ h
    · simp only [h2, if_false]; exact this _ _ h
theorem rNums_len (w : Nat) : ∀ (k : Nat) (x : RBt), (rNums w k x).1.length = k
  | 0, _ => rfl
  | k + 1, x => by simp [rNums, rNums_len w k]
theorem rBits_len (k w : Nat) (st : RSt) : (rBits k w st).1.length = k := rNums_len w k _
theorem rBit_lt (x : RBt) : (rBit x).1 ≤ 1 := by unfold rBit; simp only; omega
theorem rNum_lt : ∀ (m k n : Nat) (x : RBt), n < 2 ^ k → (rNum k m n x).1 < 2 ^ (k + m)
  | 0, k, n, x, h => h
  | m + 1, k, n, x, h => by
    simp only [rNum]
    have h1 := rBit_lt x
    have h2 : (rBit x).1 * 2 ^ k ≤ 1 * 2 ^ k := Nat.mul_le_mul_right _ h1
    have := rNum_lt m (k + 1) (n + (rBit x).1 * 2 ^ k) (rBit x).2 (by rw [Nat.pow_succ]; omega)
    rw [show k + (m + 1) = k + 1 + m by omega]
    exact this
theorem rNums_lt (w : Nat) (hw : w ≤ 8) : ∀ (k : Nat) (x : RBt), ∀ n ∈ (rNums w k x).1, n < 2097152
  | 0, _, n, h => by simp [rNums] at h
  | k + 1, x, n, h => by
    simp only [rNums, List.mem_cons] at h
    rcases h with rfl | h
    · have h1 := rNum_lt w 0 0 x (by simp)
      have h2 : 2 ^ (0 + w) ≤ 2 ^ 8 := Nat.pow_le_pow_right (by omega) (by omega)
      omega
    · exact rNums_lt w hw k _ n h
theorem rBits_lt (k w : Nat) (hw : w ≤ 8) (st : RSt) : ∀ n ∈ (rBits k w st).1, n < 2097152 := rNums_lt w hw k _
theorem rPairs_len : ∀ (k : Nat) (st : RSt), (rPairs k st).1.1.length = k ∧ (rPairs k st).1.2.length = k
  | 0, _ => ⟨rfl, rfl⟩
  | k + 1, st => by have := rPairs_len k (rVar 40 (rVar 100 st).2).2; simp [rPairs, this]
theorem rPairs_lt : ∀ (k : Nat) (st : RSt), (∀ n ∈ (rPairs k st).1.1, n < 2097152) ∧ (∀ n ∈ (rPairs k st).1.2, n < 2097152)
  | 0, _ => by simp [rPairs]
  | k + 1, st => by
    have ih := rPairs_lt k (rVar 40 (rVar 100 st).2).2
    have h1 := rVar_lt 100 st
    have h2 := rVar_lt 40 (rVar 100 st).2
    constructor
    · intro n hn
      simp only [rPairs, List.mem_cons] at hn
      rcases hn with rfl | hn
      · exact h1
      · exact ih.1 n hn
    · intro n hn
      simp only [rPairs, List.mem_cons] at hn
      rcases hn with rfl | hn
      · exact h2
      · exact ih.2 n hn
end Go.ScT
