/- What the document's reader reads is small. -/
import Derived.Test.YtaacjjhmojecnaaGreatDoorRefD
namespace Go.ScT
theorem rByte_256 (st : RSt) : (rByte st).1 < 256 := by
  unfold rByte; split
  · rename_i b t; exact b.toNat_lt
  · simp
theorem rText_len (st : RSt) : (rText st).1.length ≤ 255 := by
  unfold rText
  have := rByte_256 st
  split
  · simp
  · simp only [List.length_take]; omega
theorem small_addT {l : List DocR} {i n : Nat} {t : Bs} (h : Small l) (hn : toksL l i + n ≤ 40) (ht : t.length ≤ 255) : Small (addT l i n t) := by
  intro d hd
  obtain ⟨j, hj⟩ := List.mem_iff_getElem?.1 hd
  rw [addT, List.getElem?_modify] at hj
  by_cases hij : i = j
  · subst hij
    cases he : l[i]? with
    | none => rw [he] at hj; simp at hj
    | some e =>
      rw [he] at hj
      simp at hj
      subst hj
      obtain ⟨h1, h2, h3, h4⟩ := h e (List.mem_of_getElem? he)
      have htl : toksL l i = e.2.2.length := by simp [toksL, he]
      refine ⟨h1, h2, by simp; omega, ?_⟩
      intro x hx
      simp only [List.mem_append, List.mem_replicate] at hx
      rcases hx with hx | ⟨_, rfl⟩
      · exact h4 x hx
      · exact ht
  · simp only [if_neg hij] at hj
    exact h d (List.mem_of_getElem? (by simpa using hj))
theorem small_rPut {t : Bs} (ht : t.length ≤ 255) : ∀ {ss qq : List Nat} {next : Nat} {l : List DocR}, Small l → Small (rPut t ss qq next l).2.2
  | [], _, _, _, h => h
  | _ :: _, [], _, _, h => h
  | s :: ss, q :: qq, next, l, h => by
    simp only [rPut]
    split
    · exact h
    · rename_i hc
      have hq : ¬ 40 ≤ toksL l (next + s) + q := fun e => hc (Or.inr e)
      exact small_rPut ht (small_addT h (by omega) ht)
theorem small_rBlks {t : Bs} (ht : t.length ≤ 255) : ∀ {f left next : Nat} {l : List DocR} {st : RSt}, Small l → Small (rBlks t f left next l st).1
  | 0, _, _, _, _, h => h
  | f + 1, left, next, l, st, h => by
    simp only [rBlks]
    split
    · exact h
    · split
      · exact h
      · split
        · exact h
        · split
          · exact small_rPut ht h
          · exact small_rBlks ht (small_rPut ht h)
theorem small_rTok {l : List DocR} {st : RSt} (h : Small l) : Small (rTok l st).1 := small_rBlks (rText_len st) h
theorem small_rLists : ∀ {k : Nat} {l : List DocR} {st : RSt}, Small l → Small (rLists k l st).1
  | 0, _, _, h => h
  | k + 1, l, st, h => by
    simp only [rLists]
    split
    · exact h
    · exact small_rLists (small_rTok h)
theorem small_rDocs : ∀ {k num : Nat} {st : RSt}, num + 2097152 * k ≤ 1000000000 → Small (rDocs k num st).1
  | 0, _, _, _ => by intro d hd; simp [rDocs] at hd
  | k + 1, num, st, h => by
    simp only [rDocs]
    split
    · intro d hd; simp at hd
    · have hv := rVar_lt 100 st
      intro d hd
      rcases List.mem_cons.1 hd with rfl | hd
      · exact ⟨rText_len _, by simp only; omega, by simp, by simp⟩
      · exact small_rDocs (by omega) d hd
/-- What is read is small. -/
theorem small_rRead {s : Bs} {l : List DocR} (h : rRead s = some l) : Small l := by
  unfold rRead at h
  split at h
  · cases h
  · split at h
    · cases h
    · simp only at h
      split at h
      · cases h
      · simp only [Option.some.injEq] at h
        subst h
        refine small_rLists ?_
        cases hb : (rVar 100 (rByte (rByte (s, false)).2).2).2.2 with
        | true => rw [rDocs_bad hb]; intro d hd; simp at hd
        | false => exact small_rDocs (by have := rVar_good hb; omega)

end Go.ScT
