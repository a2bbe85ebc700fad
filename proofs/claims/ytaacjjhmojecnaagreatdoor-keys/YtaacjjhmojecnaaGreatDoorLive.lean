/- The live map's datum and the list of documents. -/
import Derived.Test.YtaacjjhmojecnaaGreatDoorBufAdd
import Derived.Test.YtaacjjhmojecnaaGreatDoorRefAddAll
namespace Go.Proofs.YtaacjjhmojecnaaGreatDoor
open Go.RowKit Go.ScT Go.Proofs Go.Shelf

abbrev Docs := List (List UInt8 × Bool)
/-- No two live documents have one key. -/
def UniqK (ds : Docs) : Prop := ∀ (i j : Nat) (d d' : List UInt8 × Bool), ds[i]? = some d → ds[j]? = some d' → d.2 = true → d'.2 = true → d.1 = d'.1 → i = j

theorem findK_iff : ∀ (ds : Docs) (key : List UInt8), (findK ds key).isSome = true ↔ ∃ (j : Nat) (d : List UInt8 × Bool), ds[j]? = some d ∧ d.2 = true ∧ d.1 = key
  | [], key => by simp [findK]
  | d :: r, key => by
    simp only [findK]
    split
    · rename_i h
      simp only [Option.isSome_some, true_iff]
      simp at h
      exact ⟨0, d, rfl, h.1, h.2⟩
    · rename_i h
      rw [Option.isSome_map, findK_iff r key]
      constructor
      · rintro ⟨j, d', h1, h2, h3⟩
        exact ⟨j + 1, d', by simpa using h1, h2, h3⟩
      · rintro ⟨j, d', h1, h2, h3⟩
        cases j with
        | zero =>
          simp at h1
          subst h1
          simp [h2, h3] at h
        | succ j => exact ⟨j, d', by simpa using h1, h2, h3⟩
theorem findK_at : ∀ (ds : Docs) (key : List UInt8) (i : Nat), findK ds key = some i → ∃ d, ds[i]? = some d ∧ d.2 = true ∧ d.1 = key
  | [], key, i, h => by simp [findK] at h
  | d :: r, key, i, h => by
    simp only [findK] at h
    split at h
    · rename_i h'
      simp at h'
      cases h
      exact ⟨d, rfl, h'.1, h'.2⟩
    · obtain ⟨j, hj, rfl⟩ := Option.map_eq_some_iff.1 h
      obtain ⟨d', h1, h2, h3⟩ := findK_at r key j hj
      exact ⟨d', by simpa using h1, h2, h3⟩
theorem killAt_get (ds : Docs) (i j : Nat) (d : List UInt8 × Bool) : (killAt ds i)[j]? = some d ↔ ∃ d', ds[j]? = some d' ∧ d = if i = j then (d'.1, false) else d' := by
  unfold killAt
  rw [List.getElem?_modify]
  cases ds[j]? with
  | none => simp
  | some d' => by_cases h : i = j <;> simp [h, eq_comm]
theorem liveN_kill : ∀ (ds : Docs) (i : Nat) (d : List UInt8 × Bool), ds[i]? = some d → d.2 = true → liveN (killAt ds i) + 1 = liveN ds
  | [], i, d, h, _ => by simp at h
  | x :: r, 0, d, h, h2 => by
    simp at h
    subst h
    simp [killAt, liveN, h2]
  | x :: r, i + 1, d, h, h2 => by
    have := liveN_kill r i d (by simpa using h) h2
    simp only [killAt, liveN, List.modify_succ_cons, List.countP_cons] at this ⊢
    omega
theorem killAt_len (ds : Docs) (i : Nat) : (killAt ds i).length = ds.length := by simp [killAt]
theorem killK_len (ds : Docs) (key : List UInt8) : (killK ds key).length = ds.length := by
  unfold killK
  split
  · exact killAt_len _ _
  · rfl

/-- The live map's datum reads as the live documents' keys. -/
structure LiveRel (DL : DataW Unit) (ds : Docs) : Prop where
  uniq : UniqK ds
  has : ∀ key, Maps.has DL (.string key) = (findK ds key).isSome
  size : Maps.size DL = liveN ds

theorem LiveRel.start : LiveRel (.map []) [] := ⟨fun i j d d' h => by simp at h, fun key => rfl, rfl⟩

theorem LiveRel.kill {DL : DataW Unit} {ds : Docs} (h : LiveRel DL ds) (ht : Maps.Tidy DL) (key : List UInt8) (i : Nat) (hi : findK ds key = some i) : LiveRel (DL.del (.string key)) (killAt ds i) := by
  obtain ⟨d0, e1, e2, e3⟩ := findK_at ds key i hi
  have hhas : Maps.has DL (.string key) = true := by rw [h.has, hi]; rfl
  refine ⟨fun a b d d' ha hb hd hd' hk => ?_, fun key' => ?_, ?_⟩
  · obtain ⟨x, hx, rfl⟩ := (killAt_get ds i a d).1 ha
    obtain ⟨y, hy, rfl⟩ := (killAt_get ds i b d').1 hb
    by_cases ea : i = a
    · simp [ea] at hd
    · by_cases eb : i = b
      · simp [eb] at hd'
      · simp only [ea, eb, if_false] at hd hd' hk
        exact h.uniq a b x y hx hy hd hd' hk
  · by_cases hk : key' = key
    · subst hk
      rw [Maps.has_del_same]
      cases hf : (findK (killAt ds i) key').isSome with
      | false => rfl
      | true =>
        exfalso
        obtain ⟨j, d, hj, hd, hdk⟩ := (findK_iff _ _).1 hf
        obtain ⟨x, hx, rfl⟩ := (killAt_get ds i j d).1 hj
        by_cases e : i = j
        · simp [e] at hd
        · simp only [e, if_false] at hd hdk
          exact e (h.uniq i j d0 x e1 hx e2 hd (e3.trans hdk.symm))
    · rw [Maps.has_del_other (fun e => hk (by cases e; rfl)), h.has, Bool.eq_iff_iff, findK_iff, findK_iff]
      constructor
      · rintro ⟨j, d, hj, hd, hdk⟩
        have e : i ≠ j := fun e => by
          subst e
          rw [e1] at hj
          cases hj
          exact hk (hdk.symm.trans e3)
        exact ⟨j, d, (killAt_get ds i j d).2 ⟨d, hj, by simp [e]⟩, hd, hdk⟩
      · rintro ⟨j, d, hj, hd, hdk⟩
        obtain ⟨x, hx, rfl⟩ := (killAt_get ds i j d).1 hj
        by_cases e : i = j
        · simp [e] at hd
        · simp only [e, if_false] at hd hdk
          exact ⟨j, x, hx, hd, hdk⟩
  · have h1 := Maps.size_del (k := .string key) ht
    rw [hhas, h.size] at h1
    have h2 := liveN_kill ds i d0 e1 e2
    simp at h1
    omega

theorem LiveRel.push {DL : DataW Unit} {ds : Docs} (h : LiveRel DL ds) (ht : Maps.Tidy DL) (key : List UInt8) (hn : findK ds key = none) (d : DataW Unit) (hkl : WideAt.IsKeyLit (.string key)) : LiveRel (DL.put (.string key) d) (ds ++ [(key, true)]) := by
  have hhas : Maps.has DL (.string key) = false := by rw [h.has, hn]; rfl
  have hnone : ∀ (j : Nat) (x : List UInt8 × Bool), ds[j]? = some x → x.2 = true → x.1 ≠ key := fun j x hj hx hk => by
    have := (findK_iff ds key).2 ⟨j, x, hj, hx, hk⟩
    rw [hn] at this
    cases this
  have app : ∀ (j : Nat) (x : List UInt8 × Bool), (ds ++ [(key, true)])[j]? = some x ↔ ds[j]? = some x ∨ (j = ds.length ∧ x = (key, true)) := by
    intro j x
    rw [List.getElem?_append]
    split
    · rename_i hl
      exact ⟨Or.inl, fun h => h.elim id (fun h => by omega)⟩
    · rename_i hl
      rw [List.getElem?_eq_none (l := ds) (by omega)]
      constructor
      · intro h
        have h0 := (List.getElem?_eq_some_iff.1 h).1
        simp at h0
        have : j - ds.length = 0 := by omega
        rw [this] at h
        simp at h
        exact Or.inr ⟨by omega, h.symm⟩
      · rintro (h | ⟨rfl, rfl⟩)
        · cases h
        · simp
  refine ⟨fun a b x y ha hb hx hy hk => ?_, fun key' => ?_, ?_⟩
  · rcases (app a x).1 ha with ha | ⟨ea, exa⟩ <;> rcases (app b y).1 hb with hb | ⟨eb, exb⟩
    · exact h.uniq a b x y ha hb hx hy hk
    · subst exb
      exact absurd hk (hnone a x ha hx)
    · subst exa
      exact absurd hk.symm (hnone b y hb hy)
    · omega
  · by_cases hk : key' = key
    · subst hk
      rw [Maps.has_put_same ht.isMap hkl, eq_comm, findK_iff]
      exact ⟨ds.length, (key', true), (app _ _).2 (Or.inr ⟨rfl, rfl⟩), rfl, rfl⟩
    · rw [Maps.has_put_other (fun e => hk (by cases e; rfl)), h.has, Bool.eq_iff_iff, findK_iff, findK_iff]
      constructor
      · rintro ⟨j, x, hj, hx, hxk⟩
        exact ⟨j, x, (app j x).2 (Or.inl hj), hx, hxk⟩
      · rintro ⟨j, x, hj, hx, hxk⟩
        rcases (app j x).1 hj with hj | ⟨_, rfl⟩
        · exact ⟨j, x, hj, hx, hxk⟩
        · exact absurd hxk.symm hk
  · rw [Maps.size_put ht, hhas, h.size]
    simp [liveN, List.countP_append]

theorem findK_kill {ds : Docs} (hu : UniqK ds) (key : List UInt8) : findK (killK ds key) key = none := by
  cases hf : findK ds key with
  | none => simp [killK, hf]
  | some i =>
    have hk : killK ds key = killAt ds i := by simp [killK, hf]
    rw [hk]
    obtain ⟨d0, e1, e2, e3⟩ := findK_at ds key i hf
    cases hg : findK (killAt ds i) key with
    | none => rfl
    | some j =>
      exfalso
      obtain ⟨d, hj, hd, hdk⟩ := findK_at _ _ _ hg
      obtain ⟨x, hx, rfl⟩ := (killAt_get ds i j d).1 hj
      by_cases e : i = j
      · simp [e] at hd
      · simp only [e, if_false] at hd hdk
        exact e (hu i j d0 x e1 hx e2 hd (e3.trans hdk.symm))
end Go.Proofs.YtaacjjhmojecnaaGreatDoor
