/- The walk of tokens.Split, and of scout.Tokens: the tokens of a text. -/
import Derived.Test.YtaacjjhmojecnaaGreatDoorRun
namespace Go.Proofs.YtaacjjhmojecnaaGreatDoor
open Go.RowKit Go.ScT Go.Proofs Go.Shelf

theorem grownB {w w' : World} (h : Below w.heap.size w w') (row : Option Nat) : w.grownBy w' row := ⟨h.os, h.tape, h.output, h.size, fun k hk _ => h.block k hk⟩
theorem drop_atB {α : Type} {l : List α} {k : Nat} {x : α} (h : l[k]? = some x) : l.drop k = x :: l.drop (k + 1) := by
  obtain ⟨h1, h2⟩ := List.getElem?_eq_some_iff.1 h
  rw [List.drop_eq_getElem_cons h1, h2]
theorem ownsRow_leB {w : World} {base base' size n : Nat} {e : TypeId} {v : Value} {xs : List Value} (h : w.ownsRow base e size v n xs) (hb : base' ≤ base) : w.ownsRow base' e size v n xs := by
  refine ⟨h.1, ?_⟩
  rcases h.2 with h0 | ⟨g, cap, cur, h1, h2, h3⟩
  · exact Or.inl h0
  · exact Or.inr ⟨g, cap, cur, h1, by omega, h3⟩

def strV (t : List UInt8) : Value := .string ⟨t.toArray⟩

theorem spans_len (p : Nat → Bool) (s : ByteArray) : ∀ (f pos : Nat) (st : Option Nat) (acc : List (Nat × Nat)), (Lib.spansFromP p s f pos st acc).1.length ≤ acc.length + f
  | 0, _, _, _ => by simp [Lib.spansFromP]
  | f + 1, pos, st, acc => by
    have ih := spans_len p s f (pos + (Utf8.decode s pos).2)
    simp only [Lib.spansFromP]
    split
    · split
      · cases st with
        | none => have := ih none acc; simp only; omega
        | some a => have := ih none (acc ++ [(a, pos)]); simp only [List.length_append, List.length_cons, List.length_nil] at this; simp only; omega
      · cases st with
        | none => have := ih (some pos) acc; simp only; omega
        | some a => have := ih (some a) acc; simp only; omega
    · simp
theorem fields_len (p : Nat → Bool) (s : ByteArray) : (Lib.goFieldsP p s).length ≤ s.size + 1 := by
  have h := spans_len p s s.size 0 none []
  unfold Lib.goFieldsP Lib.spansOfP Lib.closeSpans
  rw [List.length_map]
  split <;> simp at h ⊢ <;> omega

theorem noLet_pays (w : World) : PredAtRunes Tryz.prog 95 #[] noLetR w := fun W x _ _ => by
  unfold FnGives
  exact (isNoLetter_any x W).mono fun e w' ⟨he, hw⟩ => ⟨he, 0, hw⟩

def tokF (fs : List ByteArray) : List (List UInt8) := (fs.map fun x => fromRun x.data.toList).filter fun t => !comB t

theorem tokF_no (F : ByteArray) (r : List ByteArray) (h : comB (fromRun F.data.toList) = true) : tokF (F :: r) = tokF r := by simp [tokF, h]
theorem tokF_yes (F : ByteArray) (r : List ByteArray) (h : comB (fromRun F.data.toList) = false) : tokF (F :: r) = fromRun F.data.toList :: tokF r := by simp [tokF, h]

set_option maxHeartbeats 1000000 in
set_option maxRecDepth 1000000 in
theorem split_any (s : ByteArray) (w : World) (hs : s.size ≤ 1000000) :
    Calls Tryz.prog 54 #[.string s] w fun e w' => ∃ v, e = .returned v ∧ w'.ownsRow w.heap.size 9 1 v (toks s.data.toList).length ((toks s.data.toList).map strV) ∧ Below w.heap.size w w' := by
  have cF : Calls Tryz.prog 94 #[.string s, .func (.func 95) #[] #[]] w _ := Tryz.strings_FieldsFunc_runes 95 #[] (enters_of Tryz.func95 (by kernel_rfl) rfl) noLetR s w (by omega) (noLet_pays w)
  have hN := fields_len noLetR s
  have HT : Hid (tokF (Lib.goFieldsP noLetR s) = toks s.data.toList) := fields_toks s
  obtain ⟨T, hTe⟩ : ∃ T, toks s.data.toList = T := ⟨_, rfl⟩
  rw [hTe] at HT ⊢
  clear hTe
  generalize Lib.goFieldsP noLetR s = FS at cF hN HT
  have hi9 : (Tryz.prog.info? 9).map (fun i => (i.zero, i.size, i.bytes)) = some (some (.string ⟨#[]⟩), 1, 16) := by kernel_rfl
  obtain ⟨i0, hi, hz0, hz1, hz2⟩ := info_parts hi9
  clear hi9
  go_enter Tryz.func54, Tryz.ntmps54
  go_wp2_with (go_at_call 94; refine cF.mono ?_; rintro e w1 ⟨A, rfl, hA, hown, hb⟩)
  have hAlt : A < w1.heap.size := (hown.lt A rfl).2
  have HC : Hid (∀ (j : Nat) (F : ByteArray), FS[j]? = some F → w1.cell? ⟨A, j, none⟩ = some (.string F)) := by
    intro j F hj
    have hlt := (List.getElem?_eq_some_iff.1 hj).1
    rw [hown.cellAt j (by omega), List.getElem?_map, hj]
    rfl
  have hb1 := hb.size
  clear cF hown
  go_loopw [3, 10] (fun s3 s10 wr => ∃ (k : Nat) (ks : List (List UInt8)), k ≤ FS.length ∧ s10 = .int .i64 (k : Int) ∧ Hid (ks ++ tokF (FS.drop k) = T) ∧ ks.length ≤ k ∧ wr.ownsRow w1.heap.size 9 1 s3 ks.length (ks.map strV) ∧ Below w1.heap.size w1 wr) (fun _ s10 _ => FS.length - (intOf s10).toNat)
  case atStart => exact ⟨0, [], by omega, rfl, HT, by simp, ⟨rfl, Or.inl ⟨rfl, rfl⟩⟩, Below.refl _ _⟩
  case round =>
    obtain ⟨k, ks, hk, rfl, HI, hkl, hrow, hbw⟩ := hrel
    by_cases hlt : k < FS.length
    · obtain ⟨F, hF⟩ : ∃ F, FS[k]? = some F := ⟨_, List.getElem?_eq_getElem hlt⟩
      have hcell : wr.cell? ⟨A, k, none⟩ = some (.string F) := (hbw.cell (p := ⟨A, k, none⟩) hAlt).trans (HC.out k F hF)
      have hdrop : Hid (FS.drop k = F :: FS.drop (k + 1)) := drop_atB hF
      clear hF
      by_cases hc : comB (fromRun F.data.toList) = true
      · have HS : Hid (tokF (FS.drop k) = tokF (FS.drop (k + 1))) := by show _ = _; rw [hdrop.out, tokF_no F _ hc]
        go_wp2_with (first
          | (go_at_call 96; refine (fromRun_any _ _).mono ?_; rintro e w2 ⟨rfl, hb2⟩)
          | (go_at_call 97; refine (isCommon_any _ _).mono ?_; rintro e w' ⟨rfl, hw⟩; rw [hw]; clear hw w'))
        go_roundw
        case rel => exact ⟨k + 1, ks, by omega, by go_num, by show _ = _; rw [← HS.out]; exact HI.out, by omega, hrow.kept (grownB hb2 none) (Classical.em _), hbw.trans (hb2.mono hbw.size)⟩
        case measure => simp [intOf]; omega
      · have hcf : comB (fromRun F.data.toList) = false := by simpa using hc
        clear hc
        have HS : Hid (tokF (FS.drop k) = fromRun F.data.toList :: tokF (FS.drop (k + 1))) := by show _ = _; rw [hdrop.out, tokF_yes F _ hcf]
        go_wp2_with (first
          | (at_builtin; refine wpList_append_own _ rfl _ _ 34 rfl w1.heap.size 9 i0 (.string ⟨#[]⟩) 1 16 Tryz.underlying34 hi hz0 hz1 hz2 rfl (by decide) _ _ _ rfl ((hrow.kept (grownB hb2 none) (Classical.em _)).alloc _) ⟨w2.heap.size, 0, none⟩ 1 1 [strV (fromRun F.data.toList)] rfl rfl (cell_one_new _ _ _) (fun x hx => by simp at hx; subst hx; rfl) (by unfold maxLen; omega) (by omega) (by have := hbw.size; have := hb2.size; simp; omega) ?_; intro v' w3 hown3 hgrow3 hnil3)
          | (go_at_call 96; refine (fromRun_any _ _).mono ?_; rintro e w2 ⟨rfl, hb2⟩)
          | (go_at_call 97; refine (isCommon_any _ _).mono ?_; rintro e w' ⟨rfl, hw⟩; rw [hw]; clear hw w'))
        go_roundw
        case rel =>
          refine ⟨k + 1, ks ++ [fromRun F.data.toList], by omega, by go_num, ?_, by simp; omega, ?_, ?_⟩
          · show _ = _
            rw [← HI.out, HS.out]; simp
          · simpa using hown3
          · have hb3 : Below w1.heap.size w1 (w2.alloc (.cells #[strV (fromRun F.data.toList)] 9)) := (hbw.trans (hb2.mono hbw.size)).alloc (by have := hbw.size; have := hb2.size; omega) _
            exact hb3.grown hgrow3 (by have := hbw.size; have := hb2.size; simp; omega) (fun j hj => ((hrow.kept (grownB hb2 none) (Classical.em _)).lt j hj).1)
        case measure => simp [intOf]; omega
    · have hkz : ¬ ((k : Int) < (FS.length : Int)) := by omega
      have HE : Hid (ks = T) := by
        have := HI.out
        rw [List.drop_of_length_le (by omega)] at this
        have h2 : ks = T := by simpa [tokF] using this
        exact h2
      clear HI
      go_wp2
      go_ret
      have hE := HE.out
      subst hE
      exact ⟨_, rfl, ownsRow_leB hrow hb1, hb.trans (hbw.mono hb1)⟩
end Go.Proofs.YtaacjjhmojecnaaGreatDoor
