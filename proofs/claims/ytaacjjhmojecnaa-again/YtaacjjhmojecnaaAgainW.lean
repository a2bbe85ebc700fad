/- The walk of the law Again. -/
import Derived.Test.YtaacjjhmojecnaaTokens
namespace Go.Proofs.Ytaacjjhmojecnaa
open Go.RowKit Go.ScT Go.Proofs Go.Shelf

theorem tokens_okL (l : List UInt8) (w : World) (h : l.length ≤ 200) :
    Calls Try.prog 4 #[.string ⟨l.toArray⟩] w fun e w' => e = .returned (.tuple #[.string ⟨(told l).toArray⟩, .int .i64 0]) ∧ Below w.heap.size w w' :=
  tokens_ok ⟨l.toArray⟩ w (by show l.toArray.size ≤ 200; simpa using h)
theorem tokens_longL (l : List UInt8) (w : World) (h : 200 < l.length) (hm : l.length ≤ maxLen) :
    Calls Try.prog 4 #[.string ⟨l.toArray⟩] w fun e w' => e = .returned (.tuple #[.string ⟨#[]⟩, .int .i64 2]) ∧ w' = w :=
  tokens_long ⟨l.toArray⟩ w (by show 200 < l.toArray.size; simpa using h) (by show l.toArray.size ≤ maxLen; simpa using hm)

def knownL : List UInt8 := [84, 104, 101, 32, 81, 117, 105, 99, 107, 44, 32, 113, 117, 105, 99, 107, 32, 102, 111, 120, 39, 115, 32, 51, 32, 111, 102, 32, 195, 128, 195, 137, 33]
theorem known_told : told knownL = [113, 117, 105, 99, 107, 32, 113, 117, 105, 99, 107, 32, 102, 111, 120, 32, 115, 32, 51, 32, 195, 160, 195, 169] := by decide +kernel
theorem known_call (w : World) :
    Calls Try.prog 4 #[.string ⟨#[84, 104, 101, 32, 81, 117, 105, 99, 107, 44, 32, 113, 117, 105, 99, 107, 32, 102, 111, 120, 39, 115, 32, 51, 32, 111, 102, 32, 195, 128, 195, 137, 33]⟩] w fun e w' => e = .returned (.tuple #[.string ⟨#[113, 117, 105, 99, 107, 32, 113, 117, 105, 99, 107, 32, 102, 111, 120, 32, 115, 32, 51, 32, 195, 160, 195, 169]⟩, .int .i64 0]) ∧ Below w.heap.size w w' := by
  have h := tokens_okL knownL w (by decide)
  rw [known_told] at h
  exact h

set_option maxHeartbeats 400000 in
theorem again_long (a b : List UInt8) (w : World) (ha : 200 < a.length) (hm : a.length ≤ maxLen) :
    Calls Try.prog 3 #[.string ⟨a.toArray⟩, .string ⟨b.toArray⟩] w fun e w' => e = .returned (.bool true) ∧ Below w.heap.size w w' := by
  have hm' : a.length ≤ maxLen := hm
  unfold maxLen at hm
  go_enter Try.func3, Try.ntmps3
  go_wp2_with fail
  refine (known_call _).mono ?_
  rintro e w1 ⟨rfl, hb1⟩
  go_wp2_with fail
  refine (tokens_longL a _ ha hm').mono ?_
  rintro e w2 ⟨rfl, rfl⟩
  go_wp2
  go_ret
  exact ⟨ret_boolB (by symm; simp; omega), hb1⟩

theorem told_le (a : List UInt8) (h : a.length ≤ 200) : (told a).length ≤ 200 := Nat.le_trans (toks_join_le a) h
theorem told_told (a : List UInt8) : told (told a) = told a := by unfold told; rw [toks_again]
theorem told_call (a : List UInt8) (w : World) (h : a.length ≤ 200) :
    Calls Try.prog 4 #[.string ⟨(told a).toArray⟩] w fun e w' => e = .returned (.tuple #[.string ⟨(told a).toArray⟩, .int .i64 0]) ∧ Below w.heap.size w w' := by
  have := tokens_okL (told a) w (told_le a h)
  rw [told_told] at this
  exact this

theorem cat_eq (a b : List UInt8) : ((⟨a.toArray⟩ : ByteArray) ++ ⟨#[32]⟩ ++ ⟨b.toArray⟩) = ⟨(a ++ 32 :: b).toArray⟩ := by
  apply ByteArray.ext
  simp
theorem both_call (a b : List UInt8) (w : World) (h : (a ++ 32 :: b).length ≤ 200) :
    Calls Try.prog 4 #[.string ((⟨a.toArray⟩ : ByteArray) ++ ⟨#[32]⟩ ++ ⟨b.toArray⟩)] w fun e w' => e = .returned (.tuple #[.string ⟨(told (a ++ 32 :: b)).toArray⟩, .int .i64 0]) ∧ Below w.heap.size w w' := by
  rw [cat_eq]
  exact tokens_okL _ w h
theorem both_long (a b : List UInt8) (w : World) (h : 200 < (a ++ 32 :: b).length) (hm : (a ++ 32 :: b).length ≤ maxLen) :
    Calls Try.prog 4 #[.string ((⟨a.toArray⟩ : ByteArray) ++ ⟨#[32]⟩ ++ ⟨b.toArray⟩)] w fun e w' => e = .returned (.tuple #[.string ⟨#[]⟩, .int .i64 2]) ∧ w' = w := by
  rw [cat_eq]
  exact tokens_longL _ w h hm

/-- What a call of Tokens answers, and leaves. -/
def TokC (v : Value) (t : List UInt8) : Prop := ∀ w, Calls Try.prog 4 #[v] w fun e w' => e = .returned (.tuple #[.string ⟨t.toArray⟩, .int .i64 0]) ∧ Below w.heap.size w w'
def TokL (v : Value) : Prop := ∀ w, Calls Try.prog 4 #[v] w fun e w' => e = .returned (.tuple #[.string ⟨#[]⟩, .int .i64 2]) ∧ w' = w

set_option maxHeartbeats 400000 in
theorem again_two (a b S : List UInt8) (w : World) (ha : a.length ≤ 200) (hbb : b.length ≤ 140737488351232) (cA : TokC (.string ⟨a.toArray⟩) S) (cS : TokC (.string ⟨S.toArray⟩) S) (cB : TokL (.string ⟨b.toArray⟩))
    (cAB : TokL (.string ((⟨a.toArray⟩ : ByteArray) ++ ⟨#[32]⟩ ++ ⟨b.toArray⟩))) :
    Calls Try.prog 3 #[.string ⟨a.toArray⟩, .string ⟨b.toArray⟩] w fun e w' => e = .returned (.bool true) ∧ Below w.heap.size w w' := by
  go_enter Try.func3, Try.ntmps3
  go_wp2_with fail
  refine (known_call _).mono ?_
  rintro e w1 ⟨rfl, hb1⟩
  go_wp2_with fail
  refine (cA _).mono ?_
  rintro e w2 ⟨rfl, hb2⟩
  go_wp2_with fail
  refine (cS _).mono ?_
  rintro e w3 ⟨rfl, hb3⟩
  go_wp2_with fail
  refine (cB _).mono ?_
  rintro e w4 ⟨rfl, rfl⟩
  go_wp2_with fail
  refine (cAB _).mono ?_
  rintro e w5 ⟨rfl, rfl⟩
  go_wp2
  go_ret
  exact ⟨rfl, (hb1.trans (hb2.mono hb1.size)).trans (hb3.mono (Nat.le_trans hb1.size hb2.size))⟩

set_option maxHeartbeats 400000 in
theorem again_sum (a b S : List UInt8) (w : World) (U : List UInt8) (ha : a.length ≤ 200) (hbb : b.length ≤ 200) (cA : TokC (.string ⟨a.toArray⟩) S) (cS : TokC (.string ⟨S.toArray⟩) S) (cB : TokC (.string ⟨b.toArray⟩) U)
    (cAB : TokL (.string ((⟨a.toArray⟩ : ByteArray) ++ ⟨#[32]⟩ ++ ⟨b.toArray⟩))) :
    Calls Try.prog 3 #[.string ⟨a.toArray⟩, .string ⟨b.toArray⟩] w fun e w' => e = .returned (.bool true) ∧ Below w.heap.size w w' := by
  go_enter Try.func3, Try.ntmps3
  go_wp2_with fail
  refine (known_call _).mono ?_
  rintro e w1 ⟨rfl, hb1⟩
  go_wp2_with fail
  refine (cA _).mono ?_
  rintro e w2 ⟨rfl, hb2⟩
  go_wp2_with fail
  refine (cS _).mono ?_
  rintro e w3 ⟨rfl, hb3⟩
  go_wp2_with fail
  refine (cB _).mono ?_
  rintro e w4 ⟨rfl, hb4⟩
  go_wp2_with fail
  refine (cAB _).mono ?_
  rintro e w5 ⟨rfl, rfl⟩
  go_wp2
  go_ret
  exact ⟨rfl, (((hb1.trans (hb2.mono hb1.size)).trans (hb3.mono (Nat.le_trans hb1.size hb2.size)))).trans (hb4.mono (Nat.le_trans hb1.size (Nat.le_trans hb2.size hb3.size)))⟩

theorem sum_one (S U V : List UInt8) (h : S = []) (hV : S = [] ∨ U = [] → V = S ++ U) : true = (V == ((⟨#[]⟩ : ByteArray) ++ ⟨U.toArray⟩).toList) := by
  have := hV (Or.inl h)
  rw [h] at this
  rw [Lib.toList_data, this]
  simp
theorem sum_two (S U V : List UInt8) (h : (!S.isEmpty) = true ∧ (!U.isEmpty) = true) (hV : S ≠ [] ∧ U ≠ [] → V = S ++ 32 :: U) : true = (V == ((⟨S.toArray⟩ : ByteArray) ++ ⟨#[32]⟩ ++ ⟨U.toArray⟩).toList) := by
  have := hV (by simpa using h)
  rw [Lib.toList_data, this]
  simp
theorem sum_three (S U V : List UInt8) (h2 : (!S.isEmpty) = false ∨ (!U.isEmpty) = false) (hV : S = [] ∨ U = [] → V = S ++ U) : true = (V == ((⟨S.toArray⟩ : ByteArray) ++ ⟨U.toArray⟩).toList) := by
  have := hV (by simpa using h2)
  rw [Lib.toList_data, this]
  simp

set_option maxHeartbeats 400000 in
theorem again_ok (a b S : List UInt8) (w : World) (U V : List UInt8) (ha : a.length ≤ 200) (hbb : b.length ≤ 200) (hs : S.length ≤ 200) (hu : U.length ≤ 200) (cA : TokC (.string ⟨a.toArray⟩) S) (cS : TokC (.string ⟨S.toArray⟩) S) (cB : TokC (.string ⟨b.toArray⟩) U)
    (cAB : TokC (.string ((⟨a.toArray⟩ : ByteArray) ++ ⟨#[32]⟩ ++ ⟨b.toArray⟩)) V) (hV : Hid ((S ≠ [] ∧ U ≠ [] → V = S ++ 32 :: U) ∧ (S = [] ∨ U = [] → V = S ++ U))) :
    Calls Try.prog 3 #[.string ⟨a.toArray⟩, .string ⟨b.toArray⟩] w fun e w' => e = .returned (.bool true) ∧ Below w.heap.size w w' := by
  go_enter Try.func3, Try.ntmps3
  go_wp2_with fail
  refine (known_call _).mono ?_
  rintro e w1 ⟨rfl, hb1⟩
  go_wp2_with fail
  refine (cA _).mono ?_
  rintro e w2 ⟨rfl, hb2⟩
  go_wp2_with fail
  refine (cS _).mono ?_
  rintro e w3 ⟨rfl, hb3⟩
  go_wp2_with fail
  refine (cB _).mono ?_
  rintro e w4 ⟨rfl, hb4⟩
  go_wp2_with fail
  refine (cAB _).mono ?_
  rintro e w5 ⟨rfl, hb5⟩
  have hbel := ((((hb1.trans (hb2.mono hb1.size)).trans (hb3.mono (Nat.le_trans hb1.size hb2.size)))).trans (hb4.mono (Nat.le_trans hb1.size (Nat.le_trans hb2.size hb3.size)))).trans (hb5.mono (Nat.le_trans hb1.size (Nat.le_trans hb2.size (Nat.le_trans hb3.size hb4.size))))
  go_wp2
  · rename_i h1
    go_ret
    exact ⟨ret_boolB (sum_one S U V h1 hV.out.2), hbel⟩
  · rename_i _ h2
    go_ret
    exact ⟨ret_boolB (sum_two S U V h2 hV.out.1), hbel⟩
  · rename_i _ h2
    go_ret
    exact ⟨ret_boolB (sum_three S U V h2 hV.out.2), hbel⟩

/-- The law's walk: for any two texts, the second of a length that memory can hold. -/
theorem again_any (a b : List UInt8) (w : World) (hm : a.length ≤ 140737488351232) (hbb : b.length ≤ 140737488351232) :
    Calls Try.prog 3 #[.string ⟨a.toArray⟩, .string ⟨b.toArray⟩] w fun e w' => e = .returned (.bool true) ∧ Below w.heap.size w w' := by
  by_cases ha : 200 < a.length
  · exact again_long a b w ha (by unfold maxLen; omega)
  · have ha' : a.length ≤ 200 := by omega
    have cA : TokC (.string ⟨a.toArray⟩) (told a) := fun w => tokens_okL a w ha'
    have cS : TokC (.string ⟨(told a).toArray⟩) (told a) := fun w => told_call a w ha'
    by_cases hb : 200 < b.length
    · refine again_two a b (told a) w ha' hbb cA cS (fun w => tokens_longL b w hb (by unfold maxLen; omega)) (fun w => both_long a b w (by simp; omega) (by unfold maxLen; simp; omega))
    · have hb' : b.length ≤ 200 := by omega
      have cB : TokC (.string ⟨b.toArray⟩) (told b) := fun w => tokens_okL b w hb'
      by_cases hab : 200 < (a ++ 32 :: b).length
      · exact again_sum a b (told a) w (told b) ha' hb' cA cS cB (fun w => both_long a b w hab (by unfold maxLen; simp; omega))
      · refine again_ok a b (told a) w (told b) (told (a ++ 32 :: b)) ha' hb' (told_le a ha') (told_le b hb') cA cS cB (fun w => both_call a b w (by omega)) ?_
        unfold told
        refine ⟨fun h => ?_, fun h => ?_⟩
        · rw [toks_blank]
          exact join_append _ _ (fun e => h.1 ((join_empty a).2 e)) (fun e => h.2 ((join_empty b).2 e))
        · rw [toks_blank]
          rcases h with h | h
          · rw [h, (join_empty a).1 h]; rfl
          · rw [h, (join_empty b).1 h, List.append_nil, List.append_nil]
end Go.Proofs.Ytaacjjhmojecnaa
