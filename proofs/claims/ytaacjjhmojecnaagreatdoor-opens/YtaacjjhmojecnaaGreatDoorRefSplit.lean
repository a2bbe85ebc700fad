/- The walk of the reference's Split. -/
import Derived.Test.YtaacjjhmojecnaaGreatDoorLetter
import Derived.Test.YtaacjjhmojecnaaGreatDoorLeaf2
import Derived.Test.YtaacjjhmojecnaaGreatDoorSplit
import Derived.Test.YtaacjjhmojecnaaGreatDoorPlain2
namespace Go.Proofs.YtaacjjhmojecnaaGreatDoor
open Go.RowKit Go.ScT Go.Proofs

def letW (b : UInt8) (r : List UInt8) : Nat := if letL b r = [] then 1 else if b = 195 then 2 else 1
/-- What a call of letter answers. -/
def LetC (s : ByteArray) (n : Nat) (c : List UInt8) (k : Nat) : Prop :=
  ∀ w, Calls Tryz.prog 101 #[.string s, .int .i64 (n : Int)] w fun e w' => e = .returned (.tuple #[.string ⟨c.toArray⟩, .int .i64 (k : Int)]) ∧ Below w.heap.size w w'

theorem drop_head (s : ByteArray) (n : Nat) (h : n < s.size) : s.data.toList.drop n = s[n] :: s.data.toList.drop (n + 1) := by
  rw [List.drop_eq_getElem_cons (by simpa using h)]
  rfl

theorem letter_any (s : ByteArray) (n : Nat) (hn : n < s.size) (hs : s.size ≤ 1000000) : LetC s n (letL s[n] (s.data.toList.drop (n + 1))) (letW s[n] (s.data.toList.drop (n + 1))) := by
  intro w
  have hlt : s[n].toNat < 256 := UInt8.toNat_lt _
  have h195 : ∀ x : UInt8, ascB x = true → x ≠ 195 := by
    intro x hx e
    rw [e] at hx
    simp [ascB] at hx
  have asc : ascB s[n] = true → letL s[n] (s.data.toList.drop (n + 1)) = [smA s[n]] ∧ letW s[n] (s.data.toList.drop (n + 1)) = 1 := by
    intro h
    have : letL s[n] (s.data.toList.drop (n + 1)) = [smA s[n]] := by simp [letL, h]
    exact ⟨this, by simp [letW, this, h195 _ h]⟩
  have non : ascB s[n] = false → s[n] ≠ 195 → letL s[n] (s.data.toList.drop (n + 1)) = [] ∧ letW s[n] (s.data.toList.drop (n + 1)) = 1 := by
    intro h h2
    have : letL s[n] (s.data.toList.drop (n + 1)) = [] := by simp [letL, h, h2]
    exact ⟨this, by simp [letW, this]⟩
  have na : ¬ ((48 ≤ s[n].toNat ∧ s[n].toNat ≤ 57) ∨ (65 ≤ s[n].toNat ∧ s[n].toNat ≤ 90) ∨ (97 ≤ s[n].toNat ∧ s[n].toNat ≤ 122)) → ascB s[n] = false := by
    intro h
    rw [← ascB_iff] at h
    simpa using h
  by_cases a1 : 48 ≤ s[n].toNat ∧ s[n].toNat ≤ 57
  · obtain ⟨e1, e2⟩ := asc ((ascB_iff _).2 (by omega))
    rw [e1, e2, smA_id _ (by omega)]
    exact letter_d s n w hn hs a1.1 a1.2
  by_cases a2 : 97 ≤ s[n].toNat ∧ s[n].toNat ≤ 122
  · obtain ⟨e1, e2⟩ := asc ((ascB_iff _).2 (by omega))
    rw [e1, e2, smA_id _ (by omega)]
    exact letter_l s n w hn hs a2.1 a2.2
  by_cases a3 : 65 ≤ s[n].toNat ∧ s[n].toNat ≤ 90
  · obtain ⟨e1, e2⟩ := asc ((ascB_iff _).2 (by omega))
    have e3 : smA s[n] = s[n] + 32 := by
      unfold smA
      rw [if_pos (by simp [UInt8.le_iff_toNat_le]; omega)]
    rw [e1, e2, e3]
    exact letter_u s n w hn hs a3.1 a3.2
  have hna := na (by omega)
  by_cases h9 : s[n] = 195
  · have ha : ascB 195 = false := rfl
    by_cases hend : n + 1 = s.size
    · have hd : s.data.toList.drop (n + 1) = [] := List.drop_of_length_le (by simp; omega)
      have e1 : letL s[n] (s.data.toList.drop (n + 1)) = [] := by rw [hd]; simp [letL, ha, h9]
      have e2 : letW s[n] (s.data.toList.drop (n + 1)) = 1 := by unfold letW; rw [e1, if_pos rfl]
      rw [e1, e2]
      exact letter_e s n w hn hs h9 hend
    · have h2 : n + 1 < s.size := by omega
      have hd := drop_head s (n + 1) h2
      have hlt2 : s[n + 1].toNat < 256 := UInt8.toNat_lt _
      by_cases hc : cntB s[n + 1] = true
      · have hcc := (cntB_iff _).1 hc
        have e1 : letL s[n] (s.data.toList.drop (n + 1)) = [195, smC s[n + 1]] := by rw [hd]; simp [letL, ha, h9, hc]
        have e2 : letW s[n] (s.data.toList.drop (n + 1)) = 2 := by unfold letW; rw [e1, if_neg (by simp), if_pos h9]
        rw [e1, e2]
        by_cases h158 : s[n + 1].toNat ≤ 158
        · have e3 : smC s[n + 1] = s[n + 1] + 32 := by
            unfold smC
            rw [if_pos (by simp [UInt8.le_iff_toNat_le]; omega)]
          rw [e3]
          by_cases h151 : s[n + 1].toNat < 151
          · exact letter_k0 s n w hn hs h9 h2 (by omega) h151
          · exact letter_k1 s n w hn hs h9 h2 (by omega) (by omega)
        · rw [smC_id _ h158]
          by_cases h183 : s[n + 1].toNat < 183
          · exact letter_k2 s n w hn hs h9 h2 (by omega) h183
          · exact letter_k3 s n w hn hs h9 h2 (by omega) (by omega)
      · have hcc : ¬ (128 ≤ s[n + 1].toNat ∧ s[n + 1].toNat ≤ 191 ∧ s[n + 1].toNat ≠ 151 ∧ s[n + 1].toNat ≠ 183) := by rw [← cntB_iff]; exact hc
        have e1 : letL s[n] (s.data.toList.drop (n + 1)) = [] := by rw [hd]; simp [letL, ha, h9, hc]
        have e2 : letW s[n] (s.data.toList.drop (n + 1)) = 1 := by unfold letW; rw [e1, if_pos rfl]
        rw [e1, e2]
        by_cases q1 : s[n + 1].toNat < 128
        · exact letter_c0 s n w hn hs h9 h2 q1
        by_cases q2 : 191 < s[n + 1].toNat
        · exact letter_c1 s n w hn hs h9 h2 q2
        by_cases q3 : s[n + 1].toNat = 151
        · exact letter_c2 s n w hn hs h9 h2 q3
        · exact letter_c3 s n w hn hs h9 h2 (by omega)
  · obtain ⟨e1, e2⟩ := non hna h9
    have h9n : s[n].toNat ≠ 195 := fun e => h9 ((u8_eq _ _).2 e)
    rw [e1, e2]
    by_cases q1 : s[n].toNat < 48
    · exact letter_n0 s n w hn hs q1
    by_cases q2 : s[n].toNat < 65
    · exact letter_n1 s n w hn hs (by omega) q2
    by_cases q3 : s[n].toNat < 97
    · exact letter_n2 s n w hn hs (by omega) q3
    by_cases q4 : s[n].toNat < 195
    · exact letter_n3 s n w hn hs (by omega) q4
    · exact letter_n4 s n w hn hs (by omega)
end Go.Proofs.YtaacjjhmojecnaaGreatDoor
