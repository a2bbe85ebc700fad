/- The walk of the reference's Tokens, and that it answers as the program's. -/
import Derived.Test.YtaacjjhmojecnaaGreatDoorRefLoop
import Derived.Test.YtaacjjhmojecnaaGreatDoorTokens
namespace Go.Proofs.YtaacjjhmojecnaaGreatDoor
open Go.RowKit Go.ScT Go.Proofs

theorem tot_take (l : List (List UInt8)) (k : Nat) : tot (l.take k) ≤ tot l := by
  induction l generalizing k with
  | nil => simp
  | cons x r ih =>
    cases k with
    | zero => simp [tot]
    | succ k => have := ih k; simp [tot] at this ⊢; omega
theorem tot_at (l : List (List UInt8)) (k : Nat) (t : List UInt8) (h : l[k]? = some t) : t.length + 1 ≤ tot l := by
  induction l generalizing k with
  | nil => simp at h
  | cons x r ih =>
    cases k with
    | zero => simp at h; subst h; simp [tot]
    | succ k => have := ih k (by simpa using h); simp [tot] at this ⊢; omega
theorem join_le_tot (l : List (List UInt8)) : (Lib.join l [32]).length ≤ tot l := by
  cases l with
  | nil => simp [Lib.join, List.intercalate]
  | cons x r => have := join_tot x r; omega
theorem toks_tot (L : List UInt8) : tot (toks L) ≤ L.length + 1 := by
  have h := fin_tot L false [] 0 []
  rw [show fin L false [] 0 [] = toks L from rfl] at h
  simp only [tot, List.map_nil, List.sum_nil, List.length_nil, Bool.toNat_false] at h ⊢
  omega
theorem join_take_zero (l : List (List UInt8)) (t : List UInt8) (h : l[0]? = some t) : Lib.join (l.take 1) [32] = t := by
  cases l with
  | nil => simp at h
  | cons x r => simp at h; subst h; simp [Lib.join_one]
theorem join_take_succ (l : List (List UInt8)) (k : Nat) (t : List UInt8) (hk : 0 < k) (h : l[k]? = some t) : Lib.join (l.take (k + 1)) [32] = Lib.join (l.take k) [32] ++ [32] ++ t := by
  have hlt := (List.getElem?_eq_some_iff.1 h).1
  rw [List.take_add_one, h]
  have := join_append (l.take k) [t] (by intro e; have := congrArg List.length e; rw [List.length_take] at this; simp only [List.length_nil] at this; omega) (by simp)
  rw [Lib.join_one] at this
  simpa using this

set_option maxHeartbeats 400000 in
theorem refTokens_long (s : ByteArray) (w : World) (hs : 200 < s.size) (hm : s.size ≤ maxLen) :
    Calls Tryz.prog 33 #[.string s] w fun e w' => e = .returned (.tuple #[.string ⟨#[]⟩, .int .i64 2]) ∧ w' = w := by
  unfold maxLen at hm
  go_enter Tryz.func33, Tryz.ntmps33
  go_wp2
  go_ret2
  exact ⟨rfl, rfl⟩

theorem cat_three (a b : List UInt8) : ((⟨a.toArray⟩ : ByteArray) ++ ⟨#[32]⟩ ++ ⟨b.toArray⟩) = ⟨(a ++ [32] ++ b).toArray⟩ := by
  apply ByteArray.ext
  simp

set_option maxHeartbeats 1000000 in
set_option maxRecDepth 1000000 in
theorem refTokens_ok (s : ByteArray) (w : World) (hs : s.size ≤ 200) :
    Calls Tryz.prog 33 #[.string s] w fun e w' => e = .returned (.tuple #[.string ⟨(told s.data.toList).toArray⟩, .int .i64 0]) ∧ Below w.heap.size w w' := by
  have hsz : s.data.toList.length = s.size := by simp
  have htt := toks_tot s.data.toList
  have htl := toks_len_le s.data.toList
  rw [hsz] at htt htl
  have cS := refSplit_any s w (by omega)
  obtain ⟨T, hTe⟩ : ∃ T, toks s.data.toList = T := ⟨_, rfl⟩
  have HT : Hid (told s.data.toList = Lib.join T [32]) := show _ = _ by unfold told; rw [hTe]
  rw [hTe] at cS htt htl
  clear hTe hsz
  go_enter Tryz.func33, Tryz.ntmps33
  go_wp2_with (go_at_call 57; refine cS.mono ?_; rintro e w1 ⟨v, rfl, hown, hb1⟩)
  clear cS
  have hv : ∃ (g cap : Nat) (ao : Option Addr), v = .slice ao T.length cap ∧ (0 < T.length → ao = some ⟨g, 0, none⟩) := by
    rcases hown.2 with ⟨h1, h2⟩ | ⟨g, cap, cur, h1, _⟩
    · exact ⟨0, 0, none, by rw [h1, h2], fun h => by omega⟩
    · exact ⟨g, cap, some ⟨g, 0, none⟩, h1, fun _ => rfl⟩
  obtain ⟨g, cap, ao, hve, hao⟩ := hv
  have HC : Hid (∀ (j : Nat) (t : List UInt8), T[j]? = some t → ao = some ⟨g, 0, none⟩ ∧ g < w1.heap.size ∧ w1.cell? ⟨g, j, none⟩ = some (.string ⟨t.toArray⟩)) := by
    intro j t hj
    have hlt := (List.getElem?_eq_some_iff.1 hj).1
    have h1 := hao (by omega)
    rw [hve, h1] at hown
    refine ⟨h1, (hown.lt g rfl).2, ?_⟩
    rw [hown.cellAt j (by omega), List.getElem?_map, hj]
    rfl
  rw [hve]
  clear hown hve hao
  go_loopw [5, 6] (fun s5 s6 wr => ∃ (k : Nat) (J : List UInt8), k ≤ T.length ∧ s6 = .int .i64 (k : Int) ∧ s5 = .string ⟨J.toArray⟩ ∧ Hid (Lib.join (T.take k) [32] = J) ∧ ∃ q, wr = w1.drewN q) (fun _ s6 _ => T.length - (intOf s6).toNat)
  case atStart => exact ⟨0, [], by omega, rfl, rfl, rfl, 0, rfl⟩
  case round =>
    obtain ⟨k, J, hk, rfl, rfl, HJ0, q, rfl⟩ := hrel
    by_cases hlt : k < T.length
    · obtain ⟨t, ht⟩ : ∃ t, T[k]? = some t := ⟨_, List.getElem?_eq_getElem hlt⟩
      obtain ⟨rfl, hg, hc⟩ := HC.out k t ht
      have h1 := tot_at T k t ht
      have h2 := join_le_tot (T.take k)
      have h3 := tot_take T k
      rw [HJ0.out] at h2
      have hJl : J.length ≤ 1000 := by omega
      have htl2 : t.length ≤ 1000 := by omega
      clear h1 h2 h3
      by_cases hk0 : k = 0
      · subst hk0
        have HJ : Hid (Lib.join (T.take (0 + 1)) [32] = J ++ t) := show _ = _ by
          rw [← HJ0.out]
          exact join_take_zero T t ht
        clear ht
        go_wp2
        go_roundw
        case rel => exact ⟨0 + 1, J ++ t, by omega, by go_num, congrArg Value.string (cat_two J t), HJ, _, rfl⟩
        case measure => simp [intOf]; omega
      · have HJ : Hid (Lib.join (T.take (k + 1)) [32] = J ++ [32] ++ t) := show _ = _ by rw [← HJ0.out]; exact join_take_succ T k t (by omega) ht
        have hkp : (0 : Int) < (k : Int) := by omega
        clear ht hk0
        go_wp2
        go_roundw
        case rel => exact ⟨k + 1, J ++ [32] ++ t, by omega, by go_num, congrArg Value.string (cat_three J t), HJ, _, rfl⟩
        case measure => simp [intOf]; omega
    · have hkz : ¬ ((k : Int) < (T.length : Int)) := by omega
      have HE : Hid (J = told s.data.toList) := show _ = _ by
        rw [← HJ0.out, HT.out, List.take_of_length_le (by omega)]
      clear HT HJ0
      go_wp2
      go_ret2
      refine ⟨?_, ?_⟩
      · have := HE.out
        subst this
        rfl
      · exact below_drewN hb1 q
end Go.Proofs.YtaacjjhmojecnaaGreatDoor
