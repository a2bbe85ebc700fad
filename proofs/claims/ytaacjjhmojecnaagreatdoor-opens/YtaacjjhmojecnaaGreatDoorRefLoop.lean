/- The walk of the reference's Split: its loop. -/
import Derived.Test.YtaacjjhmojecnaaGreatDoorRefSplit
namespace Go.Proofs.YtaacjjhmojecnaaGreatDoor
open Go.RowKit Go.ScT Go.Proofs

theorem cat_two (a b : List UInt8) : ((⟨a.toArray⟩ : ByteArray) ++ ⟨b.toArray⟩) = ⟨(a ++ b).toArray⟩ := by
  apply ByteArray.ext
  simp
theorem letL_len (b : UInt8) (r : List UInt8) : (letL b r).length ≤ 2 := by
  rcases head_cases b r with ⟨_, hl⟩ | ⟨c, r', rfl, rfl, _, hl⟩ | hl <;> rw [hl] <;> simp
theorem flush_len (run : List UInt8) (l : List (List UInt8)) : (flush run l).length ≤ l.length + 1 := by
  unfold flush
  split
  · omega
  · simp
theorem fin_none (s : ByteArray) (n : Nat) (h : n < s.size) (run : List UInt8) (m : Nat) (l : List (List UInt8)) (he : letL s[n] (s.data.toList.drop (n + 1)) = []) :
    fin (s.data.toList.drop n) false run m l = fin (s.data.toList.drop (n + 1)) false [] 0 (flush run l) := by
  rw [drop_head s n h]
  simp only [fin, if_pos he]
theorem fin_some (s : ByteArray) (n : Nat) (h : n < s.size) (run : List UInt8) (m : Nat) (l : List (List UInt8)) (he : letL s[n] (s.data.toList.drop (n + 1)) ≠ []) :
    fin (s.data.toList.drop n) false run m l = if m < 10 then fin (s.data.toList.drop (n + letW s[n] (s.data.toList.drop (n + 1)))) false (run ++ letL s[n] (s.data.toList.drop (n + 1))) (m + 1) l else fin (s.data.toList.drop (n + letW s[n] (s.data.toList.drop (n + 1)))) false run m l := by
  have hd := drop_head s n h
  have key : ∀ R k A, fin (s.data.toList.drop (n + 1)) (s[n] == 195) R k A = fin (s.data.toList.drop (n + letW s[n] (s.data.toList.drop (n + 1)))) false R k A := by
    intro R k A
    unfold letW
    rw [if_neg he]
    by_cases h9 : s[n] = 195
    · rw [if_pos h9]
      have hb : (s[n] == 195) = true := by simp [h9]
      rw [hb]
      have hne : s.data.toList.drop (n + 1) ≠ [] := by
        intro e
        rw [e, h9] at he
        simp [letL, ascB] at he
      cases hx : s.data.toList.drop (n + 1) with
      | nil => exact absurd hx hne
      | cons c r =>
        have : s.data.toList.drop (n + 2) = r := by rw [show n + 2 = (n + 1) + 1 from rfl, ← List.drop_drop, hx]; rfl
        rw [this]
        simp only [fin]
    · rw [if_neg h9]
      have hb : (s[n] == 195) = false := by simp [h9]
      rw [hb]
  rw [hd]
  simp only [fin, if_neg he, key]
theorem letW_le (s : ByteArray) (n : Nat) (h : n < s.size) : 1 ≤ letW s[n] (s.data.toList.drop (n + 1)) ∧ n + letW s[n] (s.data.toList.drop (n + 1)) ≤ s.size := by
  unfold letW
  split
  · omega
  · rename_i hne
    split
    · rename_i h9
      refine ⟨by omega, ?_⟩
      apply Classical.byContradiction
      intro hc
      apply hne
      rw [List.drop_of_length_le (by simp; omega), h9]
      simp [letL, ascB]
    · omega

set_option maxHeartbeats 1000000 in
set_option maxRecDepth 1000000 in
theorem refSplit_any (s : ByteArray) (w : World) (hs : s.size ≤ 1000000) :
    Calls Tryz.prog 57 #[.string s] w fun e w' => ∃ v, e = .returned v ∧ w'.ownsRow w.heap.size 9 1 v (toks s.data.toList).length ((toks s.data.toList).map strV) ∧ Below w.heap.size w w' := by
  obtain ⟨T, hTe⟩ : ∃ T, toks s.data.toList = T := ⟨_, rfl⟩
  have HT : Hid (fin (s.data.toList.drop 0) false [] 0 [] = T) := hTe
  rw [hTe]
  clear hTe
  have hi9 : (Tryz.prog.info? 9).map (fun i => (i.zero, i.size, i.bytes)) = some (some (.string ⟨#[]⟩), 1, 16) := by kernel_rfl
  obtain ⟨i0, hi, hz0, hz1, hz2⟩ := info_parts hi9
  clear hi9
  go_enter Tryz.func57, Tryz.ntmps57
  go_wp2
  go_loopw [3, 4, 5, 6] (fun s3 s4 s5 s6 wr => ∃ (n m : Nat) (run : List UInt8) (l : List (List UInt8)), s6 = .int .i64 (n : Int) ∧ s5 = .int .i64 (m : Int) ∧ s4 = .string ⟨run.toArray⟩ ∧ wr.ownsRow w.heap.size 9 1 s3 l.length (l.map strV) ∧ Below w.heap.size w wr ∧ m ≤ 10 ∧ l.length ≤ n ∧ run.length ≤ 2 * m ∧ n ≤ s.size + 1 ∧ Hid ((n ≤ s.size → fin (s.data.toList.drop n) false run m l = T) ∧ (n = s.size + 1 → l = T))) (fun _ _ _ s6 _ => s.size + 1 - (intOf s6).toNat)
  case atStart => exact ⟨0, 0, [], [], rfl, rfl, rfl, ⟨rfl, Or.inl ⟨rfl, rfl⟩⟩, Below.refl _ _, by omega, by simp, by simp, by omega, fun _ => HT.out, fun h => by omega⟩
  case round =>
    obtain ⟨n, m, run, l, rfl, rfl, rfl, hrow, hbw, hm, hln, hrl, hn1, HI⟩ := hrel
    have hbs := hbw.size
    by_cases hlt : n < s.size
    · have hnz : (n : Int) ≤ (s.size : Int) := by omega
      have cL := letter_any s n hlt hs
      have hle := letL_len s[n] (s.data.toList.drop (n + 1))
      have hwl := letW_le s n hlt
      have hI := HI.out.1 (by omega)
      by_cases he : letL s[n] (s.data.toList.drop (n + 1)) = []
      · have hw1 : letW s[n] (s.data.toList.drop (n + 1)) = 1 := by simp [letW, he]
        rw [fin_none s n hlt run m l he] at hI
        have HI2 : Hid ((n + 1 ≤ s.size → fin (s.data.toList.drop (n + 1)) false [] 0 (flush run l) = T) ∧ (n + 1 = s.size + 1 → flush run l = T)) := ⟨fun _ => hI, fun h => by omega⟩
        rw [he, hw1] at cL
        clear hI HI he hle hwl hw1
        have cL2 : LetC s n [] 1 := cL
        clear cL
        by_cases hst : stopB run = true
        · have hfl : Hid (flush run l = l) := show _ = _ by simp [flush, hst]
          go_wp2_with (first
            | (go_at_call 101; refine (cL2 _).mono ?_; rintro e w2 ⟨rfl, hb2⟩)
            | (go_at_call 102; refine (stops_any _ _).mono ?_; rintro e w' ⟨rfl, hw⟩; rw [hw]; clear hw w'))
          go_roundw
          case rel => exact ⟨n + 1, 0, [], l, by go_num, by first | rfl | go_num, rfl, hrow.kept (grownB hb2 none) (Classical.em _), hbw.trans (hb2.mono hbw.size), by omega, by omega, by simp, by omega, by have := HI2.out; rw [hfl.out] at this; exact this⟩
          case measure => simp [intOf]; omega
        · have hsf : stopB run = false := by simpa using hst
          clear hst
          have hfl : Hid (flush run l = l ++ [run]) := show _ = _ by simp [flush, hsf]
          go_wp2_with (first
            | (at_builtin; refine wpList_append_own _ rfl _ _ 34 rfl w.heap.size 9 i0 (.string ⟨#[]⟩) 1 16 Tryz.underlying34 hi hz0 hz1 hz2 rfl (by decide) _ _ _ rfl ((hrow.kept (grownB hb2 none) (Classical.em _)).alloc _) ⟨w2.heap.size, 0, none⟩ 1 1 [strV run] rfl rfl (cell_one_new _ _ _) (fun x hx => by simp at hx; subst hx; rfl) (by unfold maxLen; omega) (by omega) (by have := hbw.size; have := hb2.size; simp; omega) ?_; intro v' w3 hown3 hgrow3 hnil3)
            | (go_at_call 101; refine (cL2 _).mono ?_; rintro e w2 ⟨rfl, hb2⟩)
            | (go_at_call 102; refine (stops_any _ _).mono ?_; rintro e w' ⟨rfl, hw⟩; rw [hw]; clear hw w'))
          go_roundw
          case rel =>
            refine ⟨n + 1, 0, [], l ++ [run], by go_num, by first | rfl | go_num, rfl, by simpa using hown3, ?_, by omega, by simp; omega, by simp, by omega, by have := HI2.out; rw [hfl.out] at this; exact this⟩
            have hb3 : Below w.heap.size w (w2.alloc (.cells #[strV run] 9)) := (hbw.trans (hb2.mono hbw.size)).alloc (by have := hbw.size; have := hb2.size; omega) _
            exact hb3.grown hgrow3 (by have := hbw.size; have := hb2.size; simp; omega) (fun j hj => ((hrow.kept (grownB hb2 none) (Classical.em _)).lt j hj).1)
          case measure => simp [intOf]; omega
      · rw [fin_some s n hlt run m l he] at hI
        generalize letL s[n] (s.data.toList.drop (n + 1)) = C at cL hle he hI
        generalize letW s[n] (s.data.toList.drop (n + 1)) = K at cL hwl hI
        obtain ⟨hK1, hK2⟩ := hwl
        have hCe : C.isEmpty = false := by simpa using he
        by_cases h10 : m < 10
        · rw [if_pos h10] at hI
          have HI2 : Hid ((n + K ≤ s.size → fin (s.data.toList.drop (n + K)) false (run ++ C) (m + 1) l = T) ∧ (n + K = s.size + 1 → l = T)) := ⟨fun _ => hI, fun h => by omega⟩
          clear hI HI
          go_wp2_with (first
            | (go_at_call 101; refine (cL _).mono ?_; rintro e w2 ⟨rfl, hb2⟩))
          go_roundw
          case rel => exact ⟨n + K, m + 1, run ++ C, l, by go_num, by go_num, congrArg Value.string (cat_two run C), hrow.kept (grownB hb2 none) (Classical.em _), hbw.trans (hb2.mono hbw.size), by omega, by omega, by simp; omega, by omega, HI2⟩
          case measure => simp [intOf]; omega
        · rw [if_neg h10] at hI
          have HI2 : Hid ((n + K ≤ s.size → fin (s.data.toList.drop (n + K)) false run m l = T) ∧ (n + K = s.size + 1 → l = T)) := ⟨fun _ => hI, fun h => by omega⟩
          clear hI HI
          go_wp2_with (first
            | (go_at_call 101; refine (cL _).mono ?_; rintro e w2 ⟨rfl, hb2⟩))
          go_roundw
          case rel => exact ⟨n + K, m, run, l, by go_num, rfl, rfl, hrow.kept (grownB hb2 none) (Classical.em _), hbw.trans (hb2.mono hbw.size), by omega, by omega, by omega, by omega, HI2⟩
          case measure => simp [intOf]; omega
    · by_cases hend : n = s.size
      · have hnz : (n : Int) ≤ (s.size : Int) := by omega
        have hnz2 : ¬ ((n : Int) < (s.size : Int)) := by omega
        have hI := HI.out.1 (by omega)
        rw [List.drop_of_length_le (by simp; omega)] at hI
        have HI2 : Hid ((n + 1 ≤ s.size → fin (s.data.toList.drop (n + 1)) false [] 0 (flush run l) = T) ∧ (n + 1 = s.size + 1 → flush run l = T)) := ⟨fun h => by omega, fun _ => hI⟩
        clear hI HI hend
        by_cases hst : stopB run = true
        · have hfl : Hid (flush run l = l) := show _ = _ by simp [flush, hst]
          go_wp2_with (first
            | (go_at_call 102; refine (stops_any _ _).mono ?_; rintro e w' ⟨rfl, hw⟩; rw [hw]; clear hw w'))
          go_roundw
          case rel => exact ⟨n + 1, 0, [], l, by go_num, by first | rfl | go_num, rfl, hrow, hbw, by omega, by omega, by simp, by omega, by have := HI2.out; rw [hfl.out] at this; exact this⟩
          case measure => simp [intOf]; omega
        · have hsf : stopB run = false := by simpa using hst
          clear hst
          have hfl : Hid (flush run l = l ++ [run]) := show _ = _ by simp [flush, hsf]
          go_wp2_with (first
            | (at_builtin; refine wpList_append_own _ rfl _ _ 34 rfl w.heap.size 9 i0 (.string ⟨#[]⟩) 1 16 Tryz.underlying34 hi hz0 hz1 hz2 rfl (by decide) _ _ _ rfl (hrow.alloc _) ⟨wr.heap.size, 0, none⟩ 1 1 [strV run] rfl rfl (cell_one_new _ _ _) (fun x hx => by simp at hx; subst hx; rfl) (by unfold maxLen; omega) (by omega) (by have := hbw.size; simp; omega) ?_; intro v' w3 hown3 hgrow3 hnil3)
            | (go_at_call 102; refine (stops_any _ _).mono ?_; rintro e w' ⟨rfl, hw⟩; rw [hw]; clear hw w'))
          go_roundw
          case rel =>
            refine ⟨n + 1, 0, [], l ++ [run], by go_num, by first | rfl | go_num, rfl, by simpa using hown3, ?_, by omega, by simp; omega, by simp, by omega, by have := HI2.out; rw [hfl.out] at this; exact this⟩
            have hb3 : Below w.heap.size w (wr.alloc (.cells #[strV run] 9)) := hbw.alloc hbw.size _
            exact hb3.grown hgrow3 (by have := hbw.size; simp; omega) (fun j hj => (hrow.lt j hj).1)
          case measure => simp [intOf]; omega
      · have hnz : ¬ ((n : Int) ≤ (s.size : Int)) := by omega
        have hE := HI.out.2 (by omega)
        have HE : Hid (l = T) := hE
        clear hE HI
        go_wp2
        go_ret
        have hE := HE.out
        subst hE
        exact ⟨_, rfl, hrow, hbw⟩
end Go.Proofs.YtaacjjhmojecnaaGreatDoor
