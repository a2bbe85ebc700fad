/- The walk of the law Opens: every Open of the program answers as the document's. -/
import Derived.Test.YtaacjjhmojecnaaGreatDoorRdW
import Derived.Test.YtaacjjhmojecnaaGreatDoorTexts
namespace Go.Proofs.YtaacjjhmojecnaaGreatDoor
open Go.RowKit Go.ScT Go.Proofs

set_option maxHeartbeats 1000000 in
set_option maxRecDepth 1000000 in
theorem textsOpen {base : Nat} {A : Nat → Addr} (a b c : Value) (K S : ByteArray) (w : World) (hS : Sent w A base) (hm : S.size ≤ maxLen) :
    Calls Tryz.prog 14 #[.agg #[.int .i64 6, a, b, c, .string K, .string S]] w fun e w' => e = .returned (.bool true) ∧ Below w.heap.size w w' := by
  obtain ⟨l, hl⟩ : ∃ l, S = ⟨l.toArray⟩ := ⟨S.data.toList, by simp⟩
  subst hl
  have hll : l.length ≤ maxLen := by simpa [ByteArray.size] using hm
  have HS := hid hS
  have CP : Hid (∀ w', Sent w' A base → Calls Tryz.prog 26 #[lstV l] w' fun e w'' => e = .returned (.tuple #[lstV (rOpen l).1, .int .i64 ((rOpen l).2 : Int)]) ∧ Below w'.heap.size w' w'') := fun w' h => progOpen h hll
  have CR : Hid (∀ w', Calls Tryz.prog 35 #[lstV l] w' fun e w'' => e = .returned (.tuple #[lstV (rOpen l).1, .int .i64 ((rOpen l).2 : Int)]) ∧ Below w'.heap.size w' w'') := fun w' => openL_any w' l hll
  generalize (rOpen l).1 = t at *
  generalize ((rOpen l).2 : Int) = n at *
  have hB0 := (Below.refl w.heap.size w).alloc (Nat.le_refl _) (.cells #[.int .i64 6, a, b, c, .string K, .string ⟨l.toArray⟩] 24)
  have HS0 := hid (HS.out.below hB0)
  have HB0 := hid hB0
  clear hm hll hS hB0
  go_enter Tryz.func14, Tryz.ntmps14
  go_wp2_with (fail)
  refine (CP.out _ HS0.out).mono ?_
  rintro e w1 ⟨rfl, hb1⟩
  have hc5 := hb1.cell (p := ⟨w.heap.size, 5, none⟩) (by simp)
  simp at hc5
  go_wp2_with (fail)
  refine (CR.out _).mono ?_
  rintro e w2 ⟨rfl, hb2⟩
  go_wp2
  go_ret
  exact ⟨rfl, (HB0.out.trans (hb1.mono (by simp))).trans (hb2.mono (Nat.le_trans (by simp) hb1.size))⟩
set_option maxHeartbeats 1000000 in
set_option maxRecDepth 1000000 in
theorem opens_any {base : Nat} {A : Nat → Addr} (ao : Option Addr) (b o len cap : Nat) (w : World) (hS : Sent w A base) (hl : len ≤ maxLen) (hao : 0 < len → ao = some ⟨b, o, none⟩ ∧ b < w.heap.size) (hop : ∀ i, i < len → OpAt w b (o + i * 6)) :
    Calls Tryz.prog 5 #[.slice ao len cap] w fun e w' => e = .returned (.bool true) ∧ Below w.heap.size w w' := by
  unfold maxLen at hl
  have HO : Hid (∀ i, i < len → OpAt w b (o + i * 6)) := hop
  have HA : Hid (0 < len → ao = some ⟨b, o, none⟩ ∧ b < w.heap.size) := hao
  have HS := hid hS
  clear hop hao hS
  go_enter Tryz.func5, Tryz.ntmps5
  go_wp2
  go_loopw [3] (fun s3 wr => ∃ k : Nat, k ≤ len ∧ s3 = .int .i64 (k : Int) ∧ Below w.heap.size w wr) (fun s3 _ => len - (intOf s3).toNat)
  case atStart => exact ⟨0, by omega, rfl, Below.refl _ _⟩
  case round =>
    obtain ⟨k, hk, rfl, hbw⟩ := hrel
    by_cases hlt : k < len
    · obtain ⟨rfl, hb⟩ := HA.out (by omega)
      obtain ⟨j, x, y, z, K, S, hS, c0, c1, c2, c3, c4, c5⟩ := HO.out k hlt
      have e0 := (hbw.cell (p := ⟨b, o + k * 6, none⟩) hb).trans c0
      have e1 := (hbw.cell (p := ⟨b, o + k * 6 + 1, none⟩) hb).trans c1
      have e2 := (hbw.cell (p := ⟨b, o + k * 6 + 2, none⟩) hb).trans c2
      have e3 := (hbw.cell (p := ⟨b, o + k * 6 + 3, none⟩) hb).trans c3
      have e4 := (hbw.cell (p := ⟨b, o + k * 6 + 4, none⟩) hb).trans c4
      have e5 := (hbw.cell (p := ⟨b, o + k * 6 + 5, none⟩) hb).trans c5
      clear c0 c1 c2 c3 c4 c5
      by_cases hj : j = 6
      · subst hj
        have CT : Hid (∀ w', Sent w' A base → Calls Tryz.prog 14 #[.agg #[.int .i64 6, x, y, z, .string K, .string S]] w' fun e w'' => e = .returned (.bool true) ∧ Below w'.heap.size w' w'') := fun w' h => textsOpen x y z K S w' h hS
        have HSr := hid (HS.out.below hbw)
        go_wp2_with (go_at_call 14; refine (CT.out _ HSr.out).mono ?_; rintro e w2 ⟨rfl, hb2⟩)
        go_roundw
        case rel => exact ⟨k + 1, by omega, by go_num, hbw.trans (hb2.mono hbw.size)⟩
        case measure => simp [intOf]; omega
      · have hjb : (j == 6) = false := beq_eq_false_iff_ne.2 hj
        clear hj
        go_wp2
        go_roundw
        case rel => exact ⟨k + 1, by omega, by go_num, hbw⟩
        case measure => simp [intOf]; omega
    · have hkz : ¬ ((k : Int) < (len : Int)) := by omega
      go_wp2
      go_ret
      exact ⟨rfl, hbw⟩
end Go.Proofs.YtaacjjhmojecnaaGreatDoor
