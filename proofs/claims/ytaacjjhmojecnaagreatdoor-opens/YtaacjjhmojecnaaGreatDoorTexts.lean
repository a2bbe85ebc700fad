/- The walk of the law's step Tokens: the program's answer is the reference's. -/
import Derived.Test.YtaacjjhmojecnaaGreatDoorRefTokens
import Derived.Deep.QuietTactic
namespace Go.Proofs.YtaacjjhmojecnaaGreatDoor
open Go.RowKit Go.ScT Go.Proofs

set_option maxHeartbeats 400000 in
theorem num_any (x : Int) (w : World) : Calls Tryz.prog 34 #[.int .i64 x] w fun e w' => e = .returned (.int .i64 x) ∧ w' = w := by
  go_enter Tryz.func34, Tryz.ntmps34
  go_wp2
  go_ret
  exact ⟨rfl, rfl⟩

set_option maxHeartbeats 1000000 in
theorem texts_ok (a b c : Value) (K S : ByteArray) (w : World) (hS : S.size ≤ 200) :
    Calls Tryz.prog 14 #[.agg #[.int .i64 1, a, b, c, .string K, .string S]] w fun e w' => e = .returned (.bool true) ∧ Below w.heap.size w w' := by
  obtain ⟨t, ht⟩ : ∃ t, told S.data.toList = t := ⟨_, rfl⟩
  have cP : ∀ w, Calls Tryz.prog 31 #[.string S] w fun e w' => e = .returned (.tuple #[.string ⟨t.toArray⟩, .int .i64 0]) ∧ Below w.heap.size w w' := fun w => ht ▸ tokens_ok S w hS
  have cR : ∀ w, Calls Tryz.prog 33 #[.string S] w fun e w' => e = .returned (.tuple #[.string ⟨t.toArray⟩, .int .i64 0]) ∧ Below w.heap.size w w' := fun w => ht ▸ refTokens_ok S w hS
  have CP : Hid (∀ w, Calls Tryz.prog 31 #[.string S] w fun e w' => e = .returned (.tuple #[.string ⟨t.toArray⟩, .int .i64 0]) ∧ Below w.heap.size w w') := cP
  have CR : Hid (∀ w, Calls Tryz.prog 33 #[.string S] w fun e w' => e = .returned (.tuple #[.string ⟨t.toArray⟩, .int .i64 0]) ∧ Below w.heap.size w w') := cR
  clear cP cR ht
  go_enter Tryz.func14, Tryz.ntmps14
  go_wp2_with fail
  refine (CP.out _).mono ?_
  rintro e w1 ⟨rfl, hb1⟩
  have hc5 := hb1.cell (p := ⟨w.heap.size, 5, none⟩) (by simp)
  simp at hc5
  go_wp2_with fail
  refine (CR.out _).mono ?_
  rintro e w2 ⟨rfl, hb2⟩
  go_wp2
  go_ret
  exact ⟨rfl, (((Below.refl _ _).alloc (Nat.le_refl _) _).trans (hb1.mono (by simp))).trans (hb2.mono (Nat.le_trans (by simp) hb1.size))⟩

set_option maxHeartbeats 1000000 in
theorem texts_long (a b c : Value) (K S : ByteArray) (w : World) (hS : 200 < S.size) (hm : S.size ≤ maxLen) :
    Calls Tryz.prog 14 #[.agg #[.int .i64 1, a, b, c, .string K, .string S]] w fun e w' => e = .returned (.bool true) ∧ Below w.heap.size w w' := by
  have CP : Hid (∀ w, Calls Tryz.prog 31 #[.string S] w fun e w' => e = .returned (.tuple #[.string ⟨#[]⟩, .int .i64 2]) ∧ w' = w) := fun w => tokens_long S w hS hm
  have CR : Hid (∀ w, Calls Tryz.prog 33 #[.string S] w fun e w' => e = .returned (.tuple #[.string ⟨#[]⟩, .int .i64 2]) ∧ w' = w) := fun w => refTokens_long S w hS hm
  go_enter Tryz.func14, Tryz.ntmps14
  go_wp2_with fail
  refine (CP.out _).mono ?_
  rintro e w1 ⟨rfl, hw1⟩
  rw [hw1]
  clear hw1 w1
  go_wp2_with fail
  refine (CR.out _).mono ?_
  rintro e w2 ⟨rfl, hw2⟩
  rw [hw2]
  clear hw2 w2
  go_wp2
  go_ret
  exact ⟨rfl, (Below.refl _ _).alloc (Nat.le_refl _) _⟩

theorem texts_any (a b c : Value) (K S : ByteArray) (w : World) (hm : S.size ≤ maxLen) :
    Calls Tryz.prog 14 #[.agg #[.int .i64 1, a, b, c, .string K, .string S]] w fun e w' => e = .returned (.bool true) ∧ Below w.heap.size w w' := by
  by_cases h : S.size ≤ 200
  · exact texts_ok a b c K S w h
  · exact texts_long a b c K S w (by omega) hm

/-- One step of a script, as it lies in memory. -/
def OpAt (w : World) (b o : Nat) : Prop := ∃ (k : Int) (x y z : Value) (K S : ByteArray), S.size ≤ maxLen ∧
  w.cell? ⟨b, o, none⟩ = some (.int .i64 k) ∧ w.cell? ⟨b, o + 1, none⟩ = some x ∧ w.cell? ⟨b, o + 2, none⟩ = some y ∧ w.cell? ⟨b, o + 3, none⟩ = some z ∧ w.cell? ⟨b, o + 4, none⟩ = some (.string K) ∧ w.cell? ⟨b, o + 5, none⟩ = some (.string S)

set_option maxHeartbeats 1000000 in
set_option maxRecDepth 1000000 in
theorem words_any (ao : Option Addr) (b o len cap : Nat) (w : World) (hl : len ≤ maxLen) (hao : 0 < len → ao = some ⟨b, o, none⟩ ∧ b < w.heap.size) (hop : ∀ i, i < len → OpAt w b (o + i * 6)) :
    Calls Tryz.prog 3 #[.slice ao len cap] w fun e w' => e = .returned (.bool true) ∧ Below w.heap.size w w' := by
  unfold maxLen at hl
  have HO : Hid (∀ i, i < len → OpAt w b (o + i * 6)) := hop
  have HA : Hid (0 < len → ao = some ⟨b, o, none⟩ ∧ b < w.heap.size) := hao
  clear hop hao
  go_enter Tryz.func3, Tryz.ntmps3
  go_wp2
  go_loopw [3] (fun s3 wr => ∃ k : Nat, k ≤ len ∧ s3 = .int .i64 (k : Int) ∧ Below w.heap.size w wr) (fun s3 _ => len - (intOf s3).toNat)
  case atStart => exact ⟨0, by omega, rfl, Below.refl _ _⟩
  case round =>
    obtain ⟨k, hk, rfl, hbw⟩ := hrel
    by_cases hlt : k < len
    · obtain ⟨rfl, hb⟩ := HA.out (by omega)
      obtain ⟨j, x, y, z, K, S, hS, c0, c1, c2, c3, c4, c5⟩ := HO.out k hlt
      have e0 := (hbw.cell (p := ⟨b, o + k * 6, none⟩) hb).trans c0
      have e1 := (hbw.cell (p := ⟨b, o + k * 6 + 1, none⟩) hb).trans c1
      have e2 := (hbw.cell (p := ⟨b, o + k * 6 + 2, none⟩) hb).trans c2
      have e3 := (hbw.cell (p := ⟨b, o + k * 6 + 3, none⟩) hb).trans c3
      have e4 := (hbw.cell (p := ⟨b, o + k * 6 + 4, none⟩) hb).trans c4
      have e5 := (hbw.cell (p := ⟨b, o + k * 6 + 5, none⟩) hb).trans c5
      clear c0 c1 c2 c3 c4 c5
      by_cases hj : j = 1
      · subst hj
        have CT : Hid (∀ w, Calls Tryz.prog 14 #[.agg #[.int .i64 1, x, y, z, .string K, .string S]] w fun e w' => e = .returned (.bool true) ∧ Below w.heap.size w w') := fun w => texts_any x y z K S w hS
        go_wp2_with (go_at_call 14; refine (CT.out _).mono ?_; rintro e w2 ⟨rfl, hb2⟩)
        go_roundw
        case rel => exact ⟨k + 1, by omega, by go_num, hbw.trans (hb2.mono hbw.size)⟩
        case measure => simp [intOf]; omega
      · have hjb : (j == 1) = false := beq_eq_false_iff_ne.2 hj
        clear hj
        go_wp2
        go_roundw
        case rel => exact ⟨k + 1, by omega, by go_num, hbw⟩
        case measure => simp [intOf]; omega
    · have hkz : ¬ ((k : Int) < (len : Int)) := by omega
      go_wp2
      go_ret
      exact ⟨rfl, hbw⟩
end Go.Proofs.YtaacjjhmojecnaaGreatDoor
