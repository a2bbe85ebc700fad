/- The walks of IndexFunc and DeleteFunc at rows of places, with drop's second function. -/
import Derived.Test.YtaacjjhmojecnaaGreatDoorCountAll
import Derived.Shelf.Abstract
import Derived.BigCall
namespace Go.Proofs.YtaacjjhmojecnaaGreatDoor
open Go.RowKit Go.ScT Go.Proofs Go.Shelf

set_option maxHeartbeats 400000 in
theorem clo95 (a b num : Int) (B : Nat) (w : World) (hB : w.cell? ⟨B, 0, none⟩ = some (.int .i64 num)) (hlt : B < w.heap.size) :
    Calls Tryz.prog 164 #[.agg #[.int .i64 a, .int .i64 b], .pointer (some ⟨B, 0, none⟩)] w fun e w' => e = .returned (.bool (a == num)) ∧ Below w.heap.size w w' := by
  have hB' : ∀ o, (w.alloc o).cell? ⟨B, 0, none⟩ = some (.int .i64 num) := fun o => by rw [World.cell?_of_block (Below.heap_alloc _ _ _ hlt)]; exact hB
  go_enter Tryz.func164, Tryz.ntmps164
  go_wp2
  go_ret
  exact ⟨rfl, (Below.refl _ _).alloc (Nat.le_refl _) _⟩

theorem enters95 : ∀ args w, (callFunc 164 args).run Tryz.prog w = .ok (.enter 164 args) w := enters_of Tryz.func164 (by kernel_rfl) rfl

set_option maxHeartbeats 1000000 in
set_option maxRecDepth 1000000 in
theorem index99 (ao : Option Addr) (g n cap B : Nat) (num : Int) (w : World) (hn : n ≤ 100000) (hao : 0 < n → ao = some ⟨g, 0, none⟩ ∧ g < w.heap.size) (hi : ∀ j, j < n * 2 → ∃ z, w.cell? ⟨g, j, none⟩ = some (.int .i64 z)) (hB : w.cell? ⟨B, 0, none⟩ = some (.int .i64 num)) (hlt : B < w.heap.size) :
    Calls Tryz.prog 234 #[.slice ao n cap, .func (.func 164) #[] #[.pointer (some ⟨B, 0, none⟩)]] w fun e w' => ∃ r : Int, e = .returned (.int .i64 r) ∧ (r = -1 ∨ ∃ i : Nat, r = (i : Int) ∧ i < n) ∧ Below w.heap.size w w' := by
  have HA : Hid (0 < n → ao = some ⟨g, 0, none⟩ ∧ g < w.heap.size) := hao
  have HI : Hid (∀ j, j < n * 2 → ∃ z, w.cell? ⟨g, j, none⟩ = some (.int .i64 z)) := hi
  have e95 := enters95
  clear hao hi
  go_enter Tryz.func234, Tryz.ntmps234
  go_wp2
  go_loopw [8] (fun s8 wr => ∃ k : Nat, k ≤ n ∧ s8 = .int .i64 (k : Int) ∧ Below w.heap.size w wr) (fun s8 _ => n - (intOf s8).toNat)
  case atStart => exact ⟨0, by omega, rfl, Below.refl _ _⟩
  case round =>
    obtain ⟨k, hk, rfl, hbw⟩ := hrel
    by_cases hlk : k < n
    · obtain ⟨rfl, hg⟩ := HA.out (by omega)
      obtain ⟨a, ha⟩ := HI.out (k * 2) (by omega)
      obtain ⟨b, hb⟩ := HI.out (k * 2 + 1) (by omega)
      have ha' := (hbw.cell (p := ⟨g, k * 2, none⟩) hg).trans ha
      have hb' := (hbw.cell (p := ⟨g, k * 2 + 1, none⟩) hg).trans hb
      have hBw := (hbw.cell (p := ⟨B, 0, none⟩) hlt).trans hB
      have hsz := hbw.size
      have CC : Hid (Calls Tryz.prog 164 #[.agg #[.int .i64 a, .int .i64 b], .pointer (some ⟨B, 0, none⟩)] wr fun e w' => e = .returned (.bool (a == num)) ∧ Below wr.heap.size wr w') := clo95 a b num B wr hBw (by omega)
      clear ha hb
      by_cases hab : a = num
      · have hab' : (a == num) = true := by simp [hab]
        clear hab
        go_wp2_with (go_at_fn 164; refine CC.out.mono ?_; rintro e w2 ⟨rfl, hb2⟩)
        go_ret
        exact ⟨_, rfl, Or.inr ⟨k, rfl, hlk⟩, hbw.trans (hb2.mono hbw.size)⟩
      · have hab' : (a == num) = false := by simp [hab]
        clear hab
        go_wp2_with (go_at_fn 164; refine CC.out.mono ?_; rintro e w2 ⟨rfl, hb2⟩)
        go_roundw
        case rel => exact ⟨k + 1, by omega, by go_num, hbw.trans (hb2.mono hbw.size)⟩
        case measure => simp [intOf]; omega
    · have hkz : ¬ ((k : Int) < (n : Int)) := by omega
      go_wp2
      go_ret
      exact ⟨_, rfl, Or.inl rfl, hbw⟩
end Go.Proofs.YtaacjjhmojecnaaGreatDoor
