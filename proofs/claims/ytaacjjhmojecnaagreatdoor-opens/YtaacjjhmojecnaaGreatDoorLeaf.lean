/- The walks of the small functions of package tokens. -/
import Derived.Test.YtaacjjhmojecnaaGreatDoorRows
import Derived.Test.YtaacjjhmojecnaaGreatDoorPlain
import Derived.WalkKit
import Derived.WalkSpells
import Derived.WalkLawsBesides
import Derived.BigQuiet
namespace Go.Proofs.YtaacjjhmojecnaaGreatDoor
open Go.RowKit Go.ScT

theorem isLetR_eq (x : Nat) (b : Bool) (h : ((48 ≤ x ∧ x ≤ 57) ∨ (65 ≤ x ∧ x ≤ 90) ∨ (97 ≤ x ∧ x ≤ 122) ∨ (192 ≤ x ∧ x ≤ 255 ∧ x ≠ 215 ∧ x ≠ 247)) ↔ b = true) : isLetR x = b := by
  unfold isLetR
  cases b with
  | true => exact decide_eq_true (h.2 rfl)
  | false => exact decide_eq_false (fun e => by have := h.1 e; simp at this)

theorem ret_bool {a b : Bool} (h : a = b) : Ending.returned (.bool b) = .returned (.bool a) := by rw [h]

set_option maxHeartbeats 400000 in
theorem isLetter_any (x : Nat) (w : World) :
    Calls Tryz.prog 177 #[.int .i32 (x : Int)] w fun e w' => e = .returned (.bool (isLetR x)) ∧ w' = w := by
  obtain ⟨z, hz⟩ : ∃ z : Int, z = (x : Int) := ⟨_, rfl⟩
  have hz0 : 0 ≤ z := by omega
  rw [← hz]
  have cs : z ≤ 47 ∨ (48 ≤ z ∧ z ≤ 57) ∨ (58 ≤ z ∧ z ≤ 64) ∨ (65 ≤ z ∧ z ≤ 90) ∨ (91 ≤ z ∧ z ≤ 96) ∨ (97 ≤ z ∧ z ≤ 122) ∨ (123 ≤ z ∧ z ≤ 191) ∨ (192 ≤ z ∧ z ≤ 214) ∨ (215 ≤ z ∧ z ≤ 215) ∨ (216 ≤ z ∧ z ≤ 246) ∨ (247 ≤ z ∧ z ≤ 247) ∨ (248 ≤ z ∧ z ≤ 255) ∨ 256 ≤ z := by omega
  rcases cs with c1 | ⟨c1, c2⟩ | ⟨c1, c2⟩ | ⟨c1, c2⟩ | ⟨c1, c2⟩ | ⟨c1, c2⟩ | ⟨c1, c2⟩ | ⟨c1, c2⟩ | ⟨c1, c2⟩ | ⟨c1, c2⟩ | ⟨c1, c2⟩ | ⟨c1, c2⟩ | c1
  · have H : Hid (isLetR x = false) := isLetR_eq x false (by simp; omega)
    clear hz
    go_enter Tryz.func177, Tryz.ntmps177
    go_wp2
    go_ret
    exact ⟨ret_bool H.out, rfl⟩
  · have H : Hid (isLetR x = true) := isLetR_eq x true (by simp; omega)
    clear hz
    go_enter Tryz.func177, Tryz.ntmps177
    go_wp2
    go_ret
    exact ⟨ret_bool H.out, rfl⟩
  · have H : Hid (isLetR x = false) := isLetR_eq x false (by simp; omega)
    clear hz
    go_enter Tryz.func177, Tryz.ntmps177
    go_wp2
    go_ret
    exact ⟨ret_bool H.out, rfl⟩
  · have H : Hid (isLetR x = true) := isLetR_eq x true (by simp; omega)
    clear hz
    go_enter Tryz.func177, Tryz.ntmps177
    go_wp2
    go_ret
    exact ⟨ret_bool H.out, rfl⟩
  · have H : Hid (isLetR x = false) := isLetR_eq x false (by simp; omega)
    clear hz
    go_enter Tryz.func177, Tryz.ntmps177
    go_wp2
    go_ret
    exact ⟨ret_bool H.out, rfl⟩
  · have H : Hid (isLetR x = true) := isLetR_eq x true (by simp; omega)
    clear hz
    go_enter Tryz.func177, Tryz.ntmps177
    go_wp2
    go_ret
    exact ⟨ret_bool H.out, rfl⟩
  · have H : Hid (isLetR x = false) := isLetR_eq x false (by simp; omega)
    clear hz
    go_enter Tryz.func177, Tryz.ntmps177
    go_wp2
    go_ret
    exact ⟨ret_bool H.out, rfl⟩
  · have H : Hid (isLetR x = true) := isLetR_eq x true (by simp; omega)
    clear hz
    go_enter Tryz.func177, Tryz.ntmps177
    go_wp2
    go_ret
    exact ⟨ret_bool (H.out.trans (by symm; simp; omega)), rfl⟩
  · have H : Hid (isLetR x = false) := isLetR_eq x false (by simp; omega)
    obtain rfl : z = 215 := by omega
    clear hz
    go_enter Tryz.func177, Tryz.ntmps177
    go_wp2
    go_ret
    exact ⟨ret_bool H.out, rfl⟩
  · have H : Hid (isLetR x = true) := isLetR_eq x true (by simp; omega)
    clear hz
    go_enter Tryz.func177, Tryz.ntmps177
    go_wp2
    go_ret
    exact ⟨ret_bool (H.out.trans (by symm; simp; omega)), rfl⟩
  · have H : Hid (isLetR x = false) := isLetR_eq x false (by simp; omega)
    obtain rfl : z = 247 := by omega
    clear hz
    go_enter Tryz.func177, Tryz.ntmps177
    go_wp2
    go_ret
    exact ⟨ret_bool H.out, rfl⟩
  · have H : Hid (isLetR x = true) := isLetR_eq x true (by simp; omega)
    clear hz
    go_enter Tryz.func177, Tryz.ntmps177
    go_wp2
    go_ret
    exact ⟨ret_bool (H.out.trans (by symm; simp; omega)), rfl⟩
  · have H : Hid (isLetR x = false) := isLetR_eq x false (by simp; omega)
    clear hz
    go_enter Tryz.func177, Tryz.ntmps177
    go_wp2
    go_ret
    exact ⟨ret_bool H.out, rfl⟩

set_option maxHeartbeats 400000 in
theorem isNoLetter_any (x : Nat) (w : World) :
    Calls Tryz.prog 95 #[.int .i32 (x : Int)] w fun e w' => e = .returned (.bool (noLetR x)) ∧ w' = w := by
  go_enter Tryz.func95, Tryz.ntmps95
  go_wp2_with (go_at_call 177; refine (isLetter_any _ _).mono ?_; rintro e w' ⟨rfl, rfl⟩)
  go_ret
  exact ⟨rfl, rfl⟩
end Go.Proofs.YtaacjjhmojecnaaGreatDoor
