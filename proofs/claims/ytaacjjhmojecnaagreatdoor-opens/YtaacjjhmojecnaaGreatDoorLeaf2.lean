/- The walks of the small functions: the small form, the words that are none. -/
import Derived.Test.YtaacjjhmojecnaaGreatDoorRows
import Derived.Test.YtaacjjhmojecnaaGreatDoorPlain
import Derived.WalkKit
import Derived.WalkSpells
import Derived.WalkLawsBesides
import Derived.BigQuiet
namespace Go.Proofs.YtaacjjhmojecnaaGreatDoor
open Go.RowKit Go.ScT

theorem ret_i32 {a b : Int} (h : a = b) : Ending.returned (.int .i32 b) = .returned (.int .i32 a) := by rw [h]

set_option maxHeartbeats 400000 in
theorem small_any (x : Nat) (hx : x ≤ 1114111) (w : World) :
    Calls Tryz.prog 179 #[.int .i32 (x : Int)] w fun e w' => e = .returned (.int .i32 (smR x : Int)) ∧ w' = w := by
  obtain ⟨z, hz⟩ : ∃ z : Int, z = (x : Int) := ⟨_, rfl⟩
  have hz0 : 0 ≤ z := by omega
  have hz1 : z ≤ 1114111 := by omega
  rw [← hz]
  have cs : z ≤ 64 ∨ (65 ≤ z ∧ z ≤ 90) ∨ (91 ≤ z ∧ z ≤ 191) ∨ (192 ≤ z ∧ z ≤ 222) ∨ 223 ≤ z := by omega
  rcases cs with c1 | ⟨c1, c2⟩ | ⟨c1, c2⟩ | ⟨c1, c2⟩ | c1
  · have H : Hid ((smR x : Int) = z) := by unfold smR; rw [if_neg (by omega)]; exact hz.symm
    clear hz
    go_enter Tryz.func179, Tryz.ntmps179
    go_wp2
    go_ret
    exact ⟨ret_i32 H.out, rfl⟩
  · have H : Hid ((smR x : Int) = z + 32) := by unfold smR; rw [if_pos (by omega)]; rw [hz]; rfl
    clear hz
    go_enter Tryz.func179, Tryz.ntmps179
    go_wp2
    go_ret
    exact ⟨ret_i32 H.out, rfl⟩
  · have H : Hid ((smR x : Int) = z) := by unfold smR; rw [if_neg (by omega)]; exact hz.symm
    clear hz
    go_enter Tryz.func179, Tryz.ntmps179
    go_wp2
    go_ret
    exact ⟨ret_i32 H.out, rfl⟩
  · have H : Hid ((smR x : Int) = z + 32) := by unfold smR; rw [if_pos (by omega)]; rw [hz]; rfl
    clear hz
    go_enter Tryz.func179, Tryz.ntmps179
    go_wp2
    go_ret
    exact ⟨ret_i32 H.out, rfl⟩
  · have H : Hid ((smR x : Int) = z) := by unfold smR; rw [if_neg (by omega)]; exact hz.symm
    clear hz
    go_enter Tryz.func179, Tryz.ntmps179
    go_wp2
    go_ret
    exact ⟨ret_i32 H.out, rfl⟩

theorem ret_boolB {a b : Bool} (h : a = b) : Ending.returned (.bool b) = .returned (.bool a) := by rw [h]

set_option maxHeartbeats 400000 in
theorem isCommon_any (t : List UInt8) (w : World) :
    Calls Tryz.prog 97 #[.string ⟨t.toArray⟩] w fun e w' => e = .returned (.bool (comB t)) ∧ w' = w := by
  by_cases c0 : t = [97]
  · subst c0
    go_enter Tryz.func97, Tryz.ntmps97
    go_wp2
    go_ret
    exact ⟨rfl, rfl⟩
  by_cases c1 : t = [97, 110]
  · subst c1
    go_enter Tryz.func97, Tryz.ntmps97
    go_wp2
    go_ret
    exact ⟨rfl, rfl⟩
  by_cases c2 : t = [97, 110, 100]
  · subst c2
    go_enter Tryz.func97, Tryz.ntmps97
    go_wp2
    go_ret
    exact ⟨rfl, rfl⟩
  by_cases c3 : t = [105, 110]
  · subst c3
    go_enter Tryz.func97, Tryz.ntmps97
    go_wp2
    go_ret
    exact ⟨rfl, rfl⟩
  by_cases c4 : t = [105, 115]
  · subst c4
    go_enter Tryz.func97, Tryz.ntmps97
    go_wp2
    go_ret
    exact ⟨rfl, rfl⟩
  by_cases c5 : t = [111, 102]
  · subst c5
    go_enter Tryz.func97, Tryz.ntmps97
    go_wp2
    go_ret
    exact ⟨rfl, rfl⟩
  by_cases c6 : t = [116, 104, 101]
  · subst c6
    go_enter Tryz.func97, Tryz.ntmps97
    go_wp2
    go_ret
    exact ⟨rfl, rfl⟩
  by_cases c7 : t = [116, 111]
  · subst c7
    go_enter Tryz.func97, Tryz.ntmps97
    go_wp2
    go_ret
    exact ⟨rfl, rfl⟩
  have d0 : (t == [97]) = false := beq_eq_false_iff_ne.2 c0
  have d1 : (t == [97, 110]) = false := beq_eq_false_iff_ne.2 c1
  have d2 : (t == [97, 110, 100]) = false := beq_eq_false_iff_ne.2 c2
  have d3 : (t == [105, 110]) = false := beq_eq_false_iff_ne.2 c3
  have d4 : (t == [105, 115]) = false := beq_eq_false_iff_ne.2 c4
  have d5 : (t == [111, 102]) = false := beq_eq_false_iff_ne.2 c5
  have d6 : (t == [116, 104, 101]) = false := beq_eq_false_iff_ne.2 c6
  have d7 : (t == [116, 111]) = false := beq_eq_false_iff_ne.2 c7
  have H : Hid (comB t = false) := show _ = _ by simp [comB, comL, c0, c1, c2, c3, c4, c5, c6, c7]
  clear c0 c1 c2 c3 c4 c5 c6 c7
  go_enter Tryz.func97, Tryz.ntmps97
  go_wp2
  go_ret
  exact ⟨ret_boolB H.out, rfl⟩

set_option maxHeartbeats 400000 in
theorem stops_any (t : List UInt8) (w : World) :
    Calls Tryz.prog 102 #[.string ⟨t.toArray⟩] w fun e w' => e = .returned (.bool (stopB t)) ∧ w' = w := by
  by_cases c0 : t = []
  · subst c0
    go_enter Tryz.func102, Tryz.ntmps102
    go_wp2
    go_ret
    exact ⟨rfl, rfl⟩
  by_cases c1 : t = [97]
  · subst c1
    go_enter Tryz.func102, Tryz.ntmps102
    go_wp2
    go_ret
    exact ⟨rfl, rfl⟩
  by_cases c2 : t = [97, 110]
  · subst c2
    go_enter Tryz.func102, Tryz.ntmps102
    go_wp2
    go_ret
    exact ⟨rfl, rfl⟩
  by_cases c3 : t = [97, 110, 100]
  · subst c3
    go_enter Tryz.func102, Tryz.ntmps102
    go_wp2
    go_ret
    exact ⟨rfl, rfl⟩
  by_cases c4 : t = [105, 110]
  · subst c4
    go_enter Tryz.func102, Tryz.ntmps102
    go_wp2
    go_ret
    exact ⟨rfl, rfl⟩
  by_cases c5 : t = [105, 115]
  · subst c5
    go_enter Tryz.func102, Tryz.ntmps102
    go_wp2
    go_ret
    exact ⟨rfl, rfl⟩
  by_cases c6 : t = [111, 102]
  · subst c6
    go_enter Tryz.func102, Tryz.ntmps102
    go_wp2
    go_ret
    exact ⟨rfl, rfl⟩
  by_cases c7 : t = [116, 104, 101]
  · subst c7
    go_enter Tryz.func102, Tryz.ntmps102
    go_wp2
    go_ret
    exact ⟨rfl, rfl⟩
  by_cases c8 : t = [116, 111]
  · subst c8
    go_enter Tryz.func102, Tryz.ntmps102
    go_wp2
    go_ret
    exact ⟨rfl, rfl⟩
  have d0 : (t == []) = false := beq_eq_false_iff_ne.2 c0
  have d1 : (t == [97]) = false := beq_eq_false_iff_ne.2 c1
  have d2 : (t == [97, 110]) = false := beq_eq_false_iff_ne.2 c2
  have d3 : (t == [97, 110, 100]) = false := beq_eq_false_iff_ne.2 c3
  have d4 : (t == [105, 110]) = false := beq_eq_false_iff_ne.2 c4
  have d5 : (t == [105, 115]) = false := beq_eq_false_iff_ne.2 c5
  have d6 : (t == [111, 102]) = false := beq_eq_false_iff_ne.2 c6
  have d7 : (t == [116, 104, 101]) = false := beq_eq_false_iff_ne.2 c7
  have d8 : (t == [116, 111]) = false := beq_eq_false_iff_ne.2 c8
  have H : Hid (stopB t = false) := show _ = _ by simp [stopB, comB, comL, c0, c1, c2, c3, c4, c5, c6, c7, c8]
  clear c0 c1 c2 c3 c4 c5 c6 c7 c8
  go_enter Tryz.func102, Tryz.ntmps102
  go_wp2
  go_ret
  exact ⟨ret_boolB H.out, rfl⟩

end Go.Proofs.YtaacjjhmojecnaaGreatDoor
