/- The walks of isKey: the program's and the reference's. -/
import Derived.Test.YtaacjjhmojecnaaGreatDoorRows
import Derived.Test.YtaacjjhmojecnaaGreatDoorPlain
import Derived.WalkKit
import Derived.WalkSpells
import Derived.WalkLawsBesides
import Derived.BigQuiet
import Derived.Lib.ConvBytes
namespace Go.ScT
def keyB (b : UInt8) : Bool := (97 ≤ b && b ≤ 122) || (48 ≤ b && b ≤ 57)
def keyOk (l : List UInt8) : Bool := decide (1 ≤ l.length) && decide (l.length ≤ 8) && l.all keyB
theorem keyB_iff (b : UInt8) : keyB b = true ↔ ((97 ≤ b.toNat ∧ b.toNat ≤ 122) ∨ (48 ≤ b.toNat ∧ b.toNat ≤ 57)) := by
  simp [keyB, UInt8.le_iff_toNat_le]
end Go.ScT
namespace Go.Proofs.YtaacjjhmojecnaaGreatDoor
open Go.RowKit Go.ScT

theorem ret_boolK {a b : Bool} (h : a = b) : Ending.returned (.bool b) = .returned (.bool a) := by rw [h]

set_option maxHeartbeats 400000 in
theorem isKeyByte_any (b : UInt8) (w : World) :
    Calls Tryz.prog 82 #[.int .u8 (b.toNat : Int)] w fun e w' => e = .returned (.bool (keyB b)) ∧ w' = w := by
  obtain ⟨z, hz⟩ : ∃ z : Int, z = (b.toNat : Int) := ⟨_, rfl⟩
  have hlt : b.toNat < 256 := UInt8.toNat_lt _
  have hz0 : 0 ≤ z := by omega
  have hz1 : z < 256 := by omega
  rw [← hz]
  have fin : ∀ v : Bool, (((97 ≤ b.toNat ∧ b.toNat ≤ 122) ∨ (48 ≤ b.toNat ∧ b.toNat ≤ 57)) ↔ v = true) → keyB b = v := by
    intro v h
    rw [← keyB_iff] at h
    cases v <;> simpa using h
  have cs : z ≤ 47 ∨ (48 ≤ z ∧ z ≤ 57) ∨ (58 ≤ z ∧ z ≤ 96) ∨ (97 ≤ z ∧ z ≤ 122) ∨ 123 ≤ z := by omega
  rcases cs with c1 | ⟨c1, c2⟩ | ⟨c1, c2⟩ | ⟨c1, c2⟩ | c1
  · have H : Hid (keyB b = false) := fin false (by simp; omega)
    clear hz fin
    go_enter Tryz.func82, Tryz.ntmps82
    go_wp2
    go_ret
    exact ⟨ret_boolK H.out, rfl⟩
  · have H : Hid (keyB b = true) := fin true (by simp; omega)
    clear hz fin
    go_enter Tryz.func82, Tryz.ntmps82
    go_wp2
    go_ret
    exact ⟨ret_boolK H.out, rfl⟩
  · have H : Hid (keyB b = false) := fin false (by simp; omega)
    clear hz fin
    go_enter Tryz.func82, Tryz.ntmps82
    go_wp2
    go_ret
    exact ⟨ret_boolK (H.out.trans (by symm; simp; omega)), rfl⟩
  · have H : Hid (keyB b = true) := fin true (by simp; omega)
    clear hz fin
    go_enter Tryz.func82, Tryz.ntmps82
    go_wp2
    go_ret
    exact ⟨ret_boolK H.out, rfl⟩
  · have H : Hid (keyB b = false) := fin false (by simp; omega)
    clear hz fin
    go_enter Tryz.func82, Tryz.ntmps82
    go_wp2
    go_ret
    exact ⟨ret_boolK (H.out.trans (by symm; simp; omega)), rfl⟩

set_option maxHeartbeats 400000 in
theorem isKey_no (s : ByteArray) (w : World) (hm : s.size ≤ maxLen) (h : s.size < 1 ∨ 8 < s.size) :
    Calls Tryz.prog 46 #[.string s] w fun e w' => e = .returned (.bool false) ∧ w' = w := by
  unfold maxLen at hm
  rcases h with h | h
  · go_enter Tryz.func46, Tryz.ntmps46
    go_wp2
    go_ret
    exact ⟨rfl, rfl⟩
  · go_enter Tryz.func46, Tryz.ntmps46
    go_wp2
    go_ret
    exact ⟨rfl, rfl⟩

theorem all_drop (l : List UInt8) (k : Nat) (b : UInt8) (h : l[k]? = some b) : (l.drop k).all keyB = (keyB b && (l.drop (k + 1)).all keyB) := by
  obtain ⟨h1, h2⟩ := List.getElem?_eq_some_iff.1 h
  rw [List.drop_eq_getElem_cons h1, h2]
  rfl

set_option maxHeartbeats 1000000 in
set_option maxRecDepth 1000000 in
theorem isKey_yes (s : ByteArray) (w : World) (h1 : 1 ≤ s.size) (h8 : s.size ≤ 8) :
    Calls Tryz.prog 46 #[.string s] w fun e w' => e = .returned (.bool (s.data.toList.all keyB)) ∧ Below w.heap.size w w' := by
  obtain ⟨T, hT⟩ : ∃ T, s.data.toList.all keyB = T := ⟨_, rfl⟩
  have HT : Hid (s.data.toList.all keyB = T) := hT
  rw [hT]
  clear hT
  have hcv := Lib.run_convert_string_bytes (P := Tryz.prog) w 9 51 5 s Tryz.underlying9 Tryz.underlying51 Tryz.underlying5
  have HC : Hid (∀ j, j < s.size → (Lib.bytesWorld w 5 s).cell? ⟨w.heap.size, j, none⟩ = some (.int .u8 (s.data.toList.getD j 0).toNat)) := fun j hj => Lib.bytesWorld_cell w 5 s j hj
  have HB : Hid (Below w.heap.size w (Lib.bytesWorld w 5 s)) := ⟨rfl, rfl, rfl, by rw [Lib.bytesWorld_size]; omega, fun j hj => Lib.bytesWorld_at_old w 5 s j hj⟩
  generalize Lib.bytesWorld w 5 s = w1 at hcv HC HB
  generalize grownCap w s.size 0 5 = cap at hcv
  go_enter Tryz.func46, Tryz.ntmps46
  go_wp2
  go_loopw [16] (fun s16 wr => ∃ k : Nat, k ≤ s.size ∧ s16 = .int .i64 (k : Int) ∧ Hid ((s.data.toList.drop k).all keyB = T) ∧ wr = w1) (fun s16 _ => s.size - (intOf s16).toNat)
  case atStart => exact ⟨0, by omega, rfl, HT, rfl⟩
  case round =>
    obtain ⟨k, hk, rfl, HK, rfl⟩ := hrel
    by_cases hlt : k < s.size
    · have hc := HC.out k hlt
      obtain ⟨b, hb⟩ : ∃ b, s.data.toList[k]? = some b := ⟨_, List.getElem?_eq_getElem (by simpa using hlt)⟩
      have hbd : s.data.toList.getD k 0 = b := by simp [List.getD, hb]
      rw [hbd] at hc
      have HA : Hid ((s.data.toList.drop k).all keyB = (keyB b && (s.data.toList.drop (k + 1)).all keyB)) := all_drop _ k b hb
      clear hb hbd
      by_cases hkb : keyB b = true
      · go_wp2_with (go_at_call 82; refine (isKeyByte_any _ _).mono ?_; rintro e w' ⟨rfl, hw⟩; rw [hw]; clear hw w')
        go_roundw
        case rel => exact ⟨k + 1, by omega, by go_num, by show _ = _; rw [← HK.out, HA.out, hkb]; rfl, by first | rfl | trivial⟩
        case measure => simp [intOf]; omega
      · have hkf : keyB b = false := by simpa using hkb
        clear hkb
        have HF : Hid (T = false) := show _ = _ by rw [← HK.out, HA.out, hkf]; rfl
        go_wp2_with (go_at_call 82; refine (isKeyByte_any _ _).mono ?_; rintro e w' ⟨rfl, hw⟩; rw [hw]; clear hw w')
        go_ret
        exact ⟨ret_boolK HF.out, HB.out⟩
    · have HF : Hid (T = true) := show _ = _ by
        rw [← HK.out, List.drop_of_length_le (by simp; omega)]; rfl
      have hkz : ¬ ((k : Int) < (s.size : Int)) := by omega
      go_wp2
      go_ret
      exact ⟨ret_boolK HF.out, HB.out⟩

theorem isKey_any (s : ByteArray) (w : World) (hm : s.size ≤ maxLen) :
    Calls Tryz.prog 46 #[.string s] w fun e w' => e = .returned (.bool (keyOk s.data.toList)) ∧ Below w.heap.size w w' := by
  have hsz : s.data.toList.length = s.size := by simp
  by_cases h : s.size < 1 ∨ 8 < s.size
  · have : keyOk s.data.toList = false := by
      unfold keyOk
      rw [hsz]
      rcases h with h | h
      · have : decide (1 ≤ s.size) = false := decide_eq_false (by omega)
        rw [this]; rfl
      · have : decide (s.size ≤ 8) = false := decide_eq_false (by omega)
        rw [this]; simp
    rw [this]
    exact (isKey_no s w hm h).mono fun e w' ⟨he, hw⟩ => ⟨he, hw ▸ Below.refl _ _⟩
  · have : keyOk s.data.toList = s.data.toList.all keyB := by
      unfold keyOk
      rw [hsz, decide_eq_true (by omega : 1 ≤ s.size), decide_eq_true (by omega : s.size ≤ 8)]
      rfl
    rw [this]
    exact isKey_yes s w (by omega) (by omega)

/-! ### the reference's -/
set_option maxHeartbeats 400000 in
theorem refIsKey_no (s : ByteArray) (w : World) (hm : s.size ≤ maxLen) (h : s.size < 1 ∨ 8 < s.size) :
    Calls Tryz.prog 107 #[.string s] w fun e w' => e = .returned (.bool false) ∧ w' = w := by
  unfold maxLen at hm
  rcases h with h | h
  · go_enter Tryz.func107, Tryz.ntmps107
    go_wp2
    go_ret
    exact ⟨rfl, rfl⟩
  · go_enter Tryz.func107, Tryz.ntmps107
    go_wp2
    go_ret
    exact ⟨rfl, rfl⟩

set_option maxHeartbeats 1000000 in
set_option maxRecDepth 1000000 in
theorem refIsKey_yes (s : ByteArray) (w : World) (h1 : 1 ≤ s.size) (h8 : s.size ≤ 8) :
    Calls Tryz.prog 107 #[.string s] w fun e w' => e = .returned (.bool (s.data.toList.all keyB)) ∧ w' = w := by
  obtain ⟨T, hT⟩ : ∃ T, s.data.toList.all keyB = T := ⟨_, rfl⟩
  have HT : Hid (s.data.toList.all keyB = T) := hT
  rw [hT]
  clear hT
  go_enter Tryz.func107, Tryz.ntmps107
  go_wp2
  go_loop [3] (fun s3 => ∃ k : Nat, k ≤ s.size ∧ s3 = .int .i64 (k : Int) ∧ Hid ((s.data.toList.drop k).all keyB = T)) (fun s3 => s.size - (intOf s3).toNat)
  case atStart => exact ⟨0, by omega, rfl, HT⟩
  case round =>
    obtain ⟨k, hk, rfl, HK⟩ := hrel
    by_cases hlt : k < s.size
    · have hb : s.data.toList[k]? = some s[k] := by rw [List.getElem?_eq_getElem (by simpa using hlt)]; rfl
      have HA : Hid ((s.data.toList.drop k).all keyB = (keyB s[k] && (s.data.toList.drop (k + 1)).all keyB)) := all_drop _ k _ hb
      clear hb
      have hl := UInt8.toNat_lt s[k]
      have hkk := keyB_iff s[k]
      have cs : s[k].toNat ≤ 47 ∨ (48 ≤ s[k].toNat ∧ s[k].toNat ≤ 57) ∨ (58 ≤ s[k].toNat ∧ s[k].toNat ≤ 96) ∨ (97 ≤ s[k].toNat ∧ s[k].toNat ≤ 122) ∨ 123 ≤ s[k].toNat := by omega
      have no : ¬ ((97 ≤ s[k].toNat ∧ s[k].toNat ≤ 122) ∨ (48 ≤ s[k].toNat ∧ s[k].toNat ≤ 57)) → Hid (T = false) := by
        intro hn
        have : keyB s[k] = false := by rw [← hkk] at hn; simpa using hn
        show _ = _
        rw [← HK.out, HA.out, this]; rfl
      have yes : ((97 ≤ s[k].toNat ∧ s[k].toNat ≤ 122) ∨ (48 ≤ s[k].toNat ∧ s[k].toNat ≤ 57)) → Hid ((s.data.toList.drop (k + 1)).all keyB = T) := by
        intro hn
        have : keyB s[k] = true := hkk.2 hn
        show _ = _
        rw [← HK.out, HA.out, this]; rfl
      clear hkk HA HK
      rcases cs with c1 | ⟨c1, c2⟩ | ⟨c1, c2⟩ | ⟨c1, c2⟩ | c1
      · have HF := no (by omega)
        clear no yes
        have d57 : decide ((s[k].toNat : Int) ≤ 57) = true := by simp; omega
        have d122 : decide ((s[k].toNat : Int) ≤ 122) = true := by simp; omega
        go_wp2
        go_ret
        exact ⟨ret_boolK HF.out, rfl⟩
      · have HF := yes (by omega)
        clear no yes
        have d57 : decide ((s[k].toNat : Int) ≤ 57) = true := by simp; omega
        have d122 : decide ((s[k].toNat : Int) ≤ 122) = true := by simp; omega
        go_wp2
        go_round
        case rel => exact ⟨k + 1, by omega, by go_num, HF⟩
        case measure => simp [intOf]; omega
      · have HF := no (by omega)
        clear no yes
        have d57 : decide ((s[k].toNat : Int) ≤ 57) = false := by simp; omega
        have d122 : decide ((s[k].toNat : Int) ≤ 122) = true := by simp; omega
        go_wp2
        go_ret
        exact ⟨ret_boolK HF.out, rfl⟩
      · have HF := yes (by omega)
        clear no yes
        have d57 : decide ((s[k].toNat : Int) ≤ 57) = false := by simp; omega
        have d122 : decide ((s[k].toNat : Int) ≤ 122) = true := by simp; omega
        go_wp2
        go_round
        case rel => exact ⟨k + 1, by omega, by go_num, HF⟩
        case measure => simp [intOf]; omega
      · have HF := no (by omega)
        clear no yes
        have d57 : decide ((s[k].toNat : Int) ≤ 57) = false := by simp; omega
        have d122 : decide ((s[k].toNat : Int) ≤ 122) = false := by simp; omega
        go_wp2
        go_ret
        exact ⟨ret_boolK HF.out, rfl⟩
    · have HF : Hid (T = true) := show _ = _ by
        rw [← HK.out, List.drop_of_length_le (by simp; omega)]; rfl
      have hkz : ¬ ((k : Int) < (s.size : Int)) := by omega
      go_wp2
      go_ret
      exact ⟨ret_boolK HF.out, rfl⟩

theorem refIsKey_any (s : ByteArray) (w : World) (hm : s.size ≤ maxLen) :
    Calls Tryz.prog 107 #[.string s] w fun e w' => e = .returned (.bool (keyOk s.data.toList)) ∧ w' = w := by
  have hsz : s.data.toList.length = s.size := by simp
  by_cases h : s.size < 1 ∨ 8 < s.size
  · have : keyOk s.data.toList = false := by
      unfold keyOk
      rw [hsz]
      rcases h with h | h
      · have : decide (1 ≤ s.size) = false := decide_eq_false (by omega)
        rw [this]; rfl
      · have : decide (s.size ≤ 8) = false := decide_eq_false (by omega)
        rw [this]; simp
    rw [this]
    exact refIsKey_no s w hm h
  · have : keyOk s.data.toList = s.data.toList.all keyB := by
      unfold keyOk
      rw [hsz, decide_eq_true (by omega : 1 ≤ s.size), decide_eq_true (by omega : s.size ≤ 8)]
      rfl
    rw [this]
    exact refIsKey_yes s w (by omega) (by omega)
end Go.Proofs.YtaacjjhmojecnaaGreatDoor
