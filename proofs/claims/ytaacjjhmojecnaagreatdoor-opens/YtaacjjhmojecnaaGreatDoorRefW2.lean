/- The document's writer: the check, the width. -/
import Derived.Test.YtaacjjhmojecnaaGreatDoorRefB
namespace Go.ScT
theorem foldl_snoc {α β : Type} (f : α → β → α) (i : α) (a : List β) (b : β) : (a ++ [b]).foldl f i = f (a.foldl f i) b := by simp
theorem take_snoc {α : Type} {l : List α} {k : Nat} {b : α} (h : l[k]? = some b) : l.take (k + 1) = l.take k ++ [b] := by rw [List.take_add_one, h]; rfl
theorem fnv_take {l : Bs} {k : Nat} {b : UInt8} (h : l[k]? = some b) : fnv (l.take (k + 1)) = (fnv (l.take k) ^^^ b.toNat) * 16777619 % 4294967296 := by
  rw [take_snoc h]
  exact foldl_snoc _ _ _ _
theorem fnv_lt : ∀ (l : Bs), fnv l < 4294967296 := by
  intro l
  unfold fnv
  have : ∀ (l : Bs) (h : Nat), h < 4294967296 → l.foldl (fun h b => (h ^^^ b.toNat) * 16777619 % 4294967296) h < 4294967296 := by
    intro l
    induction l with
    | nil => intro h hh; exact hh
    | cons b r ih => intro h hh; exact ih _ (Nat.mod_lt _ (by omega))
  exact this l _ (by omega)
end Go.ScT
namespace Go.Proofs.YtaacjjhmojecnaaGreatDoor
open Go.RowKit Go.ScT Go.Proofs

theorem xor_u32 (a b : Nat) (ha : a < 4294967296) (hb : b < 4294967296) : bits .xor .u32 (a : Int) (b : Int) = ((a ^^^ b : Nat) : Int) := by
  have hx : a ^^^ b < 2 ^ 32 := Nat.xor_lt_two_pow (by omega) (by omega)
  have h1 : (BitVec.ofInt 32 (a : Int)).toNat = a := by
    rw [BitVec.ofInt_natCast, BitVec.toNat_ofNat]; exact Nat.mod_eq_of_lt (by omega)
  have h2 : (BitVec.ofInt 32 (b : Int)).toNat = b := by
    rw [BitVec.ofInt_natCast, BitVec.toNat_ofNat]; exact Nat.mod_eq_of_lt (by omega)
  show IntKind.u32.wrap ((BitVec.ofInt 32 (a : Int) ^^^ BitVec.ofInt 32 (b : Int)).toNat : Int) = _
  rw [BitVec.toNat_xor, h1, h2, IntKind.wrap_u32]
  omega
set_option maxHeartbeats 400000 in
set_option maxRecDepth 100000 in
theorem b1_big (n : Nat) (hn : n < 1000000000000) (w : World) : Calls Tryz.prog 110 #[.int .i64 (n : Int)] w fun e w' => e = .returned (lstV [byt n]) ∧ Below w.heap.size w w' := by
  have hc := fun w => conv_one ((n : Int) % 256) (byt n) (by rw [byt_toNat]; omega) w
  go_enter Tryz.func110, Tryz.ntmps110
  go_wp2
  go_ret
  exact ⟨rfl, (Below.refl _ w).alloc (Nat.le_refl _) _⟩

set_option maxHeartbeats 1000000 in
set_option maxRecDepth 1000000 in
/-- Check: as chk. -/
theorem checkR_any (s : ByteArray) (w : World) (hs : s.size ≤ 100000000) : Calls Tryz.prog 114 #[.string s] w fun e w' => e = .returned (lstV (chk s.data.toList)) ∧ Below w.heap.size w w' := by
  have C : Hid (∀ (z : Int) (w : World), 0 ≤ z → z < 1000000000000 → Calls Tryz.prog 110 #[.int .i64 z] w fun e w' => e = .returned (lstV [byt z.toNat]) ∧ Below w.heap.size w w') := fun z w h0 h1 => by
    have := b1_big z.toNat (by omega) w
    rw [show ((z.toNat : Nat) : Int) = z by omega] at this
    exact this
  have hsz : s.data.toList.length = s.size := by simp
  go_enter Tryz.func114, Tryz.ntmps114
  go_wp2
  go_loopw [3, 4] (fun s3 s4 wr => ∃ (k h : Nat), s4 = .int .i64 (k : Int) ∧ s3 = .int .u32 (h : Int) ∧ k ≤ s.size ∧ h < 4294967296 ∧ wr = w ∧ Hid (fnv (s.data.toList.take k) = h)) (fun _ s4 _ => s.size - (intOf s4).toNat)
  case atStart => exact ⟨0, 2166136261, rfl, rfl, by omega, by omega, rfl, rfl⟩
  case round =>
    obtain ⟨k, h, rfl, rfl, hk, hh, rfl, HH⟩ := hrel
    by_cases hlt : k < s.size
    · have hlti : (k : Int) < (s.size : Int) := by omega
      go_wp2
      go_roundw
      case rel =>
        have hb := s[k].toNat_lt
        have hx : s.data.toList[k]? = some s[k] := by rw [List.getElem?_eq_getElem (by omega)]; rfl
        have e1 : ((s[k].toNat : Int) % 4294967296) = ((s[k].toNat : Nat) : Int) := by omega
        have hxl : h ^^^ s[k].toNat < 2 ^ 32 := Nat.xor_lt_two_pow (by omega) (by omega)
        refine ⟨k + 1, (h ^^^ s[k].toNat) * 16777619 % 4294967296, by go_num, ?_, by omega, Nat.mod_lt _ (by omega), trivial, hid ?_⟩
        · rw [e1, xor_u32 _ _ hh (by omega)]
          simp
        · rw [fnv_take hx, HH.out]
      case measure => simp [intOf]; omega
    · have hlti : ¬ ((k : Int) < (s.size : Int)) := by omega
      have HE : Hid (chk s.data.toList = leB 4 h) := show _ = _ by rw [← HH.out, List.take_of_length_le (by omega)]; rfl
      go_wp2_with (first
        | (go_at_call 110; refine (C.out _ _ (by omega) (by omega)).mono ?_; first | (have _h3 := hb3; rintro e w4 ⟨rfl, hb4⟩) | (have _h2 := hb2; rintro e w3 ⟨rfl, hb3⟩) | (have _h1 := hb1; rintro e w2 ⟨rfl, hb2⟩) | (rintro e w1 ⟨rfl, hb1⟩)))
      go_ret
      rw [HE.out]
      refine ⟨?_, ((hb1.trans (hb2.mono hb1.size)).trans (hb3.mono (Nat.le_trans hb1.size hb2.size))).trans (hb4.mono (Nat.le_trans (Nat.le_trans hb1.size hb2.size) hb3.size))⟩
      have e4 : leB 4 h = [byt h, byt (h / 256), byt (h / 65536), byt (h / 16777216)] := by
        simp only [leB, Nat.div_div_eq_div_mul]
      rw [e4]
      exact ret_str (a := [byt h, byt (h / 256), byt (h / 65536), byt (h / 16777216)]) rfl
end Go.Proofs.YtaacjjhmojecnaaGreatDoor
