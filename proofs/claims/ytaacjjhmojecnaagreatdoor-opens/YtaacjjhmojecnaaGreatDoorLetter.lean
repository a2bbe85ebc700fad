/- The walk of the reference's letter: the small form of the letter that begins at a place, and how many bytes it has. -/
import Derived.Test.YtaacjjhmojecnaaGreatDoorRows
import Derived.Test.YtaacjjhmojecnaaGreatDoorPlain
import Derived.WalkKit
import Derived.WalkSpells
import Derived.WalkLawsBesides
import Derived.BigQuiet
namespace Go.Proofs.YtaacjjhmojecnaaGreatDoor
open Go.RowKit Go.ScT

theorem conv_one (z : Int) (x : UInt8) (hz : (x.toNat : Int) = z) (w : World) : (convert 51 9 (.slice (some ⟨w.heap.size, 0, none⟩) 1 1)).run Tryz.prog (w.alloc (.cells #[.int .u8 z] 5)) = .ok (.string ⟨#[x]⟩) (w.alloc (.cells #[.int .u8 z] 5)) := by
  subst hz
  refine run_convert_bytes_back (P := Tryz.prog) (w.alloc (.cells #[.int .u8 (x.toNat : Int)] 5)) 51 9 5 ⟨w.heap.size, 0, none⟩ 1 [x] Tryz.underlying51 Tryz.underlying5 Tryz.underlying9 ?_
  intro j hj
  obtain rfl : j = 0 := by simp at hj; omega
  exact cell_one_new w (.int .u8 (x.toNat : Int)) 5 0 _ rfl
theorem conv_two (z u : Int) (x y : UInt8) (hz : (x.toNat : Int) = z) (hu : (y.toNat : Int) = u) (w : World) : (convert 51 9 (.slice (some ⟨w.heap.size, 0, none⟩) 2 2)).run Tryz.prog (w.alloc (.cells #[.int .u8 z, .int .u8 u] 5)) = .ok (.string ⟨#[x, y]⟩) (w.alloc (.cells #[.int .u8 z, .int .u8 u] 5)) := by
  subst hz
  subst hu
  refine run_convert_bytes_back (P := Tryz.prog) (w.alloc (.cells #[.int .u8 (x.toNat : Int), .int .u8 (y.toNat : Int)] 5)) 51 9 5 ⟨w.heap.size, 0, none⟩ 2 [x, y] Tryz.underlying51 Tryz.underlying5 Tryz.underlying9 ?_
  intro j hj
  have : j = 0 ∨ j = 1 := by simp at hj; omega
  rcases this with rfl | rfl <;> simp [Addr.add]

theorem ret_two {a b : ByteArray} {k m : Int} (h : a = b) (h2 : k = m) : Ending.returned (.tuple #[.string a, .int .i64 k]) = .returned (.tuple #[.string b, .int .i64 m]) := by rw [h, h2]
theorem add32 (x : UInt8) (h : x.toNat ≤ 190) : ((x + 32).toNat : Int) = (x.toNat : Int) + 32 := by
  simp [UInt8.toNat_add]
  omega
theorem ext_one (s : ByteArray) (n : Nat) (h : n < s.size) : s.extract n (n + 1) = ⟨#[s[n]]⟩ := by
  apply ByteArray.ext
  have : (s.extract n (n + 1)).data.toList = [s[n]] := by
    rw [Lib.extract_data, List.drop_eq_getElem_cons (by simpa using h)]
    simp
    rfl
  apply Array.toList_inj.1
  rw [this]

set_option maxHeartbeats 400000 in
set_option maxRecDepth 100000 in
theorem letter_d (s : ByteArray) (n : Nat) (w : World) (hn : n < s.size) (hs : s.size ≤ 1000000) (h1 : 48 ≤ s[n].toNat) (h2 : s[n].toNat ≤ 57) :
    Calls Tryz.prog 101 #[.string s, .int .i64 (n : Int)] w fun e w' => e = .returned (.tuple #[.string ⟨#[s[n]]⟩, .int .i64 1]) ∧ Below w.heap.size w w' := by
  have H : Hid (s.extract n (n + 1) = ⟨#[s[n]]⟩) := ext_one s n hn
  go_enter Tryz.func101, Tryz.ntmps101
  go_wp2
  go_ret2
  exact ⟨ret_two H.out rfl, Below.refl _ _⟩

set_option maxHeartbeats 400000 in
set_option maxRecDepth 100000 in
theorem letter_l (s : ByteArray) (n : Nat) (w : World) (hn : n < s.size) (hs : s.size ≤ 1000000) (h1 : 97 ≤ s[n].toNat) (h2 : s[n].toNat ≤ 122) :
    Calls Tryz.prog 101 #[.string s, .int .i64 (n : Int)] w fun e w' => e = .returned (.tuple #[.string ⟨#[s[n]]⟩, .int .i64 1]) ∧ Below w.heap.size w w' := by
  have H : Hid (s.extract n (n + 1) = ⟨#[s[n]]⟩) := ext_one s n hn
  go_enter Tryz.func101, Tryz.ntmps101
  go_wp2
  go_ret2
  exact ⟨ret_two H.out rfl, Below.refl _ _⟩

set_option maxHeartbeats 400000 in
set_option maxRecDepth 100000 in
theorem letter_u (s : ByteArray) (n : Nat) (w : World) (hn : n < s.size) (_hs : s.size ≤ 1000000) (h1 : 65 ≤ s[n].toNat) (h2 : s[n].toNat ≤ 90) :
    Calls Tryz.prog 101 #[.string s, .int .i64 (n : Int)] w fun e w' => e = .returned (.tuple #[.string ⟨#[s[n] + 32]⟩, .int .i64 1]) ∧ Below w.heap.size w w' := by
  have hcv := conv_one ((s[n].toNat : Int) + 32) (s[n] + 32) (add32 _ (by omega)) w
  go_enter Tryz.func101, Tryz.ntmps101
  go_wp2
  go_ret2
  exact ⟨rfl, (Below.refl _ _).alloc (Nat.le_refl _) _⟩

set_option maxHeartbeats 400000 in
set_option maxRecDepth 100000 in
theorem letter_n0 (s : ByteArray) (n : Nat) (w : World) (hn : n < s.size) (_hs : s.size ≤ 1000000) (h1 : s[n].toNat < 48) :
    Calls Tryz.prog 101 #[.string s, .int .i64 (n : Int)] w fun e w' => e = .returned (.tuple #[.string ⟨#[]⟩, .int .i64 1]) ∧ Below w.heap.size w w' := by
  go_enter Tryz.func101, Tryz.ntmps101
  go_wp2
  go_ret2
  exact ⟨rfl, Below.refl _ _⟩

set_option maxHeartbeats 400000 in
set_option maxRecDepth 100000 in
theorem letter_n1 (s : ByteArray) (n : Nat) (w : World) (hn : n < s.size) (_hs : s.size ≤ 1000000) (h1 : 57 < s[n].toNat) (h2 : s[n].toNat < 65) :
    Calls Tryz.prog 101 #[.string s, .int .i64 (n : Int)] w fun e w' => e = .returned (.tuple #[.string ⟨#[]⟩, .int .i64 1]) ∧ Below w.heap.size w w' := by
  go_enter Tryz.func101, Tryz.ntmps101
  go_wp2
  go_ret2
  exact ⟨rfl, Below.refl _ _⟩

set_option maxHeartbeats 400000 in
set_option maxRecDepth 100000 in
theorem letter_n2 (s : ByteArray) (n : Nat) (w : World) (hn : n < s.size) (_hs : s.size ≤ 1000000) (h1 : 90 < s[n].toNat) (h2 : s[n].toNat < 97) :
    Calls Tryz.prog 101 #[.string s, .int .i64 (n : Int)] w fun e w' => e = .returned (.tuple #[.string ⟨#[]⟩, .int .i64 1]) ∧ Below w.heap.size w w' := by
  go_enter Tryz.func101, Tryz.ntmps101
  go_wp2
  go_ret2
  exact ⟨rfl, Below.refl _ _⟩

set_option maxHeartbeats 400000 in
set_option maxRecDepth 100000 in
theorem letter_n3 (s : ByteArray) (n : Nat) (w : World) (hn : n < s.size) (_hs : s.size ≤ 1000000) (h1 : 122 < s[n].toNat) (h2 : s[n].toNat < 195) :
    Calls Tryz.prog 101 #[.string s, .int .i64 (n : Int)] w fun e w' => e = .returned (.tuple #[.string ⟨#[]⟩, .int .i64 1]) ∧ Below w.heap.size w w' := by
  go_enter Tryz.func101, Tryz.ntmps101
  go_wp2
  go_ret2
  exact ⟨rfl, Below.refl _ _⟩

set_option maxHeartbeats 400000 in
set_option maxRecDepth 100000 in
theorem letter_n4 (s : ByteArray) (n : Nat) (w : World) (hn : n < s.size) (_hs : s.size ≤ 1000000) (h1 : 195 < s[n].toNat) :
    Calls Tryz.prog 101 #[.string s, .int .i64 (n : Int)] w fun e w' => e = .returned (.tuple #[.string ⟨#[]⟩, .int .i64 1]) ∧ Below w.heap.size w w' := by
  go_enter Tryz.func101, Tryz.ntmps101
  go_wp2
  go_ret2
  exact ⟨rfl, Below.refl _ _⟩

set_option maxHeartbeats 400000 in
set_option maxRecDepth 100000 in
theorem letter_e (s : ByteArray) (n : Nat) (w : World) (hn : n < s.size) (hs : s.size ≤ 1000000) (h1 : s[n] = 195) (h2 : n + 1 = s.size) :
    Calls Tryz.prog 101 #[.string s, .int .i64 (n : Int)] w fun e w' => e = .returned (.tuple #[.string ⟨#[]⟩, .int .i64 1]) ∧ Below w.heap.size w w' := by
  have h3 : (s[n].toNat : Int) = 195 := by rw [h1]; rfl
  have h4 : ((n : Int) + 1 == (s.size : Int)) = true := by simp; omega
  clear h1 h2
  go_enter Tryz.func101, Tryz.ntmps101
  go_wp2
  go_ret2
  exact ⟨rfl, Below.refl _ _⟩

set_option maxHeartbeats 400000 in
set_option maxRecDepth 100000 in
theorem letter_c0 (s : ByteArray) (n : Nat) (w : World) (hn : n < s.size) (hs : s.size ≤ 1000000) (h1 : s[n] = 195) (h2 : n + 1 < s.size) (h5 : s[n + 1].toNat < 128) :
    Calls Tryz.prog 101 #[.string s, .int .i64 (n : Int)] w fun e w' => e = .returned (.tuple #[.string ⟨#[]⟩, .int .i64 1]) ∧ Below w.heap.size w w' := by
  have h3 : (s[n].toNat : Int) = 195 := by rw [h1]; rfl
  have h4 : ((n : Int) + 1 == (s.size : Int)) = false := by simp; omega
  clear h1
  go_enter Tryz.func101, Tryz.ntmps101
  go_wp2
  go_ret2
  exact ⟨rfl, Below.refl _ _⟩

set_option maxHeartbeats 400000 in
set_option maxRecDepth 100000 in
theorem letter_c1 (s : ByteArray) (n : Nat) (w : World) (hn : n < s.size) (hs : s.size ≤ 1000000) (h1 : s[n] = 195) (h2 : n + 1 < s.size) (h5 : 191 < s[n + 1].toNat) :
    Calls Tryz.prog 101 #[.string s, .int .i64 (n : Int)] w fun e w' => e = .returned (.tuple #[.string ⟨#[]⟩, .int .i64 1]) ∧ Below w.heap.size w w' := by
  have h3 : (s[n].toNat : Int) = 195 := by rw [h1]; rfl
  have h4 : ((n : Int) + 1 == (s.size : Int)) = false := by simp; omega
  clear h1
  go_enter Tryz.func101, Tryz.ntmps101
  go_wp2
  go_ret2
  exact ⟨rfl, Below.refl _ _⟩

set_option maxHeartbeats 400000 in
set_option maxRecDepth 100000 in
theorem letter_c2 (s : ByteArray) (n : Nat) (w : World) (hn : n < s.size) (hs : s.size ≤ 1000000) (h1 : s[n] = 195) (h2 : n + 1 < s.size) (h5 : s[n + 1].toNat = 151) :
    Calls Tryz.prog 101 #[.string s, .int .i64 (n : Int)] w fun e w' => e = .returned (.tuple #[.string ⟨#[]⟩, .int .i64 1]) ∧ Below w.heap.size w w' := by
  have h3 : (s[n].toNat : Int) = 195 := by rw [h1]; rfl
  have h4 : ((n : Int) + 1 == (s.size : Int)) = false := by simp; omega
  clear h1
  go_enter Tryz.func101, Tryz.ntmps101
  go_wp2
  go_ret2
  exact ⟨rfl, Below.refl _ _⟩

set_option maxHeartbeats 400000 in
set_option maxRecDepth 100000 in
theorem letter_c3 (s : ByteArray) (n : Nat) (w : World) (hn : n < s.size) (hs : s.size ≤ 1000000) (h1 : s[n] = 195) (h2 : n + 1 < s.size) (h5 : s[n + 1].toNat = 183) :
    Calls Tryz.prog 101 #[.string s, .int .i64 (n : Int)] w fun e w' => e = .returned (.tuple #[.string ⟨#[]⟩, .int .i64 1]) ∧ Below w.heap.size w w' := by
  have h3 : (s[n].toNat : Int) = 195 := by rw [h1]; rfl
  have h4 : ((n : Int) + 1 == (s.size : Int)) = false := by simp; omega
  clear h1
  go_enter Tryz.func101, Tryz.ntmps101
  go_wp2
  go_ret2
  exact ⟨rfl, Below.refl _ _⟩

set_option maxHeartbeats 400000 in
set_option maxRecDepth 100000 in
theorem letter_k0 (s : ByteArray) (n : Nat) (w : World) (hn : n < s.size) (hs : s.size ≤ 1000000) (h1 : s[n] = 195) (h2 : n + 1 < s.size) (h5 : 128 ≤ s[n + 1].toNat) (h6 : s[n + 1].toNat < 151) :
    Calls Tryz.prog 101 #[.string s, .int .i64 (n : Int)] w fun e w' => e = .returned (.tuple #[.string ⟨#[195, s[n + 1] + 32]⟩, .int .i64 2]) ∧ Below w.heap.size w w' := by
  have hcv := conv_two 195 ((s[n + 1].toNat : Int) + 32) 195 (s[n + 1] + 32) rfl (add32 _ (by omega)) w
  have h3 : (s[n].toNat : Int) = 195 := by rw [h1]; rfl
  have h4 : ((n : Int) + 1 == (s.size : Int)) = false := by simp; omega
  clear h1
  have h7 : ((s[n + 1].toNat : Int) == 151) = false := beq_eq_false_iff_ne.2 (by omega)
  have h8 : ((s[n + 1].toNat : Int) == 183) = false := beq_eq_false_iff_ne.2 (by omega)
  go_enter Tryz.func101, Tryz.ntmps101
  go_wp2
  go_ret2
  exact ⟨rfl, (Below.refl _ _).alloc (Nat.le_refl _) _⟩

set_option maxHeartbeats 400000 in
set_option maxRecDepth 100000 in
theorem letter_k1 (s : ByteArray) (n : Nat) (w : World) (hn : n < s.size) (hs : s.size ≤ 1000000) (h1 : s[n] = 195) (h2 : n + 1 < s.size) (h5 : 151 < s[n + 1].toNat) (h6 : s[n + 1].toNat ≤ 158) :
    Calls Tryz.prog 101 #[.string s, .int .i64 (n : Int)] w fun e w' => e = .returned (.tuple #[.string ⟨#[195, s[n + 1] + 32]⟩, .int .i64 2]) ∧ Below w.heap.size w w' := by
  have hcv := conv_two 195 ((s[n + 1].toNat : Int) + 32) 195 (s[n + 1] + 32) rfl (add32 _ (by omega)) w
  have h3 : (s[n].toNat : Int) = 195 := by rw [h1]; rfl
  have h4 : ((n : Int) + 1 == (s.size : Int)) = false := by simp; omega
  clear h1
  have h7 : ((s[n + 1].toNat : Int) == 151) = false := beq_eq_false_iff_ne.2 (by omega)
  have h8 : ((s[n + 1].toNat : Int) == 183) = false := beq_eq_false_iff_ne.2 (by omega)
  go_enter Tryz.func101, Tryz.ntmps101
  go_wp2
  go_ret2
  exact ⟨rfl, (Below.refl _ _).alloc (Nat.le_refl _) _⟩

set_option maxHeartbeats 400000 in
set_option maxRecDepth 100000 in
theorem letter_k2 (s : ByteArray) (n : Nat) (w : World) (hn : n < s.size) (hs : s.size ≤ 1000000) (h1 : s[n] = 195) (h2 : n + 1 < s.size) (h5 : 158 < s[n + 1].toNat) (h6 : s[n + 1].toNat < 183) :
    Calls Tryz.prog 101 #[.string s, .int .i64 (n : Int)] w fun e w' => e = .returned (.tuple #[.string ⟨#[195, s[n + 1]]⟩, .int .i64 2]) ∧ Below w.heap.size w w' := by
  have hcv := conv_two 195 (s[n + 1].toNat : Int) 195 s[n + 1] rfl rfl w
  have h3 : (s[n].toNat : Int) = 195 := by rw [h1]; rfl
  have h4 : ((n : Int) + 1 == (s.size : Int)) = false := by simp; omega
  clear h1
  have h7 : ((s[n + 1].toNat : Int) == 151) = false := beq_eq_false_iff_ne.2 (by omega)
  have h8 : ((s[n + 1].toNat : Int) == 183) = false := beq_eq_false_iff_ne.2 (by omega)
  go_enter Tryz.func101, Tryz.ntmps101
  go_wp2
  go_ret2
  exact ⟨rfl, (Below.refl _ _).alloc (Nat.le_refl _) _⟩

set_option maxHeartbeats 400000 in
set_option maxRecDepth 100000 in
theorem letter_k3 (s : ByteArray) (n : Nat) (w : World) (hn : n < s.size) (hs : s.size ≤ 1000000) (h1 : s[n] = 195) (h2 : n + 1 < s.size) (h5 : 183 < s[n + 1].toNat) (h6 : s[n + 1].toNat ≤ 191) :
    Calls Tryz.prog 101 #[.string s, .int .i64 (n : Int)] w fun e w' => e = .returned (.tuple #[.string ⟨#[195, s[n + 1]]⟩, .int .i64 2]) ∧ Below w.heap.size w w' := by
  have hcv := conv_two 195 (s[n + 1].toNat : Int) 195 s[n + 1] rfl rfl w
  have h3 : (s[n].toNat : Int) = 195 := by rw [h1]; rfl
  have h4 : ((n : Int) + 1 == (s.size : Int)) = false := by simp; omega
  clear h1
  have h7 : ((s[n + 1].toNat : Int) == 151) = false := beq_eq_false_iff_ne.2 (by omega)
  have h8 : ((s[n + 1].toNat : Int) == 183) = false := beq_eq_false_iff_ne.2 (by omega)
  go_enter Tryz.func101, Tryz.ntmps101
  go_wp2
  go_ret2
  exact ⟨rfl, (Below.refl _ _).alloc (Nat.le_refl _) _⟩
end Go.Proofs.YtaacjjhmojecnaaGreatDoor
