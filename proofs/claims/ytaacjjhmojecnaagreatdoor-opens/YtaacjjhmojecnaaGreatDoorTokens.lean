/- The walk of scout.Tokens. -/
import Derived.Test.YtaacjjhmojecnaaGreatDoorSplit
import Derived.Test.YtaacjjhmojecnaaGreatDoorPlain2
namespace Go.Proofs.YtaacjjhmojecnaaGreatDoor
open Go.RowKit Go.ScT Go.Proofs Go.Shelf

def told (L : List UInt8) : List UInt8 := Lib.join (toks L) [32]

set_option maxHeartbeats 400000 in
theorem tokens_long (s : ByteArray) (w : World) (hs : 200 < s.size) (hm : s.size ≤ maxLen) :
    Calls Tryz.prog 31 #[.string s] w fun e w' => e = .returned (.tuple #[.string ⟨#[]⟩, .int .i64 2]) ∧ w' = w := by
  unfold maxLen at hm
  go_enter Tryz.func31, Tryz.ntmps31
  go_wp2
  go_ret2
  exact ⟨rfl, rfl⟩

theorem join_owned (ts : List (List UInt8)) (v : Value) (w : World) (B : Nat) (h : w.ownsRow B 9 1 v ts.length (ts.map strV)) (hl : (Lib.join ts [32]).length ≤ 1000000) (hn : ts.length ≤ 1000000) :
    Calls Tryz.prog 56 #[v, .string ⟨#[32]⟩] w fun e w' => e = .returned (.string ⟨(Lib.join ts [32]).toArray⟩) ∧ Below w.heap.size w w' := by
  rcases h.2 with ⟨rfl, h0⟩ | ⟨g, cap, cur, rfl, hg, hb, h1, h2, h3, h4⟩
  · have : ts = [] := List.length_eq_zero_iff.1 h0
    subst this
    refine (Tryz.strings_Join_none none 0 ⟨#[32]⟩ w).mono fun e w' ⟨he, hw⟩ => ⟨he, hw ▸ Below.refl _ _⟩
  · have hc := Tryz.strings_Join g 0 cap (ts.map fun t => ⟨t.toArray⟩) ⟨#[32]⟩ w (fun j x hj => by
        rw [List.getElem?_map] at hj
        obtain ⟨t, ht, rfl⟩ := Option.map_eq_some_iff.1 hj
        have hlt := (List.getElem?_eq_some_iff.1 ht).1
        rw [Nat.zero_add, h.cellAt j (by omega), List.getElem?_map, ht]
        rfl) ((h.lt g rfl).2) (by simp; omega) (by simpa using h1) (by simp [Function.comp_def]; omega)
    have e1 : (ts.map fun t => (⟨t.toArray⟩ : ByteArray)).map (·.data.toList) = ts := by simp [Function.comp_def]
    have e2 : (ts.map fun t => (⟨t.toArray⟩ : ByteArray)).length = ts.length := by simp
    rw [e1, e2] at hc
    exact hc

set_option maxHeartbeats 400000 in
theorem tokens_ok (s : ByteArray) (w : World) (hs : s.size ≤ 200) :
    Calls Tryz.prog 31 #[.string s] w fun e w' => e = .returned (.tuple #[.string ⟨(told s.data.toList).toArray⟩, .int .i64 0]) ∧ Below w.heap.size w w' := by
  have hj := toks_join_le s.data.toList
  have hn := toks_len_le s.data.toList
  have hsz : s.data.toList.length = s.size := by simp
  rw [hsz] at hj hn
  have HJ : Hid ((Lib.join (toks s.data.toList) [32]).length ≤ 1000000 ∧ (toks s.data.toList).length ≤ 1000000) := ⟨by omega, by omega⟩
  clear hj hn hsz
  go_enter Tryz.func31, Tryz.ntmps31
  go_wp2_with (first
    | (go_at_call 54; refine (split_any _ _ (by omega)).mono ?_; rintro e w1 ⟨v, rfl, hown, hb1⟩)
    | (go_at_call 56; refine (join_owned _ _ _ _ hown HJ.out.1 HJ.out.2).mono ?_; rintro e w2 ⟨rfl, hb2⟩))
  go_ret2
  exact ⟨rfl, hb1.trans (hb2.mono hb1.size)⟩
end Go.Proofs.YtaacjjhmojecnaaGreatDoor
