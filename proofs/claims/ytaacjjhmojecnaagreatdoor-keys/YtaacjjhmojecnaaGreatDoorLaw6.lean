/- The walks of the law's step, of plays and of Keys. -/
import Derived.Test.YtaacjjhmojecnaaGreatDoorLaw5
namespace Go.Proofs.YtaacjjhmojecnaaGreatDoor
open Go.RowKit Go.ScT Go.Proofs Go.Shelf

theorem step_any (k c : Int) (y z : Value) (K S : List UInt8) (w : World) (B L : Nat) (v : Value) (ps : List Pr) (h : LawOk w B L v ps) (hBw : B ≤ w.heap.size) (hk5 : k ≤ 5) (hc1 : -9223372036854775808 ≤ c) (hc2 : c ≤ 9223372036854775807) (hlm : (ps.length + 1) * 16 ≤ 140737488355328) (hK : K.length ≤ maxLen) (hS : S.length ≤ maxLen) :
    Calls Tryz.prog 37 #[.pointer (some ⟨L, 0, none⟩), opV k c y z K S] w (StepDone B L ps.length w) := by
  by_cases h1 : k = 1
  · subst h1; exact step_tokens c y z K S w B L v ps h hBw hS
  by_cases h2 : k = 2
  · subst h2; exact step_new c y z K S w B L v ps h hBw hlm
  by_cases hn : ps.length = 0 ∨ k < 2
  · exact step_none k c y z K S w B L v ps h hBw hk5 h1 h2 hn
  · exact step_pair k c y z K S w B L v ps h hBw (by omega) hc1 hc2 (by omega) (by omega) hK hS

/-- One step of a script, as it lies in memory. -/
def OpIn (w : World) (b o : Nat) : Prop := ∃ (k c y z : Int) (K S : List UInt8), -9223372036854775808 ≤ c ∧ c ≤ 9223372036854775807 ∧ K.length ≤ maxLen ∧ S.length ≤ maxLen ∧
  w.cell? ⟨b, o, none⟩ = some (.int .i64 k) ∧ w.cell? ⟨b, o + 1, none⟩ = some (.int .i64 c) ∧ w.cell? ⟨b, o + 2, none⟩ = some (.int .i64 y) ∧ w.cell? ⟨b, o + 3, none⟩ = some (.int .i64 z) ∧ w.cell? ⟨b, o + 4, none⟩ = some (.string ⟨K.toArray⟩) ∧ w.cell? ⟨b, o + 5, none⟩ = some (.string ⟨S.toArray⟩)

theorem law_start (w : World) : LawOk (w.alloc (.cells #[.slice none 0 0] 61)) w.heap.size w.heap.size (.slice none 0 0) [] :=
  ⟨heap_alloc_new w _, Nat.le_refl _, World.ownsRow_nil _ _ _ _, fun i p h => by simp at h, fun i j p q h => by simp at h, fun i p h => by simp at h, fun i p g h => by simp at h⟩

set_option maxHeartbeats 2000000 in
set_option maxRecDepth 1000000 in
theorem plays_any (ao : Option Addr) (b o len cap : Nat) (w : World) (hl : (len + 2) * 16 ≤ 140737488355328) (hao : 0 < len → ao = some ⟨b, o, none⟩ ∧ b < w.heap.size) (hop : ∀ i, i < len → OpIn w b (o + i * 6)) :
    Calls Tryz.prog 15 #[.slice ao len cap, .int .i64 5, .int .i64 0] w fun e w' => e = .returned (.bool true) ∧ Below w.heap.size w w' := by
  have HO : Hid (∀ i, i < len → OpIn w b (o + i * 6)) := hop
  have HA : Hid (0 < len → ao = some ⟨b, o, none⟩ ∧ b < w.heap.size) := hao
  have C15 : Hid (Calls Tryz.prog 36 #[.pointer (some ⟨w.heap.size, 0, none⟩)] (w.alloc (.cells #[.slice none 0 0] 61)) fun en w' => en = .returned (.bool true) ∧ (∃ v' ps', LawOk w' w.heap.size w.heap.size v' ps' ∧ ps'.length = ([] : List Pr).length + 1) ∧ Below w.heap.size (w.alloc (.cells #[.slice none 0 0] 61)) w') := made_any _ w.heap.size w.heap.size _ [] (law_start w) (by simp) (by simp)
  clear hop hao
  go_enter Tryz.func15, Tryz.ntmps15
  go_wp2_with (first | (go_at_call 36; refine C15.out.mono ?_; rintro en w2 ⟨rfl, hL2, hb2⟩; have hB2 : Hid (Below w.heap.size w w2) := ((Below.refl _ w).alloc (Nat.le_refl _) _).trans hb2; have HL2 : Hid (∃ v' ps', LawOk w2 w.heap.size w.heap.size v' ps' ∧ ps'.length = ([] : List Pr).length + 1) := hL2; clear hb2 hL2) | go_in)
  go_loopw [9] (fun s9 wr => ∃ k : Nat, k ≤ len ∧ s9 = .int .i64 (k : Int) ∧ Hid (∃ v ps, LawOk wr w.heap.size w.heap.size v ps ∧ ps.length ≤ k + 1) ∧ Hid (Below w.heap.size w wr)) (fun s9 _ => len - (intOf s9).toNat)
  case atStart =>
    obtain ⟨v, ps, h1, h2⟩ := HL2.out
    exact ⟨0, by omega, rfl, ⟨v, ps, h1, by rw [h2]; simp⟩, hB2.out⟩
  case round =>
    obtain ⟨k, hk, rfl, hLr, hbw⟩ := hrel
    by_cases hlt : k < len
    · obtain ⟨rfl, hb⟩ := HA.out (by omega)
      obtain ⟨j, c, y, z, K, S, hc1, hc2, hK, hS, c0, c1, c2, c3, c4, c5⟩ := HO.out k hlt
      have e0 := (hbw.out.cell (p := ⟨b, o + k * 6, none⟩) hb).trans c0
      have e1 := (hbw.out.cell (p := ⟨b, o + k * 6 + 1, none⟩) hb).trans c1
      have e2 := (hbw.out.cell (p := ⟨b, o + k * 6 + 2, none⟩) hb).trans c2
      have e3 := (hbw.out.cell (p := ⟨b, o + k * 6 + 3, none⟩) hb).trans c3
      have e4 := (hbw.out.cell (p := ⟨b, o + k * 6 + 4, none⟩) hb).trans c4
      have e5 := (hbw.out.cell (p := ⟨b, o + k * 6 + 5, none⟩) hb).trans c5
      clear c0 c1 c2 c3 c4 c5
      have hba : Below wr.heap.size wr (wr.alloc (.cells #[.int .i64 j, .int .i64 c, .int .i64 y, .int .i64 z, .string ⟨K.toArray⟩, .string ⟨S.toArray⟩] 24)) := (Below.refl _ wr).alloc (Nat.le_refl _) _
      have hsw := hbw.out.size
      by_cases hj : 5 < j
      · have HFIN : Hid ((∃ v ps, LawOk (wr.alloc (.cells #[.int .i64 j, .int .i64 c, .int .i64 y, .int .i64 z, .string ⟨K.toArray⟩, .string ⟨S.toArray⟩] 24)) w.heap.size w.heap.size v ps ∧ ps.length ≤ k + 1 + 1) ∧ Below w.heap.size w (wr.alloc (.cells #[.int .i64 j, .int .i64 c, .int .i64 y, .int .i64 z, .string ⟨K.toArray⟩, .string ⟨S.toArray⟩] 24))) := by
          obtain ⟨v, ps, h1, h2⟩ := hLr.out
          exact ⟨⟨v, ps, h1.below hba, by omega⟩, hbw.out.trans (hba.mono hsw)⟩
        go_wp2
        go_roundw
        case rel => exact ⟨k + 1, by omega, by go_num, HFIN.out.1, HFIN.out.2⟩
        case measure => simp [intOf]; omega
      · have CS : Hid (Calls Tryz.prog 37 #[.pointer (some ⟨w.heap.size, 0, none⟩), .agg #[.int .i64 j, .int .i64 c, .int .i64 y, .int .i64 z, .string ⟨K.toArray⟩, .string ⟨S.toArray⟩]] (wr.alloc (.cells #[.int .i64 j, .int .i64 c, .int .i64 y, .int .i64 z, .string ⟨K.toArray⟩, .string ⟨S.toArray⟩] 24)) fun en w' => en = .returned (.bool true) ∧ (∃ v ps, LawOk w' w.heap.size w.heap.size v ps ∧ ps.length ≤ k + 1 + 1) ∧ Below w.heap.size w w') := by
          obtain ⟨v, ps, h1, h2⟩ := hLr.out
          refine (step_any j c (.int .i64 y) (.int .i64 z) K S _ w.heap.size w.heap.size v ps (h1.below hba) (by simp; omega) (by omega) hc1 hc2 (by omega) hK hS).mono ?_
          rintro en w' ⟨he, ⟨v', ps', h3, h4⟩, hb'⟩
          exact ⟨he, ⟨v', ps', h3, by omega⟩, (hbw.out.trans (hba.mono hsw)).trans hb'⟩
        have hj12 : (j == 12) = false := beq_eq_false_iff_ne.2 (by omega)
        clear hba
        go_wp2_with (first | (go_at_call 37; refine CS.out.mono ?_; rintro en w3 ⟨rfl, hL3, hb3⟩) | go_in)
        go_roundw
        case rel => exact ⟨k + 1, by omega, by go_num, hL3, hb3⟩
        case measure => simp [intOf]; omega
    · have hkz : ¬ ((k : Int) < (len : Int)) := by omega
      go_wp2
      go_ret
      exact ⟨rfl, hbw.out⟩

set_option maxHeartbeats 400000 in
theorem keys_any (ao : Option Addr) (b o len cap : Nat) (w : World) (hl : (len + 2) * 16 ≤ 140737488355328) (hao : 0 < len → ao = some ⟨b, o, none⟩ ∧ b < w.heap.size) (hop : ∀ i, i < len → OpIn w b (o + i * 6)) :
    Calls Tryz.prog 4 #[.slice ao len cap] w fun e w' => e = .returned (.bool true) ∧ Below w.heap.size w w' := by
  have C8 : Hid (Calls Tryz.prog 15 #[.slice ao len cap, .int .i64 5, .int .i64 0] w fun e w' => e = .returned (.bool true) ∧ Below w.heap.size w w') := plays_any ao b o len cap w hl hao hop
  clear hao hop
  go_enter Tryz.func4, Tryz.ntmps4
  go_wp2_with (go_at_call 15; refine C8.out.mono ?_; rintro en w2 ⟨rfl, hb2⟩)
  go_ret
  exact ⟨rfl, hb2⟩
end Go.Proofs.YtaacjjhmojecnaaGreatDoor
