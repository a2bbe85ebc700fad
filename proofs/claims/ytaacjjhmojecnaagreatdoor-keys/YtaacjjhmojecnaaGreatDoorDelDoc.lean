/- Rows of documents, and the walks of IndexFunc and DeleteFunc at them. -/
import Derived.Test.YtaacjjhmojecnaaGreatDoorDelPl2
namespace Go.Proofs.YtaacjjhmojecnaaGreatDoor
open Go.RowKit Go.ScT Go.Proofs Go.Shelf

/-- Block g is a row of c documents; the first t of them are documents. -/
structure DocRow (w : World) (g c t : Nat) : Prop where
  lt : g < w.heap.size
  there : ∀ j, j < c * 3 → (w.cell? ⟨g, j, none⟩).isSome = true
  free : ∀ j, w.frozen? ⟨g, j, none⟩ = false
  docs : ∀ j, j < t → ∃ a s b, w.cell? ⟨g, j * 3, none⟩ = some (.int .i64 a) ∧ w.cell? ⟨g, j * 3 + 1, none⟩ = some (.string s) ∧ w.cell? ⟨g, j * 3 + 2, none⟩ = some (.int .i64 b)
  le : t ≤ c
  cap : c ≤ maxLen

theorem DocRow.turned {w w' : World} {Z : Nat → Prop} {g c t : Nat} (h : DocRow w g c t) (ht : Turned Z w w') (hz : ¬ Z g) : DocRow w' g c t := by
  have hb := ht.block g h.lt hz
  have hc : ∀ j, w'.cell? ⟨g, j, none⟩ = w.cell? ⟨g, j, none⟩ := fun j => World.cell?_of_block (w := w) hb
  have hf : ∀ j, w'.frozen? ⟨g, j, none⟩ = w.frozen? ⟨g, j, none⟩ := fun j => World.frozen?_of_block (w := w) hb
  exact ⟨Nat.lt_of_lt_of_le h.lt ht.size, fun j hj => by rw [hc]; exact h.there j hj, fun j => by rw [hf]; exact h.free j, fun j hj => by rw [hc, hc, hc]; exact h.docs j hj, h.le, h.cap⟩
theorem DocRow.below {w w' : World} {g c t : Nat} (h : DocRow w g c t) (hb : Below w.heap.size w w') : DocRow w' g c t := h.turned (Z := fun _ => False) (Turned.ofBelow hb) (fun h => h)

/-- A document is laid into a place of the row. -/
theorem DocRow.setDoc {w : World} {g c t : Nat} (h : DocRow w g c t) (i : Nat) (hi : i < c) (a b : Int) (s : ByteArray) :
    DocRow (((w.setCell ⟨g, i * 3, none⟩ (.int .i64 a)).setCell ⟨g, i * 3 + 1, none⟩ (.string s)).setCell ⟨g, i * 3 + 2, none⟩ (.int .i64 b)) g c t := by
  have hs : ∀ (w : World) (o : Nat) (v : Value) (j : Nat), (w.cell? ⟨g, j, none⟩).isSome = true → (w.setCell ⟨g, o, none⟩ v).cell? ⟨g, j, none⟩ = if j = o then some v else w.cell? ⟨g, j, none⟩ := by
    intro w o v j hj
    by_cases e : j = o
    · subst e
      rw [if_pos rfl]
      obtain ⟨u, hu⟩ := Option.isSome_iff_exists.1 hj
      exact World.cell?_setCell_same w _ _ hu
    · rw [if_neg e]
      exact World.cell?_setCell_other w _ _ _ (fun e' => e (by cases e'; rfl))
  have th1 : ∀ j, (w.cell? ⟨g, j, none⟩).isSome = true → ((w.setCell ⟨g, i * 3, none⟩ (.int .i64 a)).cell? ⟨g, j, none⟩).isSome = true := fun j hj => by rw [hs w _ _ j hj]; split; rfl; exact hj
  have th2 : ∀ j, (w.cell? ⟨g, j, none⟩).isSome = true → (((w.setCell ⟨g, i * 3, none⟩ (.int .i64 a)).setCell ⟨g, i * 3 + 1, none⟩ (.string s)).cell? ⟨g, j, none⟩).isSome = true := fun j hj => by rw [hs _ _ _ j (th1 j hj)]; split; rfl; exact th1 j hj
  have all : ∀ j, (w.cell? ⟨g, j, none⟩).isSome = true → (((w.setCell ⟨g, i * 3, none⟩ (.int .i64 a)).setCell ⟨g, i * 3 + 1, none⟩ (.string s)).setCell ⟨g, i * 3 + 2, none⟩ (.int .i64 b)).cell? ⟨g, j, none⟩ =
      if j = i * 3 + 2 then some (.int .i64 b) else if j = i * 3 + 1 then some (.string s) else if j = i * 3 then some (.int .i64 a) else w.cell? ⟨g, j, none⟩ := fun j hj => by
    rw [hs _ _ _ j (th2 j hj), hs _ _ _ j (th1 j hj), hs _ _ _ j hj]
  refine ⟨by simp [World.setCell]; exact h.lt, fun j hj => ?_, fun j => by rw [World.frozen?_setCell, World.frozen?_setCell, World.frozen?_setCell]; exact h.free j, fun j hj => ?_, h.le, h.cap⟩
  · rw [hs _ _ _ j (th2 j (h.there j hj))]; split; rfl; exact th2 j (h.there j hj)
  · have hle := h.le
    have t0 := h.there (j * 3) (by omega)
    have t1 := h.there (j * 3 + 1) (by omega)
    have t2 := h.there (j * 3 + 2) (by omega)
    rw [all _ t0, all _ t1, all _ t2]
    by_cases e : j = i
    · subst e
      exact ⟨a, s, b, by rw [if_neg (by omega), if_neg (by omega), if_pos rfl], by rw [if_neg (by omega), if_pos rfl], by rw [if_pos rfl]⟩
    · obtain ⟨x, y, z, h1, h2, h3⟩ := h.docs j hj
      exact ⟨x, y, z, by rw [if_neg (by omega), if_neg (by omega), if_neg (by omega)]; exact h1, by rw [if_neg (by omega), if_neg (by omega), if_neg (by omega)]; exact h2, by rw [if_neg (by omega), if_neg (by omega), if_neg (by omega)]; exact h3⟩

set_option maxHeartbeats 400000 in
theorem clo93 (a b num : Int) (s : ByteArray) (B : Nat) (w : World) (hB : w.cell? ⟨B, 0, none⟩ = some (.int .i64 num)) (hlt : B < w.heap.size) :
    Calls Tryz.prog 162 #[.agg #[.int .i64 a, .string s, .int .i64 b], .pointer (some ⟨B, 0, none⟩)] w fun e w' => e = .returned (.bool (a == num)) ∧ Below w.heap.size w w' := by
  have hB' : ∀ o, (w.alloc o).cell? ⟨B, 0, none⟩ = some (.int .i64 num) := fun o => by rw [World.cell?_of_block (Below.heap_alloc _ _ _ hlt)]; exact hB
  go_enter Tryz.func162, Tryz.ntmps162
  go_wp2
  go_ret
  exact ⟨rfl, (Below.refl _ _).alloc (Nat.le_refl _) _⟩

theorem enters93 : ∀ args w, (callFunc 162 args).run Tryz.prog w = .ok (.enter 162 args) w := enters_of Tryz.func162 (by kernel_rfl) rfl

set_option maxHeartbeats 1000000 in
set_option maxRecDepth 1000000 in
theorem index98 (ao : Option Addr) (g n cap c B : Nat) (num : Int) (w : World) (hn : n ≤ 100000) (hao : 0 < n → ao = some ⟨g, 0, none⟩ ∧ DocRow w g c n) (hB : w.cell? ⟨B, 0, none⟩ = some (.int .i64 num)) (hlt : B < w.heap.size) :
    Calls Tryz.prog 233 #[.slice ao n cap, .func (.func 162) #[] #[.pointer (some ⟨B, 0, none⟩)]] w fun e w' => ∃ r : Int, e = .returned (.int .i64 r) ∧ (r = -1 ∨ ∃ i : Nat, r = (i : Int) ∧ i < n) ∧ Below w.heap.size w w' := by
  have HA : Hid (0 < n → ao = some ⟨g, 0, none⟩ ∧ DocRow w g c n) := hao
  have e93 := enters93
  clear hao
  go_enter Tryz.func233, Tryz.ntmps233
  go_wp2
  go_loopw [8] (fun s8 wr => ∃ k : Nat, k ≤ n ∧ s8 = .int .i64 (k : Int) ∧ Below w.heap.size w wr) (fun s8 _ => n - (intOf s8).toNat)
  case atStart => exact ⟨0, by omega, rfl, Below.refl _ _⟩
  case round =>
    obtain ⟨k, hk, rfl, hbw⟩ := hrel
    by_cases hlk : k < n
    · obtain ⟨rfl, hD⟩ := HA.out (by omega)
      obtain ⟨a, s, b, ha, hs, hb⟩ := (hD.below hbw).docs k hlk
      have hBw := (hbw.cell (p := ⟨B, 0, none⟩) hlt).trans hB
      have hsz := hbw.size
      have CC : Hid (Calls Tryz.prog 162 #[.agg #[.int .i64 a, .string s, .int .i64 b], .pointer (some ⟨B, 0, none⟩)] wr fun e w' => e = .returned (.bool (a == num)) ∧ Below wr.heap.size wr w') := clo93 a b num s B wr hBw (by omega)
      by_cases hab : a = num
      · have hab' : (a == num) = true := by simp [hab]
        clear hab
        go_wp2_with (go_at_fn 162; refine CC.out.mono ?_; rintro e w2 ⟨rfl, hb2⟩)
        go_ret
        exact ⟨_, rfl, Or.inr ⟨k, rfl, hlk⟩, hbw.trans (hb2.mono hbw.size)⟩
      · have hab' : (a == num) = false := by simp [hab]
        clear hab
        go_wp2_with (go_at_fn 162; refine CC.out.mono ?_; rintro e w2 ⟨rfl, hb2⟩)
        go_roundw
        case rel => exact ⟨k + 1, by omega, by go_num, hbw.trans (hb2.mono hbw.size)⟩
        case measure => simp [intOf]; omega
    · have hkz : ¬ ((k : Int) < (n : Int)) := by omega
      go_wp2
      go_ret
      exact ⟨_, rfl, Or.inl rfl, hbw⟩
end Go.Proofs.YtaacjjhmojecnaaGreatDoor
