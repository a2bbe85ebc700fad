/- The walks of Add, Delete, Count, New. -/
import Derived.Test.YtaacjjhmojecnaaGreatDoorPut
import Derived.Test.YtaacjjhmojecnaaGreatDoorSplit
import Derived.Handy
namespace Go.Proofs.YtaacjjhmojecnaaGreatDoor
open Go.RowKit Go.ScT Go.Proofs Go.Shelf

theorem tot_mem : ∀ (l : List (List UInt8)) (t : List UInt8), t ∈ l → t.length ≤ tot l
  | [], t, h => by simp at h
  | x :: r, t, h => by
    simp only [tot, List.map_cons, List.sum_cons]
    rcases List.mem_cons.1 h with rfl | h
    · omega
    · have := tot_mem r t h
      simp only [tot] at this
      omega
theorem toks_word (L t : List UInt8) (h : t ∈ toks L) : t.length ≤ L.length + 1 := by
  have h1 := tot_mem _ t h
  have h2 := fin_tot L false [] 0 []
  rw [show fin L false [] 0 [] = toks L from rfl] at h2
  simp only [tot, List.map_nil, List.sum_nil, List.length_nil] at h2 h1
  simp at h2
  omega

set_option maxHeartbeats 1000000 in
theorem count_any (w : World) (Z : Nat → Prop) (e : Nat) (ds : Docs) (h : EngOk w Z e ds) :
    Calls Tryz.prog 19 #[.pointer (some ⟨e, 0, none⟩)] w fun en w' => en = .returned (.int .i64 (liveN ds : Int)) ∧ w' = w := by
  obtain ⟨ml, mw, sv, dv, T, nW, DL, DW, h⟩ := h
  have q1 := (cell_five h.buf.eng).2.1
  have HL : Hid (w.ownsMap Tryz.prog 9 (plainElem Tryz.prog 3) ml ds.length DL) := h.live
  have HS : Hid (Maps.size DL = liveN ds) := h.rel.size
  clear h
  go_enter Tryz.func19, Tryz.ntmps19
  go_wp2_with (first | (at_len; refine wpList_len_own _ rfl _ 81 rfl 9 3 Tryz.underlying81 (plainElem Tryz.prog 3) ml ds.length DL rfl HL.out ?_) | go_in)
  go_ret
  exact ⟨by rw [← HS.out]; rfl, rfl⟩

set_option maxHeartbeats 1000000 in
theorem delete_any (w : World) (Z : Nat → Prop) (e : Nat) (ds : Docs) (hE : EngOk w Z e ds) (hl : ds.length ≤ 100) (key : List UInt8) (hk : key.length ≤ maxLen) :
    Calls Tryz.prog 22 #[.pointer (some ⟨e, 0, none⟩), .string ⟨key.toArray⟩] w fun en w' => en = .returned (.int .i64 (if keyOk key then (if (findK ds key).isSome then 0 else 5) else 1)) ∧ EngOk w' Z e (if keyOk key then killK ds key else ds) ∧ Turned Z w w' := by
  have CK : Hid (Calls Tryz.prog 46 #[.string ⟨key.toArray⟩] w fun e w' => e = .returned (.bool (keyOk key)) ∧ Below w.heap.size w w') := isKey_any ⟨key.toArray⟩ w (by show key.toArray.size ≤ maxLen; simpa using hk)
  have CR : Hid (∀ w1, EngOk w1 Z e ds → Calls Tryz.prog 47 #[.pointer (some ⟨e, 0, none⟩), .string ⟨key.toArray⟩] w1 fun en w' => en = .returned (.bool (findK ds key).isSome) ∧ EngOk w' Z e (killK ds key) ∧ Turned Z w1 w') := fun w1 h1 => retire_any w1 Z e ds h1 hl key hk
  have HE : Hid (EngOk w Z e ds) := hE
  clear hE
  cases hkk : keyOk key with
  | false =>
    rw [hkk] at CK
    clear CR
    go_enter Tryz.func22, Tryz.ntmps22
    go_wp2_with (go_at_call 46; refine CK.out.mono ?_; rintro e w1 ⟨rfl, hb1⟩)
    go_ret
    exact ⟨rfl, HE.out.turned (Turned.ofBelow (Z := fun _ => False) hb1) (fun _ _ h => h), Turned.ofBelow hb1⟩
  | true =>
    rw [hkk] at CK
    cases hff : (findK ds key).isSome with
    | false =>
      rw [hff] at CR
      go_enter Tryz.func22, Tryz.ntmps22
      go_wp2_with (first | (go_at_call 46; refine CK.out.mono ?_; rintro e w1 ⟨rfl, hb1⟩; have HE1 : Hid (EngOk w1 Z _ ds) := HE.out.turned (Turned.ofBelow (Z := fun _ => False) hb1) (fun _ _ h => h)) | (go_at_call 47; refine (CR.out _ HE1.out).mono ?_; rintro en w2 ⟨rfl, hE2, ht2⟩))
      go_ret
      exact ⟨rfl, hE2, (Turned.ofBelow hb1).trans ht2⟩
    | true =>
      rw [hff] at CR
      go_enter Tryz.func22, Tryz.ntmps22
      go_wp2_with (first | (go_at_call 46; refine CK.out.mono ?_; rintro e w1 ⟨rfl, hb1⟩; have HE1 : Hid (EngOk w1 Z _ ds) := HE.out.turned (Turned.ofBelow (Z := fun _ => False) hb1) (fun _ _ h => h)) | (go_at_call 47; refine (CR.out _ HE1.out).mono ?_; rintro en w2 ⟨rfl, hE2, ht2⟩))
      go_ret
      exact ⟨rfl, hE2, (Turned.ofBelow hb1).trans ht2⟩

theorem new_ok (w : World) : EngOk ((((w.alloc (.map #[] 0)).alloc (.cells #[.slice none 0 0, .map (some (w.heap.size + 1 + 1))] 85)).alloc (.map #[] 0)).alloc (.cells #[.int .i64 0, .map (some w.heap.size), .slice none 0 0, .map (some (w.heap.size + 1 + 1)), .slice none 0 0] 87)) (fun b => w.heap.size ≤ b ∧ b < ((((w.alloc (.map #[] 0)).alloc (.cells #[.slice none 0 0, .map (some (w.heap.size + 1 + 1))] 85)).alloc (.map #[] 0)).alloc (.cells #[.int .i64 0, .map (some w.heap.size), .slice none 0 0, .map (some (w.heap.size + 1 + 1)), .slice none 0 0] 87)).heap.size) (w.heap.size + 1 + 1 + 1) [] := by
  refine ⟨w.heap.size, w.heap.size + 1 + 1, .slice none 0 0, .slice none 0 0, fun _ => none, 0, .map [], .map [], ⟨⟨?_, Or.inl rfl, ?_, fun _ _ _ h => (by cases h), fun ⟨_, h⟩ => (by cases h), fun ⟨_, h⟩ => (by cases h), fun _ hg => (by cases hg), by omega⟩, ?_, LiveRel.start, Nat.zero_le _, by omega, by omega, fun ⟨_, h⟩ => (by cases h), fun _ hg => (by cases hg), (by simp; omega), (by simp; omega), (by simp; omega), fun _ ⟨_, h⟩ => (by cases h), fun _ hg => (by cases hg)⟩⟩
  · have := heap_alloc_new (((w.alloc (.map #[] 0)).alloc (.cells #[.slice none 0 0, .map (some (w.heap.size + 1 + 1))] 85)).alloc (.map #[] 0)) (.cells #[.int .i64 0, .map (some w.heap.size), .slice none 0 0, .map (some (w.heap.size + 1 + 1)), .slice none 0 0] 87)
    rw [show (((w.alloc (.map #[] 0)).alloc (.cells #[.slice none 0 0, .map (some (w.heap.size + 1 + 1))] 85)).alloc (.map #[] 0)).heap.size = w.heap.size + 1 + 1 + 1 by simp] at this
    exact this
  · have := (World.ownsMap_made (H := Unit) ((w.alloc (.map #[] 0)).alloc (.cells #[.slice none 0 0, .map (some (w.heap.size + 1 + 1))] 85)) Tryz.prog 9 (placeE (fun _ => none) (41 * ([] : Docs).length))).alloc (.cells #[.int .i64 0, .map (some w.heap.size), .slice none 0 0, .map (some (w.heap.size + 1 + 1)), .slice none 0 0] 87)
    rw [show ((w.alloc (.map #[] 0)).alloc (.cells #[.slice none 0 0, .map (some (w.heap.size + 1 + 1))] 85)).heap.size = w.heap.size + 1 + 1 by simp] at this
    exact this
  · exact (((World.ownsMap_made (H := Unit) w Tryz.prog 9 (plainElem Tryz.prog 3)).alloc _).alloc _).alloc _

set_option maxHeartbeats 1000000 in
theorem new_any (w : World) : Calls Tryz.prog 62 #[] w fun en w' => ∃ e', en = .returned (.pointer (some ⟨e', 0, none⟩)) ∧ EngOk w' (fun b => w.heap.size ≤ b ∧ b < w'.heap.size) e' [] ∧ Below w.heap.size w w' := by
  have mk1 : ∀ w, (Instr.makeMap 81 none).run Tryz.prog w = .ok (.map (some w.heap.size)) (w.alloc (.map #[] 0)) := fun w => run_makeMap 81 w
  have mk2 : ∀ w, (Instr.makeMap 83 none).run Tryz.prog w = .ok (.map (some w.heap.size)) (w.alloc (.map #[] 0)) := fun w => run_makeMap 83 w
  have HN : Hid (EngOk _ _ _ _) := new_ok w
  go_enter Tryz.func62, Tryz.ntmps62
  go_wp2
  go_ret
  exact ⟨_, rfl, HN.out, ((((Below.refl _ w).alloc (Nat.le_refl _) _).alloc (by simp) _).alloc (by simp; omega) _).alloc (by simp; omega) _⟩

set_option maxHeartbeats 1000000 in
set_option maxRecDepth 1000000 in
theorem add_bad (w : World) (Z : Nat → Prop) (e : Nat) (ds : Docs) (hE : EngOk w Z e ds) (key text : List UInt8) (hm : key.length ≤ maxLen) (hmt : text.length ≤ maxLen) (hr : addRes key text ds.length ≠ 0) :
    Calls Tryz.prog 30 #[.pointer (some ⟨e, 0, none⟩), .string ⟨key.toArray⟩, .string ⟨text.toArray⟩] w fun en w' => en = .returned (.int .i64 (addRes key text ds.length)) ∧ EngOk w' Z e ds ∧ Turned Z w w' := by
  have CK : Hid (Calls Tryz.prog 46 #[.string ⟨key.toArray⟩] w fun e w' => e = .returned (.bool (keyOk key)) ∧ Below w.heap.size w w') := isKey_any ⟨key.toArray⟩ w (by show key.toArray.size ≤ maxLen; simpa using hm)
  have HE : Hid (∀ w1, Below w.heap.size w w1 → EngOk w1 Z e ds) := fun w1 hb => hE.turned (Turned.ofBelow (Z := fun _ => False) hb) (fun _ _ h => h)
  clear hm hE
  unfold addRes at hr ⊢
  unfold maxLen at hmt
  by_cases hk : keyOk key = true
  · rw [hk] at CK
    rw [hk] at hr ⊢
    simp only [Bool.true_eq_false, if_false] at hr ⊢
    clear hk
    by_cases ht : 200 < text.length
    · rw [if_pos ht] at hr ⊢
      clear hr
      go_enter Tryz.func30, Tryz.ntmps30
      go_wp2_with (go_at_call 46; refine CK.out.mono ?_; rintro en w1 ⟨rfl, hb1⟩)
      go_ret
      exact ⟨rfl, HE.out w1 hb1, Turned.ofBelow hb1⟩
    · rw [if_neg ht] at hr ⊢
      have CS : Hid (∀ w, Calls Tryz.prog 54 #[.string ⟨text.toArray⟩] w fun e w' => ∃ v, e = .returned v ∧ w'.ownsRow w.heap.size 9 1 v (toks text).length ((toks text).map strV) ∧ Below w.heap.size w w') := fun w => split_any ⟨text.toArray⟩ w (by show text.toArray.size ≤ 1000000; simp; omega)
      have htl := toks_len_le text
      generalize toks text = T at CS hr htl ⊢
      by_cases h40 : 40 < T.length
      · rw [if_pos h40] at hr ⊢
        clear hr
        go_enter Tryz.func30, Tryz.ntmps30
        go_wp2_with (first
          | (go_at_call 46; refine CK.out.mono ?_; rintro en w1 ⟨rfl, hb1⟩)
          | (go_at_call 54; refine (CS.out _).mono ?_; rintro en w2 ⟨tv, rfl, htv, hb2⟩; obtain ⟨gt, capt, aot, htve, _, _⟩ := ownsRow_shape htv; rw [htve]))
        go_ret
        have hb12 := hb1.trans (hb2.mono hb1.size)
        exact ⟨rfl, HE.out w2 hb12, Turned.ofBelow hb12⟩
      · rw [if_neg h40] at hr ⊢
        have hN : ds.length = 100 := by
          apply Classical.byContradiction
          intro h
          rw [if_neg h] at hr
          exact hr rfl
        rw [if_pos hN]
        clear hr
        have hNb : (100 : Int) ≤ (ds.length : Int) := by omega
        have HC : Hid (∀ w1, EngOk w1 Z e ds → w1.cell? ⟨e, 0, none⟩ = some (.int .i64 (ds.length : Int))) := fun w1 h1 => by
          obtain ⟨ml, mw, sv, dv, T, nW, DL, DW, h1⟩ := h1
          exact (cell_five h1.buf.eng).1
        clear hN
        go_enter Tryz.func30, Tryz.ntmps30
        go_wp2_with (first
          | (go_at_call 46; refine CK.out.mono ?_; rintro en w1 ⟨rfl, hb1⟩)
          | (go_at_call 54; refine (CS.out _).mono ?_; rintro en w2 ⟨tv, rfl, htv, hb2⟩; obtain ⟨gt, capt, aot, htve, _, _⟩ := ownsRow_shape htv; rw [htve]; have hb12 := hb1.trans (hb2.mono hb1.size); have q0 := HC.out w2 (HE.out w2 hb12)))
        go_ret
        exact ⟨rfl, HE.out w2 hb12, Turned.ofBelow hb12⟩
  · have hkf : keyOk key = false := by simpa using hk
    rw [hkf] at CK
    rw [if_pos hkf]
    clear hk hr
    go_enter Tryz.func30, Tryz.ntmps30
    go_wp2_with (go_at_call 46; refine CK.out.mono ?_; rintro en w1 ⟨rfl, hb1⟩)
    go_ret
    exact ⟨rfl, HE.out w1 hb1, Turned.ofBelow hb1⟩

theorem ownsRow_base {w : World} {base : Nat} {e : TypeId} {size : Nat} {v : Value} {n : Nat} {xs : List Value} (h : w.ownsRow base e size v n xs) {g : Nat} (hg : v.ownBlock = some g) : base ≤ g := by
  rcases h.2 with ⟨h1, _⟩ | ⟨g', cap, cur, h1, h2, _⟩
  · rw [h1] at hg; cases hg
  · rw [h1] at hg; simp [Value.ownBlock] at hg; omega

theorem keyOk_len {key : List UInt8} (h : keyOk key = true) : key.length ≤ 1000 := by
  unfold keyOk at h
  simp at h
  omega

set_option maxHeartbeats 1000000 in
set_option maxRecDepth 1000000 in
theorem add_good (w : World) (Z : Nat → Prop) (e : Nat) (ds : Docs) (hE : EngOk w Z e ds) (hZ : ∀ b, Z b → b < w.heap.size) (hl : ds.length < 100) (key text : List UInt8) (hk : keyOk key = true) (ht : text.length ≤ 200) (h40 : (toks text).length ≤ 40) :
    Calls Tryz.prog 30 #[.pointer (some ⟨e, 0, none⟩), .string ⟨key.toArray⟩, .string ⟨text.toArray⟩] w fun en w' => en = .returned (.int .i64 0) ∧ EngOk w' (grow Z w w') e (killK ds key ++ [(key, true)]) ∧ Turned Z w w' := by
  have hk1 := keyOk_len hk
  have hm : key.length ≤ maxLen := by unfold maxLen; omega
  have hu : UniqK ds := by
    obtain ⟨ml, mw, sv, dv, T, nW, DL, DW, h1⟩ := hE
    exact h1.rel.uniq
  have CK : Hid (Calls Tryz.prog 46 #[.string ⟨key.toArray⟩] w fun e w' => e = .returned (.bool true) ∧ Below w.heap.size w w') := hk ▸ isKey_any ⟨key.toArray⟩ w (by show key.toArray.size ≤ maxLen; simpa using hm)
  have CS : Hid (∀ w, Calls Tryz.prog 54 #[.string ⟨text.toArray⟩] w fun e w' => ∃ v, e = .returned v ∧ w'.ownsRow w.heap.size 9 1 v (toks text).length ((toks text).map strV) ∧ Below w.heap.size w w') := fun w => split_any ⟨text.toArray⟩ w (by show text.toArray.size ≤ 1000000; simp; omega)
  have HT : Hid (∀ x ∈ toks text, x.length ≤ maxLen) := fun x hx => by
    have := toks_word text x hx
    unfold maxLen
    omega
  have CR : Hid (∀ w1, EngOk w1 Z e ds → Calls Tryz.prog 47 #[.pointer (some ⟨e, 0, none⟩), .string ⟨key.toArray⟩] w1 fun en w' => en = .returned (.bool (findK ds key).isSome) ∧ EngOk w' Z e (killK ds key) ∧ Turned Z w1 w') := fun w1 h1 => retire_any w1 Z e ds h1 (by omega) key hm
  have HE : Hid (∀ w1, Below w.heap.size w w1 → EngOk w1 Z e ds) := fun w1 hb => hE.turned (Turned.ofBelow (Z := fun _ => False) hb) (fun _ _ h => h)
  have HC : Hid (∀ w1, EngOk w1 Z e ds → w1.cell? ⟨e, 0, none⟩ = some (.int .i64 (ds.length : Int))) := fun w1 h1 => by
    obtain ⟨ml, mw, sv, dv, T, nW, DL, DW, h1⟩ := h1
    exact (cell_five h1.buf.eng).1
  have hlK : (killK ds key).length < 100 := by rw [killK_len]; exact hl
  have HF : Hid (findK (killK ds key) key = none) := findK_kill hu key
  generalize toks text = W at CS h40 HT
  have hl2 : ¬ ((100 : Int) ≤ (ds.length : Int)) := by omega
  have ht2 : (text.length : Int) ≤ 200 := by omega
  clear hu hE
  go_enter Tryz.func30, Tryz.ntmps30
  go_wp2_with (first
    | (go_at_call 46; refine CK.out.mono ?_; rintro en w1 ⟨rfl, hb1⟩)
    | (go_at_call 54; refine (CS.out _).mono ?_; rintro en w2 ⟨tv, rfl, htv, hb2⟩; obtain ⟨gt, capt, aot, htve, _, _⟩ := ownsRow_shape htv; rw [htve] at htv ⊢; have hb12 := hb1.trans (hb2.mono hb1.size); have hE2 := HE.out w2 hb12; have q0 := HC.out w2 hE2; have hgz : ∀ g, (Value.slice aot W.length capt).ownBlock = some g → ¬ Z g := fun g hg hz => by (have h1 := ownsRow_base htv hg; have h2 := hZ g hz; have h3 := hb1.size; omega))
    | (go_at_call 47; refine (CR.out _ hE2).mono ?_; rintro en w3 ⟨rfl, hE3, ht3⟩)
    | (go_at_call 55; refine (put_any w3 Z e (killK ds key) hE3 hlK key hk1 HF.out w1.heap.size (.slice aot W.length capt) W (ownsRow_turned htv ht3 hgz) h40 HT.out hgz).mono ?_; rintro en w4 ⟨rfl, hE4, ht4⟩))
  go_ret
  have hT2 : Turned Z w w2 := Turned.ofBelow hb12
  have hT3 := hT2.trans ht3
  exact ⟨rfl, hE4.zone (fun b hb => by
    rcases hb with h | ⟨h1, h2⟩
    · exact Or.inl h
    · exact Or.inr ⟨by have := hT3.size; omega, h2⟩), hT3.trans ht4⟩

theorem add_all (w : World) (Z : Nat → Prop) (e : Nat) (ds : Docs) (hE : EngOk w Z e ds) (hZ : ∀ b, Z b → b < w.heap.size) (hl : ds.length ≤ 100) (key text : List UInt8) (hm : key.length ≤ maxLen) (hmt : text.length ≤ maxLen) :
    Calls Tryz.prog 30 #[.pointer (some ⟨e, 0, none⟩), .string ⟨key.toArray⟩, .string ⟨text.toArray⟩] w fun en w' => en = .returned (.int .i64 (addRes key text ds.length)) ∧ EngOk w' (grow Z w w') e (addDs ds key text) ∧ Turned Z w w' := by
  by_cases hr : addRes key text ds.length = 0
  · obtain ⟨h1, h2, h3, h4⟩ := addRes_zero _ _ _ hr
    have hd : addDs ds key text = killK ds key ++ [(key, true)] := by simp [addDs, hr]
    rw [hr, hd]
    exact add_good w Z e ds hE hZ (by omega) key text h1 h2 h3
  · have hd : addDs ds key text = ds := by simp [addDs, hr]
    rw [hd]
    exact (add_bad w Z e ds hE key text hm hmt hr).mono fun en w' ⟨a, b, c⟩ => ⟨a, b.zone (fun b hb => Or.inl hb), c⟩
end Go.Proofs.YtaacjjhmojecnaaGreatDoor
