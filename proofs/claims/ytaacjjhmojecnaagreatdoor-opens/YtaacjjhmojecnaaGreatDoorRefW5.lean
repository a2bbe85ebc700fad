/- The document's writer: placed. -/
import Derived.Test.YtaacjjhmojecnaaGreatDoorRefB
import Derived.Deep.AppendLies
import Derived.Deep.Onto
namespace Go.ScT
theorem plc_in : ∀ {l : List Bs} {s : Bs}, Srt l → s ∈ l → plc l s = l
  | a :: r, s, hs, h => by
    have hs := srt_cons.1 hs
    simp only [plc]
    by_cases e : a = s
    · rw [if_pos e]
    · rw [if_neg e]
      rcases List.mem_cons.1 h with h | h
      · exact absurd h.symm e
      · have := hs.1 s h
        rw [if_neg (by rw [ltB_asymm this]; simp), plc_in hs.2 h]
theorem plc_past {s : Bs} : ∀ {p q : List Bs}, (∀ a ∈ p, ltB a s = true) → plc (p ++ q) s = p ++ plc q s
  | [], _, _ => rfl
  | a :: p, q, h => by
    have ha := h a (by simp)
    have hne : a ≠ s := fun e => by subst e; rw [ltB_irrefl] at ha; cases ha
    simp only [List.cons_append, plc]
    rw [if_neg hne, if_neg (by rw [ltB_asymm ha]; simp), plc_past fun x hx => h x (by simp [hx])]
/-- How far placed has come. -/
def PlcAt (p : List Bs) (s : Bs) (done : Bool) (m : List Bs) : Prop :=
  if done then ∃ p1 y r, p = p1 ++ y :: r ∧ (∀ a ∈ p1, ltB a s = true) ∧ ltB s y = true ∧ m = p1 ++ s :: y :: r else m = p ∧ ∀ a ∈ p, ltB a s = true
theorem PlcAt.start (s : Bs) : PlcAt [] s false [] := ⟨rfl, by simp⟩
theorem PlcAt.low {p : List Bs} {s x : Bs} {m : List Bs} (h : PlcAt p s false m) (hx : ltB x s = true) : PlcAt (p ++ [x]) s false (m ++ [x]) := by
  obtain ⟨rfl, h⟩ := h
  refine ⟨rfl, ?_⟩
  intro a ha
  rcases List.mem_append.1 ha with ha | ha
  · exact h a ha
  · simp at ha; subst ha; exact hx
theorem PlcAt.put {p : List Bs} {s x : Bs} {m : List Bs} (h : PlcAt p s false m) (hx : ltB s x = true) : PlcAt (p ++ [x]) s true (m ++ [s] ++ [x]) := by
  obtain ⟨rfl, h⟩ := h
  exact ⟨m, x, [], rfl, h, hx, by simp⟩
theorem PlcAt.more {p : List Bs} {s x : Bs} {m : List Bs} (h : PlcAt p s true m) : PlcAt (p ++ [x]) s true (m ++ [x]) := by
  obtain ⟨p1, y, r, rfl, h1, h2, rfl⟩ := h
  exact ⟨p1, y, r ++ [x], by simp, h1, h2, by simp⟩
theorem PlcAt.done {p : List Bs} {s : Bs} {m : List Bs} (h : PlcAt p s true m) : plc p s = m := by
  obtain ⟨p1, y, r, rfl, h1, h2, rfl⟩ := h
  rw [plc_past h1]
  have hne : y ≠ s := fun e => by subst e; rw [ltB_irrefl] at h2; cases h2
  simp only [plc]
  rw [if_neg hne, if_pos h2]
theorem PlcAt.open_ {p : List Bs} {s : Bs} {m : List Bs} (h : PlcAt p s false m) : plc p s = m ++ [s] := by
  obtain ⟨rfl, h⟩ := h
  have := plc_past (q := []) h
  simpa [plc] using this
end Go.ScT
namespace Go.Proofs.YtaacjjhmojecnaaGreatDoor
open Go.RowKit Go.ScT Go.Proofs

theorem less_eq : ∀ a b : Bs, Op.bytesLess a b = ltB a b
  | _, [] => by simp [Op.bytesLess, ltB]
  | [], _ :: _ => by simp [Op.bytesLess, ltB]
  | a :: x, b :: y => by
    have ih := less_eq x y
    simp only [Op.bytesLess, ltB, ih, UInt8.lt_iff_toNat_lt]

theorem below_row {w wr w3 : World} {o : Obj} {u : Value} {e : TypeId} {size n : Nat} {xs : List Value} (hb : Below w.heap.size w wr) (h : wr.ownsRow w.heap.size e size u n xs) (hg : (wr.alloc o).grownBy w3 u.ownBlock) : Below w.heap.size w w3 := by
  have hT : Turned (fun j => u.ownBlock = some j) wr w3 := (Turned.ofAlloc wr o).trans (Turned.ofGrown hg (fun j hj _ => hj))
  refine ⟨hT.os.trans hb.os, hT.tape.trans hb.tape, hT.output.trans hb.output, Nat.le_trans hb.size hT.size, fun i hi => ?_⟩
  exact (hT.block i (Nat.lt_of_lt_of_le hi hb.size) (fun e => by have := (h.lt i e).1; omega)).trans (hb.block i hi)

set_option maxHeartbeats 2000000 in
set_option maxRecDepth 1000000 in
/-- placed: as plc. -/
theorem placedR_any (w : World) (base : Nat) (v : Value) (l : List Bs) (s : Bs) (h : w.ownsRow base 9 1 v l.length (l.map strV)) (hl : l.length ≤ 100000) (hs : Srt l) (hbw : base ≤ w.heap.size) :
    Calls Tryz.prog 184 #[v, lstV s] w fun e w' => ∃ v', e = .returned v' ∧ w'.ownsRow base 9 1 v' (plc l s).length ((plc l s).map strV) ∧ Below w.heap.size w w' := by
  obtain ⟨g, cap, ao, hve, _, hao⟩ := ownsRow_shape h
  have HC : Hid (∀ (w' : World) (j : Nat) (x : Bs), Below w.heap.size w w' → l[j]? = some x → ao = some ⟨g, 0, none⟩ ∧ w'.cell? ⟨g, j, none⟩ = some (lstV x)) := by
    intro w' j x hb hj
    have hlt := (List.getElem?_eq_some_iff.1 hj).1
    have h1 := hao (by omega)
    have h2 := ownsRow_turned h (Turned.ofBelow (Z := fun _ => False) hb) (fun _ _ e => e)
    rw [hve, h1] at h2
    refine ⟨h1, ?_⟩
    rw [h2.cellAt j (by omega), List.getElem?_map, hj]
    rfl
  have H0 := hid h
  rw [hve] at H0 ⊢
  clear h hve hao
  have hi9 : (Tryz.prog.info? 9).map (fun i => (i.zero, i.size, i.bytes)) = some (some (.string ⟨#[]⟩), 1, 16) := by kernel_rfl
  obtain ⟨i0, hi, hz0, hz1, hz2⟩ := info_parts hi9
  clear hi9
  go_enter Tryz.func184, Tryz.ntmps184
  go_wp2
  go_loopw [5, 6, 7] (fun s5 s6 s7 wr => ∃ (k : Nat) (done : Bool) (m : List Bs), s7 = .int .i64 (k : Int) ∧ s6 = .bool done ∧ k ≤ l.length ∧ m.length ≤ k + 1 ∧ Hid (wr.ownsRow w.heap.size 9 1 s5 m.length (m.map strV)) ∧ Hid (Below w.heap.size w wr) ∧ Hid (PlcAt (l.take k) s done m)) (fun _ _ s7 _ => l.length - (intOf s7).toNat)
  case atStart => exact ⟨0, false, [], rfl, rfl, by omega, by simp, hid ⟨rfl, Or.inl ⟨rfl, rfl⟩⟩, Below.refl _ _, hid (by simpa using PlcAt.start s)⟩
  case round =>
    obtain ⟨k, done, m, rfl, rfl, hk, hm, HO, HB, HP⟩ := hrel
    have hsz := HB.out.size
    by_cases hlt : k < l.length
    · have hlti : (k : Int) < (l.length : Int) := by omega
      obtain ⟨x, hx⟩ : ∃ x, l[k]? = some x := ⟨_, List.getElem?_eq_getElem hlt⟩
      obtain ⟨rfl, hc⟩ := HC.out wr k x HB.out hx
      have htk : Hid (l.take (k + 1) = l.take k ++ [x]) := show _ = _ by rw [List.take_add_one, hx]; rfl
      by_cases he : x = s
      · subst he
        have HE : Hid (plc l x = l) := plc_in hs (List.mem_of_getElem? hx)
        go_wp2
        go_ret
        rw [HE.out]
        exact ⟨_, rfl, ownsRow_turned H0.out (Turned.ofBelow (Z := fun _ => False) HB.out) (fun _ _ e => e), HB.out⟩
      · have hne : (x == s) = false := beq_eq_false_iff_ne.2 he
        have hbl : Op.bytesLess s x = ltB s x := less_eq s x
        have hbl2 : Op.bytesLess x s = !(ltB s x) := by
          rw [less_eq]
          cases hgt : ltB s x with
          | true => rw [ltB_asymm hgt]; rfl
          | false => rw [ltB_total (fun e => he e.symm) hgt]; rfl
        cases hgt : ltB s x with
        | true =>
          rw [hgt] at hbl hbl2
          simp only [Bool.not_true] at hbl2
          cases done with
          | true =>
            have HP2 := hid (HP.out.more (x := x))
            rw [← htk.out] at HP2
            go_wp2_with (first | (at_builtin; refine wpList_append_lies _ rfl _ _ 34 rfl w.heap.size 9 i0 (.string ⟨#[]⟩) 1 16 Tryz.underlying34 hi hz0 hz1 hz2 rfl (by decide) _ _ _ rfl (HO.out.alloc _) ⟨wr.heap.size, 0, none⟩ 1 1 [strV x] rfl rfl (cell_one_new _ _ _) (fun y hy => by simp at hy; subst hy; rfl) (by omega) (by unfold maxLen; omega) (by omega) (by simp; omega) (wr.heap.size + 1) (by simp) ?_; intro gA3 capA3 w3 hown3 hgrow3 hat3 hlt3))
            go_roundw
            case rel => exact ⟨k + 1, true, m ++ [x], by go_num, rfl, by omega, by simp; omega, hid (by simpa using hown3), below_row HB.out HO.out hgrow3, HP2⟩
            case measure => simp [intOf]; omega
          | false =>
            have hmk : m.length ≤ k := by
              have e : m = l.take k := HP.out.1
              rw [e]; simp; omega
            have HP2 := hid (HP.out.put hgt)
            rw [← htk.out] at HP2
            go_wp2_with (first
              | (at_builtin; have _hh := HO3; refine wpList_append_lies _ rfl _ _ 34 rfl w.heap.size 9 i0 (.string ⟨#[]⟩) 1 16 Tryz.underlying34 hi hz0 hz1 hz2 rfl (by decide) _ _ _ rfl (HO3.out.alloc _) ⟨w3.heap.size, 0, none⟩ 1 1 [strV x] rfl rfl (cell_one_new _ _ _) (fun y hy => by simp at hy; subst hy; rfl) (by omega) (by unfold maxLen; omega) (by omega) (by simp; omega) (w3.heap.size + 1) (by simp) ?_; intro gA4 capA4 w4 hown4 hgrow4 hat4 hlt4)
              | (at_builtin; refine wpList_append_lies _ rfl _ _ 34 rfl w.heap.size 9 i0 (.string ⟨#[]⟩) 1 16 Tryz.underlying34 hi hz0 hz1 hz2 rfl (by decide) _ _ _ rfl (HO.out.alloc _) ⟨wr.heap.size, 0, none⟩ 1 1 [strV s] rfl rfl (cell_one_new _ _ _) (fun y hy => by simp at hy; subst hy; rfl) (by omega) (by unfold maxLen; omega) (by omega) (by simp; omega) (wr.heap.size + 1) (by simp) ?_; intro gA3 capA3 w3 hown3 hgrow3 hat3 hlt3; have HO3 : Hid (w3.ownsRow w.heap.size 9 1 (.slice (some ⟨gA3, 0, none⟩) (m.length + 1) capA3) (m.length + 1) ((m ++ [s]).map strV)) := show World.ownsRow _ _ _ _ _ _ _ by { simpa using hown3 }; have hB3 := below_row HB.out HO.out hgrow3; have hsz3 := hB3.size; have hc3 := (HC.out w3 k x hB3 hx).2))
            go_roundw
            case rel => exact ⟨k + 1, true, m ++ [s] ++ [x], by go_num, rfl, by omega, by simp; omega, hid (by simpa using hown4), below_row hB3 HO3.out hgrow4, HP2⟩
            case measure => simp [intOf]; omega
        | false =>
          rw [hgt] at hbl hbl2
          simp only [Bool.not_false] at hbl2
          cases done with
          | true =>
            have HP2 := hid (HP.out.more (x := x))
            rw [← htk.out] at HP2
            go_wp2_with (first | (at_builtin; refine wpList_append_lies _ rfl _ _ 34 rfl w.heap.size 9 i0 (.string ⟨#[]⟩) 1 16 Tryz.underlying34 hi hz0 hz1 hz2 rfl (by decide) _ _ _ rfl (HO.out.alloc _) ⟨wr.heap.size, 0, none⟩ 1 1 [strV x] rfl rfl (cell_one_new _ _ _) (fun y hy => by simp at hy; subst hy; rfl) (by omega) (by unfold maxLen; omega) (by omega) (by simp; omega) (wr.heap.size + 1) (by simp) ?_; intro gA3 capA3 w3 hown3 hgrow3 hat3 hlt3))
            go_roundw
            case rel => exact ⟨k + 1, true, m ++ [x], by go_num, rfl, by omega, by simp; omega, hid (by simpa using hown3), below_row HB.out HO.out hgrow3, HP2⟩
            case measure => simp [intOf]; omega
          | false =>
            have HP2 := hid (HP.out.low (ltB_total (fun e => he e.symm) hgt))
            rw [← htk.out] at HP2
            go_wp2_with (first | (at_builtin; refine wpList_append_lies _ rfl _ _ 34 rfl w.heap.size 9 i0 (.string ⟨#[]⟩) 1 16 Tryz.underlying34 hi hz0 hz1 hz2 rfl (by decide) _ _ _ rfl (HO.out.alloc _) ⟨wr.heap.size, 0, none⟩ 1 1 [strV x] rfl rfl (cell_one_new _ _ _) (fun y hy => by simp at hy; subst hy; rfl) (by omega) (by unfold maxLen; omega) (by omega) (by simp; omega) (wr.heap.size + 1) (by simp) ?_; intro gA3 capA3 w3 hown3 hgrow3 hat3 hlt3))
            go_roundw
            case rel => exact ⟨k + 1, false, m ++ [x], by go_num, rfl, by omega, by simp; omega, hid (by simpa using hown3), below_row HB.out HO.out hgrow3, HP2⟩
            case measure => simp [intOf]; omega
    · have hlti : ¬ ((k : Int) < (l.length : Int)) := by omega
      have hte : l.take k = l := List.take_of_length_le (by omega)
      rw [hte] at HP
      cases done with
      | true =>
        have HE := hid HP.out.done
        go_wp2
        go_ret
        rw [HE.out]
        exact ⟨_, rfl, World.ownsRow.mono HO.out hbw, HB.out⟩
      | false =>
        have HE := hid HP.out.open_
        go_wp2_with (first | (at_builtin; refine wpList_append_lies _ rfl _ _ 34 rfl w.heap.size 9 i0 (.string ⟨#[]⟩) 1 16 Tryz.underlying34 hi hz0 hz1 hz2 rfl (by decide) _ _ _ rfl (HO.out.alloc _) ⟨wr.heap.size, 0, none⟩ 1 1 [strV s] rfl rfl (cell_one_new _ _ _) (fun y hy => by simp at hy; subst hy; rfl) (by omega) (by unfold maxLen; omega) (by omega) (by simp; omega) (wr.heap.size + 1) (by simp) ?_; intro gA3 capA3 w3 hown3 hgrow3 hat3 hlt3))
        go_ret
        rw [HE.out]
        exact ⟨_, rfl, World.ownsRow.mono (by simpa using hown3) hbw, below_row HB.out HO.out hgrow3⟩
end Go.Proofs.YtaacjjhmojecnaaGreatDoor
