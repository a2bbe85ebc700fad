/- The program's Open. -/
import Derived.Test.YtaacjjhmojecnaaGreatDoorRdV
import Derived.Test.YtaacjjhmojecnaaGreatDoorErrNo
namespace Go.Proofs.YtaacjjhmojecnaaGreatDoor
open Go.RowKit Go.ScT Go.Proofs

theorem okDocs_all : ∀ {ds : List DocP} {b : Nat} {seen : List Bs}, OkDocs b seen ds → ∀ d ∈ ds, d.1 ≤ 100 ∧ d.2.1.length ≤ 8 ∧ d.2.2 ≤ 40
  | [], _, _, _, d, h => by simp at h
  | e :: r, b, seen, h, d, hd => by
    rcases List.mem_cons.1 hd with rfl | hd
    · exact ⟨h.2.1, (keyOk_len h.2.2.2.1).2, h.2.2.1⟩
    · exact okDocs_all h.2.2.2.2.2 d hd
theorem okLists_tok {lens : List Nat} : ∀ {ls : List Lst} {b : Bs}, OkLists lens b ls → ∀ l ∈ ls, l.1.length ≤ 20
  | [], _, _, l, h => by simp at h
  | e :: r, b, h, l, hl => by
    rcases List.mem_cons.1 hl with rfl | hl
    · exact (isTok_len h.1).2
    · exact okLists_tok h.2.2.2.2.2 l hl
theorem VC.tellable {ds : List DocP} {ls : List Lst} (h : VC (ds, ls)) : Tellable ds ls := {
  docs := h.most
  lists := h.few
  doc := okDocs_all h.docs
  list := fun l hl => by
    have h1 := okLists_all h.lists l hl
    have h2 := lensOf_len ds
    have h3 : ds.length ≤ 100 := h.most
    refine ⟨okLists_tok h.lists l hl, by have := h1.1; simp only at this; omega, fun p hp => ?_⟩
    have := h1.2.mem p hp
    simp only at this
    omega }
set_option maxHeartbeats 1000000 in
set_option maxRecDepth 1000000 in
theorem progRead_long {w : World} {base : Nat} {A : Nat → Addr} {s : ByteArray} (hS : Sent w A base) (hs : 60000 < s.size) (hm : s.size ≤ maxLen) :
    Calls Tryz.prog 48 #[.string s] w fun e w' => e = .returned (.tuple #[.agg #[.slice none 0 0, .slice none 0 0], .iface 404 (.pointer (some (A 0)))]) ∧ Below w.heap.size w w' := by
  unfold maxLen at hm
  have hsi : (60000 : Int) < (s.size : Int) := by omega
  have hlow := hS.low
  have hsz := hS.size
  have HS0 := hS.below ((Below.refl w.heap.size w).alloc (Nat.le_refl _) ct0)
  have g0 := HS0.cell 0 (by simp)
  have HN := hid (heap_alloc_new w ct0)
  have HB := hid ((Below.refl w.heap.size w).alloc (Nat.le_refl _) ct0)
  have hn0 : ¬ w.heap.size = 0 := by omega
  have hn0' : ¬ 0 = w.heap.size := by omega
  clear hS HS0
  go_enter Tryz.func48, Tryz.ntmps48
  go_wp2_with (fail)
  generalize w.alloc ct0 = w0 at *
  obtain ⟨l0, l1, lf⟩ := cell_two2 HN.out
  have f0 := lf 0
  have f1 := lf 1
  clear lf
  go_region
  go_wp2
  have hTS := turned_set2 w0 w.heap.size (.slice none 0 0) (.slice none 0 0)
  have e1 := heap_setCell_same w0 w.heap.size 0 _ 91 (.slice none 0 0) HN.out
  have e2 := heap_setCell_same _ w.heap.size 1 _ 91 (.slice none 0 0) e1
  obtain ⟨m0, m1, _⟩ := cell_two2 e2
  have hTf := below_turned HB.out hTS HB.out.size (fun i hi => by omega)
  refine bodyPost_ret (v := .tuple #[.agg #[.slice none 0 0, .slice none 0 0], .iface 404 (.pointer (some (A 0)))]) (by simp [results, Tryz.results48, go_sem, m0, m1]) rfl ⟨rfl, ⟨hTf.os, hTf.tape, hTf.output, hTf.size, hTf.block⟩⟩
set_option maxHeartbeats 1000000 in
set_option maxRecDepth 1000000 in
theorem progOpen {w : World} {base : Nat} {A : Nat → Addr} {S : Bs} (hS : Sent w A base) (hs : S.length ≤ maxLen) :
    Calls Tryz.prog 26 #[lstV S] w fun e w' => e = .returned (.tuple #[lstV (rOpen S).1, .int .i64 ((rOpen S).2 : Int)]) ∧ Below w.heap.size w w' := by
  have hsz : (⟨S.toArray⟩ : ByteArray).size = S.length := by simp [ByteArray.size]
  have hdl : (⟨S.toArray⟩ : ByteArray).data.toList = S := by simp
  by_cases h6 : 60000 < S.length
  · have HE : Hid (rOpen S = ([], 2)) := show _ = _ by unfold rOpen; rw [if_pos h6]
    have C1 := hid (progRead_long hS (by rw [hsz]; exact h6) (by rw [hsz]; exact hs))
    have HS := hid hS
    clear hS hsz hdl
    go_enter Tryz.func26, Tryz.ntmps26
    go_wp2_with (fail)
    refine C1.out.mono ?_
    rintro e w1 ⟨rfl, hB1⟩
    have hBa := hB1.trans (((Below.refl w1.heap.size w1).alloc (Nat.le_refl _) ct0).mono hB1.size)
    have C2 := hid (errno_long (HS.out.below hBa))
    have HBa := hid hBa
    clear C1 hB1 hBa
    go_wp2_with (fail)
    refine C2.out.mono ?_
    rintro e w2 ⟨rfl, hT2⟩
    go_wp2
    go_ret2
    rw [HE.out]
    exact ⟨rfl, below_turned HBa.out hT2 HBa.out.size (fun _ _ e => e)⟩
  · have HE : Hid (rOpen S = match pRead S with | some c => (listing c, 0) | none => ([], 8)) := show _ = _ by
      unfold rOpen
      rw [if_neg h6]
      cases pRead S <;> rfl
    have C1 := hid (progRead_any (s := ⟨S.toArray⟩) hS (by rw [hsz]; omega))
    rw [hdl] at C1
    have HS := hid hS
    clear hS hsz hdl
    go_enter Tryz.func26, Tryz.ntmps26
    go_wp2_with (fail)
    refine C1.out.mono ?_
    rintro e w1 ⟨⟨ds, ls, D, L, h1, rfl, hg, hgl, hD, hL⟩ | ⟨h1, n, ev, hn, rfl, hC⟩, hB1⟩
    · have hv := (pRead_iff.1 h1).2
      rw [h1] at HE
      have HV := hid (VC.tellable hv)
      obtain ⟨gD, cD, aoD, hDe, _, _⟩ := ownsRow_shape hD
      obtain ⟨xs, hx1, hx2, hx3⟩ := hL
      obtain ⟨gL, cL, aoL, hLe, _, _⟩ := ownsRow_shape hx2
      have HL : Hid (ListsAt w1 w.heap.size (lensOf ds) L ls) := ⟨xs, hx1, hx2, hx3⟩
      obtain ⟨dl, hdl⟩ : ∃ k, k = ds.length := ⟨_, rfl⟩
      obtain ⟨xl, hxl⟩ : ∃ k, k = xs.length := ⟨_, rfl⟩
      rw [← hdl] at hDe
      rw [← hxl] at hLe
      subst hDe hLe
      have hBq := ((Below.refl w1.heap.size w1).alloc (Nat.le_refl _) (.cells #[.slice aoD dl cD, .slice aoL xl cL] 91))
      have hTq := Turned.ofBelow (Z := fun _ => False) hBq
      have HBa := hid (hB1.trans (hBq.mono hB1.size))
      have HDa := hid (ownsRow_turned hD hTq (fun _ _ e => e))
      have HLa := hid (HL.out.turned hTq (fun _ _ e => e))
      have C2 := hid (errno_nil (HS.out.below HBa.out))
      have HNq := hid (heap_alloc_new w1 (.cells #[.slice aoD dl cD, .slice aoL xl cL] 91))
      clear C1 hB1 hD hx1 hx2 hx3 hg hgl hv h1 hdl hxl hTq hBq HL
      go_wp2_with (fail)
      refine C2.out.mono ?_
      generalize w1.alloc (.cells #[.slice aoD dl cD, .slice aoL xl cL] 91) = wa at *
      rintro e w2 ⟨rfl, hT2⟩
      have HB2 := hid (below_turned HBa.out hT2 HBa.out.size (fun _ _ e => e))
      have C3 := hid (progListing (ownsRow_turned HDa.out hT2 (fun _ _ e => e)) (HLa.out.turned hT2 (fun _ _ e => e)) (HS.out.below HB2.out) HV.out)
      obtain ⟨k0, k1, _⟩ := cell_two2 ((hT2.block _ (lt_of_block' HNq.out) (fun e => e)).trans HNq.out)
      clear C2 hT2
      go_wp2_with (fail)
      refine C3.out.mono ?_
      rintro e w3 ⟨rfl, hB3⟩
      go_wp2
      go_ret2
      rw [HE.out]
      exact ⟨rfl, HB2.out.trans (hB3.mono HB2.out.size)⟩
    · rw [h1] at HE
      have HC := hid hC
      obtain ⟨u, x, rfl⟩ := hC.iface
      have hBq := ((Below.refl w1.heap.size w1).alloc (Nat.le_refl _) ct0)
      have HBa := hid (hB1.trans (hBq.mono hB1.size))
      have C2 := hid (errno_chain (HS.out.below HBa.out) (HC.out.kept hBq) hn)
      clear C1 hB1 hC h1 hBq
      go_wp2_with (fail)
      refine C2.out.mono ?_
      rintro e w2 ⟨rfl, hT2⟩
      go_wp2
      go_ret2
      rw [HE.out]
      exact ⟨rfl, below_turned HBa.out hT2 HBa.out.size (fun _ _ e => e)⟩
end Go.Proofs.YtaacjjhmojecnaaGreatDoor
