/- Texts joined: RdS, RdT. -/
import Derived.Test.YtaacjjhmojecnaaGreatDoorRdPR
import Derived.Deep.OwnRows
import Derived.Test.YtaacjjhmojecnaaGreatDoorRdEK
namespace Go.ScT
def addP (S : Nat → Nat) (p : Nat × Nat) : Nat → Nat := fun j => if j = p.1 then S p.1 + p.2 else S j
def addPs (S : Nat → Nat) (ps : Pls) : Nat → Nat := ps.foldl addP S
def addLs (S : Nat → Nat) (ls : List Lst) : Nat → Nat := ls.foldl (fun S l => addPs S l.2) S
theorem addPs_at : ∀ (ps : Pls) (S : Nat → Nat) (j : Nat), addPs S ps j = S j + ((ps.filter (·.1 == j)).map (·.2)).sum
  | [], S, j => by simp [addPs]
  | p :: r, S, j => by
    have ih := addPs_at r (addP S p) j
    rw [show addPs S (p :: r) = addPs (addP S p) r from rfl, ih]
    by_cases h : p.1 = j
    · subst h
      simp [addP, Nat.add_assoc]
    · have h2 : ¬ j = p.1 := fun e => h e.symm
      simp [addP, h, h2]
theorem addLs_at : ∀ (ls : List Lst) (S : Nat → Nat) (j : Nat), addLs S ls j = S j + sumAt ls j
  | [], S, j => by simp [addLs, sumAt]
  | l :: r, S, j => by
    have ih := addLs_at r (addPs S l.2) j
    rw [show addLs S (l :: r) = addLs (addPs S l.2) r from rfl, ih, addPs_at]
    simp [sumAt, Nat.add_assoc]
theorem sumsOk_iff {ds : List DocP} {ls : List Lst} : sumsOk ds ls = true ↔ ∀ i, i < ds.length → addLs (fun _ => 0) ls i = (lensOf ds).getD i 0 := by
  unfold sumsOk
  simp [List.all_eq_true, addLs_at]
end Go.ScT
namespace Go.Proofs.YtaacjjhmojecnaaGreatDoor
open Go.RowKit Go.ScT Go.Proofs

theorem cmp_make (n : Nat) (hn : n ≤ 1000) (w : World) : (Instr.makeSlice 35 (.int .i64 (n : Int)) (.int .i64 (n : Int))).run Tryz.prog w = .ok (.slice (some ⟨w.heap.size, 0, none⟩) n n) (w.alloc (.cells (madeCells #[.int .i64 0] n) 3)) :=
  run_make_row' (P := Tryz.prog) 35 3 (.int .i64 0) 8 Tryz.underlying35 (by kernel_rfl) rfl .i64 .i64 n (by omega) (by omega) w
set_option maxHeartbeats 2000000 in
set_option maxRecDepth 1000000 in
theorem compareLengths_any {w : World} {b base base2 base3 cD gD : Nat} {A : Nat → Addr} {s : ByteArray} {r : Bs} {L : Value} {ds : List DocP} {ls : List Lst} (h : PAt w b s r (.slice (some ⟨gD, 0, none⟩) ds.length cD) L) (hD : DRow w base2 (.slice (some ⟨gD, 0, none⟩) ds.length cD) ds) (hS : Sent w A base) (hL : ListsAt w base3 (lensOf ds) L ls) (hn : ds.length ≤ 100) (hdl : ∀ d ∈ ds, d.2.2 ≤ 1000)
    (h4 : ls.length ≤ 4000) (hl1 : ∀ l ∈ ls, l.2.length ≤ 100) (hl2 : ∀ l ∈ ls, ∀ p ∈ l.2, p.1 < ds.length ∧ p.2 ≤ 256) :
    Calls Tryz.prog 87 #[.pointer (some ⟨b, 0, none⟩)] w fun e w' => ((sumsOk ds ls = true ∧ e = .returned .nilIface) ∨ (sumsOk ds ls = false ∧ ∃ ev, e = .returned ev ∧ Chain w' A 1 ev)) ∧ Below w.heap.size w w' := by
  obtain ⟨xs, hxs, hLR, hNm⟩ := hL
  have hbl := h.lt
  have hgDl := (hD.lt gD rfl).2
  obtain ⟨gL, cL, ao, hLe, hLo, hLa⟩ := ownsRow_shape hLR
  subst hLe
  have hgL : 0 < xs.length → gL < w.heap.size := fun hp => (hLR.lt gL (by rw [hLa hp]; rfl)).2
  obtain ⟨at_, hpc, hat, _⟩ := h
  have hsl := hat
  obtain ⟨c0, c1, c2, c3, _⟩ := cell_par hpc
  obtain ⟨n, hnn⟩ : ∃ n, n = ds.length := ⟨_, rfl⟩
  have HNN := hid hnn
  rw [← hnn] at hn hD c2
  have hmk := cmp_make n (by omega) w
  obtain ⟨m, hmm⟩ : ∃ m, m = xs.length := ⟨_, rfl⟩
  have HMM := hid hmm
  have hm4 : m ≤ 4000 := by rw [hmm, ← List.length_map (f := fun x : LstV => x.1), hxs]; exact h4
  rw [← hmm] at hLR c3 hgL hLa
  have HLR := hid hLR
  have HNm := hid hNm
  have HD := hid hD
  have HS := hid hS
  have HDL := hid hdl
  have HX := hid hxs
  have HL1 := hid hl1
  have HL2 := hid hl2
  have HRW := hid (World.rowIs_made w (.int .i64 0) n 3)
  have HB0 := hid ((Below.refl w.heap.size w).alloc (Nat.le_refl _) (.cells (madeCells #[.int .i64 0] n) 3))
  have C2 := hid c2
  have C1 := hid c1
  have d2 := below_c HB0.out hbl c2
  have d3 := below_c HB0.out hbl c3
  clear hpc hat hLR hNm hD hS hdl hxs hl1 hl2 hnn hmm h4 c0 c1 c3
  go_enter Tryz.func87, Tryz.ntmps87
  go_wp2_with (fail)
  generalize w.alloc (.cells (madeCells #[.int .i64 0] n) 3) = w0 at *
  clear hmk
  go_wp2_with (fail)
  go_loopw [23] (fun s23 wr => ∃ (i : Nat) (S : Nat → Nat), s23 = .int .i64 (i : Int) ∧ i ≤ m ∧ Hid (∀ j, S j ≤ i * 30000) ∧ Hid (wr.rowIs w.heap.size 3 n (fun j => natV (S j))) ∧ Hid (Below w.heap.size w wr) ∧ Hid (addLs S (ls.drop i) = addLs (fun _ => 0) ls)) (fun s23 _ => m - (intOf s23).toNat)
  case atStart => exact ⟨0, fun _ => 0, rfl, by omega, fun j => by simp, HRW, HB0, rfl⟩
  case round =>
    obtain ⟨i, S, rfl, hi, HSb, HR, HB, HE⟩ := hrel
    by_cases hlt : i < m
    · have hlti : (i : Int) < (m : Int) := by omega
      obtain ⟨x, hx⟩ : ∃ x, xs[i]? = some x := ⟨_, List.getElem?_eq_getElem (by rw [← HMM.out]; exact hlt)⟩
      have hxm := List.mem_of_getElem? hx
      have hlx : ls[i]? = some x.1 := by rw [← HX.out, List.getElem?_map, hx]; rfl
      have hlm := List.mem_of_getElem? hlx
      obtain ⟨hPR, hHR⟩ := HNm.out x hxm
      have hq1 := HL1.out _ hlm
      have hq2 := HL2.out _ hlm
      obtain rfl := hLa (by omega)
      have hgl := hgL (by omega)
      obtain ⟨e0, e1, e2⟩ := lsC_get hx
      have q0 : w.ownsRow base3 167 3 (.slice (some ⟨gL, 0, none⟩) m cL) m (lsC xs) := by
        have h1 := HLR.out
        unfold LRow at h1
        rw [← HMM.out] at h1
        exact h1
      have q1 := q0.cellAt (i * 3) (by omega)
      have q2 := q0.cellAt (i * 3 + 1) (by omega)
      have q3 := q0.cellAt (i * 3 + 2) (by omega)
      rw [e0] at q1
      rw [e1] at q2
      rw [e2] at q3
      rw [← HB.out.cell hgl] at q1 q2 q3
      rw [drop_at hlx] at HE
      obtain ⟨⟨tk, ps⟩, vP, vH⟩ := x
      simp only at q1 q2 q3 hPR hHR hq1 hq2
      obtain ⟨gP, cP, aoP, hvP, _, hPa⟩ := ownsRow_shape hPR
      obtain ⟨gH, cH, aoH, hvH, _, _⟩ := ownsRow_shape hHR
      have hgP : 0 < ps.length → gP < w.heap.size := fun hp => (hPR.lt gP (by rw [hvP, hPa hp]; rfl)).2
      obtain ⟨k, hk⟩ : ∃ k, k = ps.length := ⟨_, rfl⟩
      obtain ⟨k2, hk2⟩ : ∃ k, k = (hdsOf (lensOf ds) ps).length := ⟨_, rfl⟩
      rw [← hk2] at hvH
      rw [← hk] at hvP hPa hq1 hgP
      have HPR := hid hPR
      have HK := hid hk
      have HQ2 := hid hq2
      subst hvP hvH
      have hwsz := HB.out.size
      have hrsz := HR.out.lt
      clear e0 e1 e2 q0 hx hxm hlx hlm hPR hHR hk hk2 hq2
      go_wp2_with (fail)
      have HB2 := hid (HB.out.trans (((Below.refl wr.heap.size wr).alloc (Nat.le_refl _) (.cells #[lstV tk, .slice aoP k cP, .slice aoH k2 cH] 167)).mono hwsz))
      have HR2 := hid (HR.out.alloc (.cells #[lstV tk, .slice aoP k cP, .slice aoH k2 cH] 167))
      generalize wr.alloc (.cells #[lstV tk, .slice aoP k cP, .slice aoH k2 cH] 167) = w5 at *
      clear q1 q2 q3
      go_loopw [30] (fun s30 wr => ∃ (u : Nat) (T : Nat → Nat), s30 = .int .i64 (u : Int) ∧ u ≤ k ∧ Hid (∀ j, T j ≤ i * 30000 + u * 256) ∧ Hid (wr.rowIs w.heap.size 3 n (fun j => natV (T j))) ∧ Hid (Below w.heap.size w wr) ∧ Hid (addPs T (ps.drop u) = addPs S ps)) (fun s30 _ => k - (intOf s30).toNat)
      case atStart => exact ⟨0, S, rfl, by omega, fun j => by have := HSb.out j; omega, HR2, HB2, rfl⟩
      case round =>
        obtain ⟨u, T, rfl, hu, HTb, HRq, HBq, HEq⟩ := hrel
        by_cases hlu : u < k
        · have hlui : (u : Int) < (k : Int) := by omega
          obtain ⟨p, hp⟩ : ∃ p, ps[u]? = some p := ⟨_, List.getElem?_eq_getElem (by rw [← HK.out]; exact hlu)⟩
          obtain ⟨hp1, hp2⟩ := HQ2.out p (List.mem_of_getElem? hp)
          rw [← HNN.out] at hp1
          obtain rfl := hPa (by omega)
          have hgp := hgP (by omega)
          obtain ⟨e0, e1⟩ := plC_get hp
          have q0 : w.ownsRow base3 169 2 (.slice (some ⟨gP, 0, none⟩) k cP) k (plC ps) := by
            have h1 := HPR.out
            unfold PRow at h1
            rw [← HK.out] at h1
            exact h1
          have q1 := q0.cellAt (u * 2) (by omega)
          have q2 := q0.cellAt (u * 2 + 1) (by omega)
          rw [e0] at q1
          rw [e1] at q2
          rw [← HBq.out.cell hgp] at q1 q2
          rw [drop_at hp] at HEq
          obtain ⟨x, y⟩ := p
          simp only at q1 q2 hp1 hp2
          have htb := HTb.out x
          have hqsz := HRq.out.lt
          have hqw := HBq.out.size
          clear e0 e1 q0 hp
          go_wp2_with (fail)
          have r0 := (HRq.out.alloc (.cells #[.int .i64 (x : Int), .int .i64 (y : Int)] 169)).cell hp1
          have r1 := (HRq.out.alloc (.cells #[.int .i64 (x : Int), .int .i64 (y : Int)] 169)).frozen x
          have HN := heap_alloc_new wr (.cells #[.int .i64 (x : Int), .int .i64 (y : Int)] 169)
          have r2 := cell_of_block2 (j := 0) HN
          have r3 := cell_of_block2 (j := 1) HN
          have HB6 := hid (HBq.out.trans (((Below.refl wr.heap.size wr).alloc (Nat.le_refl _) (.cells #[.int .i64 (x : Int), .int .i64 (y : Int)] 169)).mono hqw))
          have HR6 := hid (HRq.out.alloc (.cells #[.int .i64 (x : Int), .int .i64 (y : Int)] 169))
          generalize wr.alloc (.cells #[.int .i64 (x : Int), .int .i64 (y : Int)] 169) = w6 at *
          have r2' : w6.cell? ⟨wr.heap.size, 0, none⟩ = some (.int .i64 (x : Int)) := r2
          have r3' : w6.cell? ⟨wr.heap.size, 1, none⟩ = some (.int .i64 (y : Int)) := r3
          have hxi : (x : Int) < (n : Int) := by omega
          clear HN r2 r3 q1 q2
          generalize hTx : T x = tx at *
          have HTX := hid hTx
          clear hTx
          go_region
          have hTs : Turned (fun j => j = w.heap.size) w6 (w6.setCell ⟨w.heap.size, x, none⟩ (.int .i64 ((tx : Int) + (y : Int)))).drew := (Turned.ofSet (Z := fun j => j = w.heap.size) _ _ _ rfl).trans (Turned.drw _)
          have HB7 := hid (below_turned HB6.out hTs (HB6.out.size) (fun j hj => by omega))
          have HR7 : Hid ((w6.setCell ⟨w.heap.size, x, none⟩ (.int .i64 ((tx : Int) + (y : Int)))).drew.rowIs w.heap.size 3 n (fun j => natV (addP T (x, y) j))) := ((HR6.out.set x (.int .i64 ((tx : Int) + (y : Int)))).drew).congr (fun j hj => by
            by_cases e : j = x
            · simp only [addP, e, if_true]
              rw [HTX.out]
              exact congrArg (Value.int .i64) (by omega)
            · simp only [addP, e, if_false])
          generalize (w6.setCell ⟨w.heap.size, x, none⟩ (.int .i64 ((tx : Int) + (y : Int)))).drew = w7 at *
          have HTb7 : Hid (∀ j, addP T (x, y) j ≤ i * 30000 + (u + 1) * 256) := fun j => by
            have h1 := HTb.out j
            have h2 := HTb.out x
            simp only [addP]
            split <;> omega
          go_wp2_with (fail)
          go_roundw
          case rel => exact ⟨u + 1, addP T (x, y), by go_num, by omega, HTb7, HR7, HB7, HEq⟩
          case measure => simp [intOf]; omega
        · have hlui : ¬ ((u : Int) < (k : Int)) := by omega
          obtain rfl : u = k := by omega
          have HTe : Hid (T = addPs S ps) := show _ = _ by
            rw [← HEq.out, HK.out, List.drop_length]; rfl
          go_wp2_with (fail)
          go_roundw
          case rel =>
            refine ⟨i + 1, T, by go_num, by omega, fun j => by have := HTb.out j; omega, HRq, HBq, ?_⟩
            show _ = _
            rw [HTe.out, ← HE.out]
            rfl
          case measure => simp [intOf]; omega
    · have hlti : ¬ ((i : Int) < (m : Int)) := by omega
      have HSe : Hid (S = addLs (fun _ => 0) ls) := show _ = _ by
        rw [← HE.out, List.drop_eq_nil_of_le]
        · rfl
        · rw [← HX.out, List.length_map, ← HMM.out]; omega
      have d2r := below_c HB.out hbl C2.out
      have d1r := below_c HB.out hbl C1.out
      clear hLa hgL
      go_wp2_with (fail)
      go_loopw [51] (fun s51 wr => ∃ (u : Nat), s51 = .int .i64 (u : Int) ∧ u ≤ n ∧ Hid (∀ j, j < u → S j = (lensOf ds).getD j 0) ∧ Hid (wr.rowIs w.heap.size 3 n (fun j => natV (S j))) ∧ Hid (Below w.heap.size w wr)) (fun s51 _ => n - (intOf s51).toNat)
      case atStart => exact ⟨0, rfl, by omega, fun j hj => by omega, HR, HB⟩
      case round =>
        obtain ⟨u, rfl, hu, HQ, HRq, HBq⟩ := hrel
        by_cases hlu : u < n
        · have hlui : (u : Int) < (n : Int) := by omega
          obtain ⟨d, hd⟩ : ∃ d, ds[u]? = some d := ⟨_, List.getElem?_eq_getElem (by rw [← HNN.out]; exact hlu)⟩
          have hdx := HDL.out d (List.mem_of_getElem? hd)
          have hlen : (lensOf ds).getD u 0 = d.2.2 := by simp [lensOf, hd]
          obtain ⟨q0, q1, q2⟩ := HD.out.cells hd
          rw [← HBq.out.cell hgDl] at q0 q1 q2
          obtain ⟨z1, z2, z3⟩ := d
          simp only at q0 q1 q2 hdx hlen
          have HLe := hid hlen
          have hqsz := HRq.out.lt
          have hqw := HBq.out.size
          have hsb := HSb.out u
          clear hd hlen
          go_wp2_with (fail)
          have r0 := (HRq.out.alloc (.cells #[.int .i64 (z1 : Int), lstV z2, .int .i64 (z3 : Int)] 141)).cell hlu
          have HN := heap_alloc_new wr (.cells #[.int .i64 (z1 : Int), lstV z2, .int .i64 (z3 : Int)] 141)
          have r2 : (wr.alloc (.cells #[.int .i64 (z1 : Int), lstV z2, .int .i64 (z3 : Int)] 141)).cell? ⟨wr.heap.size, 2, none⟩ = some (.int .i64 (z3 : Int)) := cell_of_block2 (j := 2) HN
          have HB6 := hid (HBq.out.trans (((Below.refl wr.heap.size wr).alloc (Nat.le_refl _) (.cells #[.int .i64 (z1 : Int), lstV z2, .int .i64 (z3 : Int)] 141)).mono hqw))
          have HR6 := hid (HRq.out.alloc (.cells #[.int .i64 (z1 : Int), lstV z2, .int .i64 (z3 : Int)] 141))
          generalize wr.alloc (.cells #[.int .i64 (z1 : Int), lstV z2, .int .i64 (z3 : Int)] 141) = w6 at *
          clear HN q0 q1 q2
          generalize hSu : S u = su at *
          have HSu := hid hSu
          clear hSu
          by_cases heq : su = z3
          · subst heq
            go_quiet (fail)
            go_wp2_with (fail)
            go_roundw
            case rel =>
              refine ⟨u + 1, by go_num, by omega, fun j hj => ?_, HR6, ⟨HB6.out.os, HB6.out.tape, HB6.out.output, HB6.out.size, HB6.out.block⟩⟩
              by_cases e : j = u
              · subst e; rw [HSu.out, HLe.out]
              · exact HQ.out j (by omega)
            case measure => simp [intOf]; omega
          · have hne : ¬ ((su : Int) = (z3 : Int)) := by omega
            go_quiet (fail)
            go_wp2_with (fail)
            have HB8 : Hid (Below w.heap.size w (w6.drewN nq)) := ⟨HB6.out.os, HB6.out.tape, HB6.out.output, HB6.out.size, HB6.out.block⟩
            generalize w6.drewN nq = w8 at HB8 ⊢
            have d1r2 := below_c HB8.out hbl C1.out
            have HS8 := hid (HS.out.below HB8.out)
            have g3 := HS8.out.cell 3 (by simp)
            have hsz8 := HB8.out.size
            have HOB := hid (heap_alloc_new w8 (.cells #[.int .i64 (at_ : Int), .iface 404 (.pointer (some (A 3)))] 253))
            have CI : Hid (Calls Tryz.prog 168 #[lstV [100, 111, 99, 117, 109, 101, 110, 116], .int .i64 (u : Int), .iface 116 (.pointer (some ⟨w8.heap.size, 0, none⟩))] (w8.alloc (.cells #[.int .i64 (at_ : Int), .iface 404 (.pointer (some (A 3)))] 253)).drew fun e w'' => ∃ ev', e = .returned ev' ∧ Chain w'' A (0 + 1) ev' ∧ Below w.heap.size w w'') := by
              have hb1 := (Below.refl w8.heap.size w8).alloc (Nat.le_refl _) (.cells #[.int .i64 (at_ : Int), .iface 404 (.pointer (some (A 3)))] 253)
              have hs1 : Sent (w8.alloc (.cells #[.int .i64 (at_ : Int), .iface 404 (.pointer (some (A 3)))] 253)).drew A base := (HS8.out.below hb1).turned (Turned.drw (Z := fun _ => False) _) (fun _ _ e => e)
              have hc1 : Chain (w8.alloc (.cells #[.int .i64 (at_ : Int), .iface 404 (.pointer (some (A 3)))] 253)).drew A 0 (.iface 116 (.pointer (some ⟨w8.heap.size, 0, none⟩))) := Chain.at_ (k := 3) (z := at_) HOB.out (by simp) (by decide)
              have hb2 := HB8.out.trans (hb1.mono hsz8)
              refine (inOneOf_any _ A base 0 _ u _ hs1 hc1 (by simp) (by omega)).mono fun e w'' ⟨ev', h1, h2, h3⟩ => ⟨ev', h1, h2, below_turned hb2 (Turned.ofBelow (Z := fun _ => False) (⟨h3.os, h3.tape, h3.output, h3.size, h3.block⟩ : Below (w8.alloc (.cells #[.int .i64 (at_ : Int), .iface 404 (.pointer (some (A 3)))] 253)).heap.size (w8.alloc (.cells #[.int .i64 (at_ : Int), .iface 404 (.pointer (some (A 3)))] 253)) w'')) hb2.size (fun _ _ e => e)⟩
            have HF : Hid (sumsOk ds ls = false) := show _ = _ by
              cases hso : sumsOk ds ls with
              | false => rfl
              | true =>
                have h1 := sumsOk_iff.1 hso u (by rw [← HNN.out]; exact hlu)
                rw [← HSe.out, HSu.out, HLe.out] at h1
                exact absurd h1 heq
            clear heq
            go_region_with (first | (go_at_call 168; refine CI.out.mono ?_; rintro e w4 ⟨ev', rfl, hC4, hb4⟩; have HC4 := hid hC4; obtain ⟨u4, x4, rfl⟩ := hC4.iface; clear hC4))
            all_goals
              go_wp2
              go_ret
              exact ⟨Or.inr ⟨HF.out, _, rfl, HC4.out⟩, hb4⟩
        · have hlui : ¬ ((u : Int) < (n : Int)) := by omega
          have HF : Hid (sumsOk ds ls = true) := sumsOk_iff.2 (fun j hj => by rw [← HSe.out]; exact HQ.out j (by rw [← HNN.out] at hj; omega))
          go_wp2
          go_ret
          exact ⟨Or.inl ⟨HF.out, rfl⟩, HBq.out⟩
end Go.Proofs.YtaacjjhmojecnaaGreatDoor

namespace Go.ScT
def pRest4 (S : Bs) (c : Cont) (r : Bs) : Option Cont := (Go.Proofs.YtaacjjhmojecnaaGreatDoor.pChk S r).bind fun t => if t = [] then some c else none
def pRest2 (S : Bs) (ds : List DocP) (r : Bs) : Option Cont := (pListsN (lensOf ds) r).bind fun l => if sumsOk ds l.1 = true then pRest4 S (ds, l.1) l.2 else none
def pRest1 (S r : Bs) : Option Cont := (Go.Proofs.YtaacjjhmojecnaaGreatDoor.pDocsN r).bind fun d => pRest2 S d.1 d.2
theorem pRead_eq (S : Bs) : pRead S = (pTake 2 S).bind fun m => if m.1 = [83, 71] then pRest1 S m.2 else none := by
  unfold pRead pBodyC
  cases pTake 2 S with
  | none => rfl
  | some m =>
    simp only [Option.bind_some]
    by_cases hm : m.1 = [83, 71]
    · simp only [hm, if_true, pRest1, Go.Proofs.YtaacjjhmojecnaaGreatDoor.pDocsN]
      cases pNum 1 100 m.2 with
      | none => rfl
      | some n =>
        simp only [Option.bind_some]
        cases pDocs n.1 0 [] n.2 with
        | none => rfl
        | some d =>
          simp only [Option.bind_some, pRest2, pListsN]
          cases pNum 0 4000 d.2 with
          | none => rfl
          | some k =>
            simp only [Option.bind_some]
            cases pLists (lensOf d.1) k.1 [] k.2 with
            | none => rfl
            | some l =>
              simp only [Option.bind_some, pRest4, Go.Proofs.YtaacjjhmojecnaaGreatDoor.pChk]
              by_cases hs : sumsOk d.1 l.1 = true
              · simp only [hs, if_true]
                cases pTake 4 l.2 with
                | none => rfl
                | some c =>
                  simp only [Option.bind_some]
                  by_cases hc : c.1 = chk (S.take (S.length - l.2.length))
                  · simp [hc]
                  · simp [hc]
              · simp [hs]
    · simp [hm]
def GoodDs (ds : List DocP) : Prop := 1 ≤ ds.length ∧ ds.length ≤ 100 ∧ ∀ d ∈ ds, d.2.2 ≤ 1000
theorem okDocs_len : ∀ {ds : List DocP} {b : Nat} {seen : List Bs}, OkDocs b seen ds → ∀ d ∈ ds, d.2.2 ≤ 40
  | [], _, _, _, d, h => by simp at h
  | e :: r, b, seen, h, d, hd => by
    rcases List.mem_cons.1 hd with rfl | hd
    · exact h.2.2.1
    · exact okDocs_len h.2.2.2.2.2 d hd
theorem pDocsN_good {r t : Bs} {ds : List DocP} (h : Go.Proofs.YtaacjjhmojecnaaGreatDoor.pDocsN r = some (ds, t)) : GoodDs ds := by
  obtain ⟨⟨n, t1⟩, h1, h2⟩ := Option.bind_eq_some_iff.1 h
  have hn := (pNum_iff (by omega)).1 h1
  obtain ⟨_, h3, h4⟩ := pDocs_iff.1 h2
  simp only at h3 h4 hn
  exact ⟨by omega, by omega, fun d hd => by have := okDocs_len h4 d hd; omega⟩
def GoodLs (ds : List DocP) (ls : List Lst) : Prop := ls.length ≤ 4000 ∧ (∀ l ∈ ls, l.2.length ≤ 100) ∧ ∀ l ∈ ls, ∀ p ∈ l.2, p.1 < ds.length ∧ p.2 ≤ 256
theorem okLists_all {lens : List Nat} : ∀ {ls : List Lst} {b : Bs}, OkLists lens b ls → ∀ l ∈ ls, l.2.length ≤ lens.length ∧ LV lens 0 l.2
  | [], _, _, l, h => by simp at h
  | e :: r, b, h, l, hl => by
    rcases List.mem_cons.1 hl with rfl | hl
    · exact ⟨h.2.2.2.1, h.2.2.2.2.1⟩
    · exact okLists_all h.2.2.2.2.2 l hl
theorem pListsN_good {ds : List DocP} {r t : Bs} {ls : List Lst} (hd : GoodDs ds) (h : pListsN (lensOf ds) r = some (ls, t)) : GoodLs ds ls := by
  obtain ⟨⟨n, t1⟩, h1, h2⟩ := Option.bind_eq_some_iff.1 h
  have hn := (pNum_iff (by omega)).1 h1
  have hll := lensOf_len ds
  have h100 := hd.2.1
  obtain ⟨_, h3, h4⟩ := (pLists_iff (by omega)).1 h2
  simp only at h3 h4 hn
  refine ⟨by omega, fun l hl => by have := (okLists_all h4 l hl).1; omega, fun l hl p hp => ?_⟩
  have := (okLists_all h4 l hl).2.mem p hp
  exact ⟨by omega, by omega⟩
end Go.ScT
namespace Go.Proofs.YtaacjjhmojecnaaGreatDoor
open Go.RowKit Go.ScT Go.Proofs

theorem ListsAt.mono {w : World} {b1 b2 : Nat} {lens : List Nat} {L : Value} {ls : List Lst} (h : ListsAt w b2 lens L ls) (hb : b1 ≤ b2) : ListsAt w b1 lens L ls := by
  obtain ⟨xs, h1, h2, h3⟩ := h
  exact ⟨xs, h1, World.ownsRow.mono h2 hb, fun x hx => ⟨World.ownsRow.mono (h3 x hx).1 hb, World.ownsRow.mono (h3 x hx).2 hb⟩⟩
/-- How far the reader has come. -/
def Stg (b : Nat) (s : ByteArray) (R : Option Cont) : Nat → World → Prop
  | 0, w => PAt w b s s.data.toList (.slice none 0 0) (.slice none 0 0) ∧ R = pRead s.data.toList
  | 1, w => ∃ r, PAt w b s r (.slice none 0 0) (.slice none 0 0) ∧ R = pRest1 s.data.toList r
  | 2, w => ∃ r ds gD cD, PAt w b s r (.slice (some ⟨gD, 0, none⟩) ds.length cD) (.slice none 0 0) ∧ DRow w (b + 1) (.slice (some ⟨gD, 0, none⟩) ds.length cD) ds ∧ GoodDs ds ∧ R = pRest2 s.data.toList ds r
  | k + 3, w => ∃ r ds gD cD ls L, PAt w b s r (.slice (some ⟨gD, 0, none⟩) ds.length cD) L ∧ DRow w (b + 1) (.slice (some ⟨gD, 0, none⟩) ds.length cD) ds ∧ GoodDs ds ∧ ListsAt w (b + 1) (lensOf ds) L ls ∧ GoodLs ds ls ∧
      R = match k with | 0 => (if sumsOk ds ls = true then pRest4 s.data.toList (ds, ls) r else none) | 1 => pRest4 s.data.toList (ds, ls) r | 2 => (if r = [] then some (ds, ls) else none) | _ => some (ds, ls)
theorem Stg.turned {b : Nat} {s : ByteArray} {R : Option Cont} {Z : Nat → Prop} {w w' : World} : ∀ {i : Nat}, Stg b s R i w → Turned Z w w' → (∀ g, b ≤ g → g < w.heap.size → ¬ Z g) → Stg b s R i w'
  | 0, ⟨h, hr⟩, ht, hz => ⟨h.turned ht (hz b (Nat.le_refl _) h.lt), hr⟩
  | 1, ⟨r, h, hr⟩, ht, hz => ⟨r, h.turned ht (hz b (Nat.le_refl _) h.lt), hr⟩
  | 2, ⟨r, ds, gD, cD, h, hD, hg, hr⟩, ht, hz => ⟨r, ds, gD, cD, h.turned ht (hz b (Nat.le_refl _) h.lt), ownsRow_turned hD ht (fun g hg => hz g (by have := (hD.lt g hg).1; omega) (hD.lt g hg).2), hg, hr⟩
  | k + 3, ⟨r, ds, gD, cD, ls, L, h, hD, hg, ⟨xs, h1, h2, h3⟩, hgl, hr⟩, ht, hz => ⟨r, ds, gD, cD, ls, L, h.turned ht (hz b (Nat.le_refl _) h.lt), ownsRow_turned hD ht (fun g hg => hz g (by have := (hD.lt g hg).1; omega) (hD.lt g hg).2), hg,
      ⟨xs, h1, ownsRow_turned h2 ht (fun g hg => hz g (by have := (h2.lt g hg).1; omega) (h2.lt g hg).2), h3.turned ht (fun g c t f hg hc _ => hz g (by omega) (lt_of_block' hc))⟩, hgl, hr⟩
/-- What a part ends with. -/
def StepEnds (w w' : World) (b : Nat) (A : Nat → Addr) (s : ByteArray) (R : Option Cont) (i : Nat) (e : Ending) : Prop :=
  ((e = .returned .nilIface ∧ Stg b s R (i + 1) w') ∨ (R = none ∧ ∃ n ev, e = .returned ev ∧ n ≤ 2 ∧ Chain w' A n ev)) ∧ Turned (fun i => i = b) w w'
theorem step_any {w : World} {b base : Nat} {A : Nat → Addr} {s : ByteArray} {R : Option Cont} (hS : Sent w A base) (hb : base ≤ b) (hs : s.size ≤ 60000) : ∀ {i : Nat}, i < 6 → Stg b s R i w → Calls Tryz.prog (84 + i) #[.pointer (some ⟨b, 0, none⟩)] w fun e w' => StepEnds w w' b A s R i e
  | 0, _, ⟨h, hr⟩ => by
    rw [pRead_eq] at hr
    cases h1 : pTake 2 s.data.toList with
    | none =>
      rw [h1] at hr
      exact (readMark_e0 h hS hs h1).mono fun e w' ⟨ev, h1, h2, h3⟩ => ⟨Or.inr ⟨hr, 0, ev, h1, by omega, h2⟩, h3⟩
    | some y =>
      obtain ⟨x, t⟩ := y
      rw [h1] at hr
      simp only [Option.bind_some] at hr
      by_cases hx : x = [83, 71]
      · subst hx
        simp only [if_true] at hr
        exact (readMark_ok h hs h1).mono fun e w' ⟨h1, h2, h3⟩ => ⟨Or.inl ⟨h1, t, h2, hr⟩, h3⟩
      · rw [if_neg hx] at hr
        exact (readMark_e1 h hS hb hs h1 hx).mono fun e w' ⟨ev, h1, h2, h3⟩ => ⟨Or.inr ⟨hr, 0, ev, h1, by omega, h2⟩, h3⟩
  | 1, _, ⟨r, h, hr⟩ => by
    have hbl := h.lt
    refine (readDocuments_any h hS hb hs).mono ?_
    rintro e w' ⟨⟨⟨ds, t, D, h1, h2, h3⟩, rfl⟩ | ⟨h1, n, ev, rfl, hn, hC⟩, hT⟩
    · have hg := pDocsN_good h1
      unfold pRest1 at hr
      rw [h1] at hr
      obtain ⟨gD, cD, rfl, hgD, _⟩ := h3.form (show 0 < ds.length by have := hg.1; omega)
      exact ⟨Or.inl ⟨rfl, t, ds, gD, cD, h2, World.ownsRow.mono h3 (by omega), hg, hr⟩, hT⟩
    · unfold pRest1 at hr
      rw [h1] at hr
      exact ⟨Or.inr ⟨hr, n, ev, rfl, hn, hC⟩, hT⟩
  | 2, _, ⟨r, ds, gD, cD, h, hD, hg, hr⟩ => by
    have hbl := h.lt
    refine (readLists_any h hD (by omega) hS hb hs hg.1 hg.2.1 hg.2.2).mono ?_
    rintro e w' ⟨⟨⟨ls, t, L, h1, h2, h3⟩, rfl⟩ | ⟨h1, n, ev, rfl, hn, hC⟩, hT⟩
    · unfold pRest2 at hr
      rw [h1] at hr
      exact ⟨Or.inl ⟨rfl, t, ds, gD, cD, ls, L, h2, ownsRow_turned hD hT (fun g hg e => by have := (hD.lt g hg).1; omega), hg, h3.mono (by omega), pListsN_good hg h1, hr⟩, hT⟩
    · unfold pRest2 at hr
      rw [h1] at hr
      exact ⟨Or.inr ⟨hr, n, ev, rfl, hn, hC⟩, hT⟩
  | 3, _, ⟨r, ds, gD, cD, ls, L, h, hD, hg, hL, hgl, hr⟩ => by
    refine (compareLengths_any h hD hS hL hg.2.1 hg.2.2 hgl.1 hgl.2.1 hgl.2.2).mono ?_
    rintro e w' ⟨⟨h1, rfl⟩ | ⟨h1, ev, rfl, hC⟩, hB⟩
    · have hT := Turned.ofBelow (Z := fun _ => False) hB
      simp only [h1, if_true] at hr
      exact ⟨Or.inl ⟨rfl, r, ds, gD, cD, ls, L, h.turned hT (fun e => e), ownsRow_turned hD hT (fun _ _ e => e), hg, hL.turned hT (fun _ _ e => e), hgl, hr⟩, Turned.ofBelow hB⟩
    · simp only [h1] at hr
      exact ⟨Or.inr ⟨hr, 1, ev, rfl, by omega, hC⟩, Turned.ofBelow hB⟩
  | 4, _, ⟨r, ds, gD, cD, ls, L, h, hD, hg, hL, hgl, hr⟩ => by
    refine (readCheck_any h hS hb hs).mono ?_
    rintro e w' ⟨⟨t, h1, rfl, h2⟩ | ⟨h1, ev, rfl, hC⟩, hT⟩
    · simp only [pRest4, h1, Option.bind_some] at hr
      exact ⟨Or.inl ⟨rfl, t, ds, gD, cD, ls, L, h2, ownsRow_turned hD hT (fun g hg e => by have := (hD.lt g hg).1; omega), hg, hL.turned hT (fun g hg e => by omega), hgl, hr⟩, hT⟩
    · simp only [pRest4, h1] at hr
      exact ⟨Or.inr ⟨hr, 0, ev, rfl, by omega, hC⟩, hT⟩
  | 5, _, ⟨r, ds, gD, cD, ls, L, h, hD, hg, hL, hgl, hr⟩ => by
    refine (readEnd_any h hS).mono ?_
    rintro e w' ⟨⟨h1, rfl, h2⟩ | ⟨h1, ev, rfl, hC⟩, hT⟩
    · simp only [h1, if_true] at hr
      exact ⟨Or.inl ⟨rfl, r, ds, gD, cD, ls, L, h2, ownsRow_turned hD hT (fun g hg e => by have := (hD.lt g hg).1; omega), hg, hL.turned hT (fun g hg e => by omega), hgl, hr⟩, hT⟩
    · simp only [h1, if_false] at hr
      exact ⟨Or.inr ⟨hr, 0, ev, rfl, by omega, hC⟩, hT⟩
  | i + 6, h, _ => by omega
end Go.Proofs.YtaacjjhmojecnaaGreatDoor
