/- Texts joined: RdL, RdM, RdN, RdO. -/
import Derived.Test.YtaacjjhmojecnaaGreatDoorRdEK
import Derived.Deep.RegionHeld3
namespace Go.Proofs.YtaacjjhmojecnaaGreatDoor
open Go.RowKit Go.ScT Go.Proofs

/-- A cell of the call's own that is none of an error's is written: the error stands. -/
theorem Chain.turnT {w w' : World} {A : Nat → Addr} {n g t : Nat} {v : Value} {c : Array Value} (h : Chain w A n v) (ht : Turned (fun i => i = g) w w') (hg : w.heap[g]? = some (.cells c t (0, 0))) (h1 : 253 ≠ t) (h2 : 158 ≠ t) : Chain w' A n v := by
  induction n generalizing v with
  | zero =>
    obtain ⟨_, _, _, h, hk, h0, rfl⟩ := h
    exact .at_ ((ht.block _ (lt_of_block h) (fun e => tag_ne h hg h1 e)).trans h) hk h0
  | succ n ih =>
    obtain ⟨_, _, _, h, hu, rfl⟩ := h
    exact .in_ ((ht.block _ (lt_of_block h) (fun e => tag_ne h hg h2 e)).trans h) (ih hu)
theorem Turned.drw {Z : Nat → Prop} (w : World) : Turned Z w w.drew := ⟨rfl, rfl, rfl, Nat.le_refl _, fun _ _ _ => rfl⟩
theorem PAt.c2 {w : World} {b : Nat} {s : ByteArray} {r : Bs} {D L : Value} (h : PAt w b s r D L) : w.cell? ⟨b, 2, none⟩ = some D := by
  obtain ⟨at_, h', _⟩ := h
  exact (cell_par h').2.2.1
/-- What a number ends with. -/
def NumEnds (w w' : World) (b : Nat) (A : Nat → Addr) (s : ByteArray) (D L : Value) (e : Ending) (R : Option (Nat × Bs)) : Prop :=
  ((∃ n t, R = some (n, t) ∧ e = .returned (.tuple #[.int .i64 (n : Int), .nilIface]) ∧ PAt w' b s t D L) ∨ (R = none ∧ ∃ ev, e = .returned (.tuple #[.int .i64 0, ev]) ∧ Chain w' A 0 ev)) ∧ Turned (fun i => i = b) w w'
theorem number_any {w : World} {b base : Nat} {A : Nat → Addr} {s : ByteArray} {r : Bs} {D L : Value} {lo hi : Nat} (z1 z2 : Int) (e1 : (lo : Int) = z1) (e2 : (hi : Int) = z2) (h : PAt w b s r D L) (hS : Sent w A base) (hb : base ≤ b) (hs : s.size ≤ 60000) :
    Calls Tryz.prog 166 #[.pointer (some ⟨b, 0, none⟩), .int .i64 z1, .int .i64 z2] w fun e w' => NumEnds w w' b A s D L e (pNum lo hi r) := by
  cases h1 : pNum lo hi r with
  | none => exact (number_noz z1 z2 e1 e2 h hS hb hs h1).mono fun e w' ⟨ev, h1, h2, h3⟩ => ⟨Or.inr ⟨rfl, ev, h1, h2⟩, h3⟩
  | some y => exact (number_okz z1 z2 e1 e2 h hs h1).mono fun e w' ⟨h1, h2, h3⟩ => ⟨Or.inl ⟨_, _, rfl, h1, h2⟩, h3⟩
/-- What a head ends with. -/
def HeadEnds (w w' : World) (b : Nat) (A : Nat → Addr) (s : ByteArray) (D L : Value) (e : Ending) (R : Option ((Nat × Nat × Nat) × Bs)) : Prop :=
  ((∃ x y z t, R = some ((x, y, z), t) ∧ e = .returned (.tuple #[.agg #[natV x, natV y, natV z], .nilIface]) ∧ PAt w' b s t D L) ∨ (R = none ∧ ∃ ev, e = .returned (.tuple #[.agg #[.int .i64 0, .int .i64 0, .int .i64 0], ev]) ∧ Chain w' A 0 ev)) ∧ Turned (fun i => i = b) w w'
abbrev hd0 : Obj := .cells #[.int .i64 0, .int .i64 0, .int .i64 0] 295
set_option maxHeartbeats 1000000 in
set_option maxRecDepth 1000000 in
theorem readHead_any {w : World} {b base n cD : Nat} {ao : Option Addr} {A : Nat → Addr} {s : ByteArray} {r : Bs} {L : Value} (h : PAt w b s r (.slice ao n cD) L) (hS : Sent w A base) (hb : base ≤ b) (hs : s.size ≤ 60000) (hn1 : 1 ≤ n) (hn : n ≤ 1000) :
    Calls Tryz.prog 303 #[.pointer (some ⟨b, 0, none⟩)] w fun e w' => HeadEnds w w' b A s (.slice ao n cD) L e (pHead n r) := by
  have hbl := h.lt
  obtain ⟨D, hD⟩ : ∃ D, D = Value.slice ao n cD := ⟨_, rfl⟩
  have HT0 := hid (Turned.ofAlloc (Z := fun i => i = b) w hd0)
  have HP0 := hid (h.turned (Turned.ofAlloc (Z := fun _ => False) w hd0) (fun e => e))
  have HS0 := hid (hS.below ((Below.refl w.heap.size w).alloc (Nat.le_refl _) hd0))
  have HN := hid (heap_alloc_new w hd0)
  have c2 : (w.alloc hd0).cell? ⟨b, 2, none⟩ = some (.slice ao n cD) := HP0.out.c2
  have hzz : IntKind.i64.wrap ((n : Int) - 1) = ((n - 1 : Nat) : Int) := by rw [IntKind.wrap_i64]; omega
  have HD0 : Hid (Turned (fun i => i = b) (w.alloc hd0) (w.alloc hd0).drew ∧ PAt (w.alloc hd0).drew b s r (.slice ao n cD) L ∧ Sent (w.alloc hd0).drew A base) :=
    ⟨Turned.drw _, HP0.out.turned (Turned.drw (Z := fun _ => False) _) (fun e => e), HS0.out.turned (Turned.drw (Z := fun _ => False) _) (fun _ _ e => e)⟩
  obtain ⟨R, hR⟩ : ∃ R, R = pHead n r := ⟨_, rfl⟩
  rw [← hR]
  have HR : Hid (R = (pNum 0 (n - 1) r).bind fun a => (pNum 1 40 a.2).bind fun b => (pNum 1 40 b.2).bind fun c => some ((a.1, b.1, c.1), c.2)) := hR
  clear hR h hS
  cases h1 : pNum 0 (n - 1) r with
  | none =>
    rw [h1] at HR
    have C1 : Hid (∀ z, z = ((n - 1 : Nat) : Int) → Calls Tryz.prog 166 #[.pointer (some ⟨b, 0, none⟩), .int .i64 0, .int .i64 z] (w.alloc hd0).drew fun e w'' => ∃ ev, e = .returned (.tuple #[.int .i64 0, ev]) ∧ Chain w'' A 0 ev ∧ Turned (fun i => i = b) (w.alloc hd0) w'') := fun z hz =>
      (number_noz 0 z rfl hz.symm HD0.out.2.1 HD0.out.2.2 hb hs h1).mono fun e w' ⟨ev, h1, h2, h3⟩ => ⟨ev, h1, h2, HD0.out.1.trans h3⟩
    clear h1
    go_enter Tryz.func303, Tryz.ntmps303
    go_wp2_with (fail)
    generalize w.alloc hd0 = w0 at *
    go_region_with (first | (go_at_call 166; refine (C1.out _ (by first | exact hzz | rfl)).mono ?_; rintro e w1 ⟨ev, rfl, hC, hT1⟩; have HC := hid hC; obtain ⟨u, x, rfl⟩ := hC.iface; clear hC))
    have HN1 := hid (kept_new hT1 HN.out (by omega))
    obtain ⟨k0, k1, k2, kf⟩ := cell_three HN1.out
    have f0 := kf 0
    have f1 := kf 1
    have f2 := kf 2
    have HT1 := hid hT1
    clear kf C1 hT1
    go_wp2
    have hTS := turned_set3 w1 w.heap.size (.int .i64 0) (.int .i64 0) (.int .i64 0)
    refine bodyPost_ret (v := .tuple #[.agg #[.int .i64 0, .int .i64 0, .int .i64 0], .iface u x]) (by simp [results, Tryz.results303, go_sem, k0, k1, k2]) rfl ⟨Or.inr ⟨HR.out, _, rfl, HC.out.turnT hTS HN1.out (by decide) (by decide)⟩, Turned.over (HT0.out.trans HT1.out) hTS (fun i hi e => by omega)⟩
  | some y =>
    obtain ⟨n1, r1⟩ := y
    rw [h1] at HR
    simp only [Option.bind_some] at HR
    have C1 : Hid (∀ z, z = ((n - 1 : Nat) : Int) → Calls Tryz.prog 166 #[.pointer (some ⟨b, 0, none⟩), .int .i64 0, .int .i64 z] (w.alloc hd0).drew fun e w'' => e = .returned (.tuple #[.int .i64 (n1 : Int), .nilIface]) ∧ PAt w'' b s r1 (.slice ao n cD) L ∧ Turned (fun i => i = b) (w.alloc hd0) w'') := fun z hz =>
      (number_okz 0 z rfl hz.symm HD0.out.2.1 hs h1).mono fun e w' ⟨h1, h2, h3⟩ => ⟨h1, h2, HD0.out.1.trans h3⟩
    clear h1
    go_enter Tryz.func303, Tryz.ntmps303
    go_wp2_with (fail)
    generalize w.alloc hd0 = w0 at *
    go_region_with (first | (go_at_call 166; refine (C1.out _ (by first | exact hzz | rfl)).mono ?_; rintro e w1 ⟨rfl, hP1, hT1⟩))
    have HN1 := hid (kept_new hT1 HN.out (by omega))
    have HS1 := hid (HS0.out.turned hT1 (fun i hi e => by omega))
    have HT1 := hid (HT0.out.trans hT1)
    have C2 := hid (number_any 1 40 rfl rfl hP1 HS1.out hb hs)
    clear C1 hT1 hP1 HD0 HP0 HN HS0 HT0
    go_wp2_with (fail)
    refine C2.out.mono ?_
    rintro e w2 ⟨⟨n2, r2, h2, rfl, hP2⟩ | ⟨h2, ev, rfl, hC⟩, hT2⟩
    · rw [h2] at HR
      simp only [Option.bind_some] at HR
      have HN2 := hid (kept_new hT2 HN1.out (by omega))
      have HS2 := hid (HS1.out.turned hT2 (fun i hi e => by omega))
      have HT2 := hid (HT1.out.trans hT2)
      have C3 := hid (number_any 1 40 rfl rfl hP2 HS2.out hb hs)
      clear C2 hT2 hP2 HN1 HS1 HT1 h2
      go_wp2_with (fail)
      refine C3.out.mono ?_
      rintro e w3 ⟨⟨n3, r3, h3, rfl, hP3⟩ | ⟨h3, ev, rfl, hC⟩, hT3⟩
      · rw [h3] at HR
        simp only [Option.bind_some] at HR
        have HN3 := hid (kept_new hT3 HN2.out (by omega))
        have HT3 := hid (HT2.out.trans hT3)
        have HP3 := hid hP3
        obtain ⟨k0, k1, k2, kf⟩ := cell_three HN3.out
        have f0 := kf 0
        have f1 := kf 1
        have f2 := kf 2
        clear C3 hT3 hP3 kf h3 HN2 HS2 HT2
        go_wp2
        have hTS := turned_set3 w3 w.heap.size (natV n1) (natV n2) (natV n3)
        refine bodyPost_ret (v := .tuple #[.agg #[natV n1, natV n2, natV n3], .nilIface]) (by simp [results, Tryz.results303, go_sem, k0, k1, k2]) rfl ⟨Or.inl ⟨n1, n2, n3, r3, HR.out, rfl, HP3.out.turned hTS (by omega)⟩, Turned.over HT3.out hTS (fun i hi e => by omega)⟩
      · rw [h3] at HR
        have HC := hid hC
        obtain ⟨u, x, rfl⟩ := hC.iface
        have HN1 := hid (kept_new hT3 HN2.out (by omega))
        obtain ⟨k0, k1, k2, kf⟩ := cell_three HN1.out
        have f0 := kf 0
        have f1 := kf 1
        have f2 := kf 2
        have HT1 := hid (HT2.out.trans hT3)
        clear kf C3 hT3 hC h3
        go_wp2
        have hTS := turned_set3 w3 w.heap.size (.int .i64 0) (.int .i64 0) (.int .i64 0)
        refine bodyPost_ret (v := .tuple #[.agg #[.int .i64 0, .int .i64 0, .int .i64 0], .iface u x]) (by simp [results, Tryz.results303, go_sem, k0, k1, k2]) rfl ⟨Or.inr ⟨HR.out, _, rfl, HC.out.turnT hTS HN1.out (by decide) (by decide)⟩, Turned.over HT1.out hTS (fun i hi e => by omega)⟩
    · rw [h2] at HR
      have HC := hid hC
      obtain ⟨u, x, rfl⟩ := hC.iface
      have HN2 := hid (kept_new hT2 HN1.out (by omega))
      obtain ⟨k0, k1, k2, kf⟩ := cell_three HN2.out
      have f0 := kf 0
      have f1 := kf 1
      have f2 := kf 2
      have HT2 := hid (HT1.out.trans hT2)
      clear kf C2 hT2 hC h2
      go_wp2
      have hTS := turned_set3 w2 w.heap.size (.int .i64 0) (.int .i64 0) (.int .i64 0)
      refine bodyPost_ret (v := .tuple #[.agg #[.int .i64 0, .int .i64 0, .int .i64 0], .iface u x]) (by simp [results, Tryz.results303, go_sem, k0, k1, k2]) rfl ⟨Or.inr ⟨HR.out, _, rfl, HC.out.turnT hTS HN2.out (by decide) (by decide)⟩, Turned.over HT2.out hTS (fun i hi e => by omega)⟩
end Go.Proofs.YtaacjjhmojecnaaGreatDoor

namespace Go.ScT
/-- A head, place by place. -/
def hdF (lens : List Nat) : Nat × Nat × Nat → Pls → Nat × Nat × Nat
  | x, [] => x
  | x, p :: r => hdF lens (p.1, max x.2.1 p.2, min x.2.2 (lens.getD p.1 0)) r
theorem hdF_any (lens : List Nat) : ∀ (ps : Pls) (a b c : Nat), c ≤ 40 → hdF lens (a, b, c) ps = (if ps = [] then a else lastO ps, max b (mxC ps), min c (mnL lens ps))
  | [], a, b, c, h => by simp [hdF, mxC, mnL, mx]; omega
  | p :: r, a, b, c, h => by
    have hh := hdF_any lens r p.1 (max b p.2) (min c (lens.getD p.1 0)) (by omega)
    rw [show hdF lens (a, b, c) (p :: r) = hdF lens (p.1, max b p.2, min c (lens.getD p.1 0)) r from rfl, hh]
    have e1 : mxC (p :: r) = max p.2 (mxC r) := by simp [mxC, mx]
    have e2 : mnL lens (p :: r) = min (lens.getD p.1 0) (mnL lens r) := by simp [mnL]
    rw [e1, e2, if_neg (show ¬ p :: r = [] by simp)]
    refine Prod.ext ?_ (Prod.ext ?_ ?_)
    · cases r with
      | nil => simp [lastO]
      | cons q r => simp [lastO]
    · simp only; omega
    · simp only; omega
theorem hdF_all (lens : List Nat) (ps : Pls) : hdF lens (0, 0, 40) ps = (lastO ps, mxC ps, mnL lens ps) := by
  rw [hdF_any lens ps 0 0 40 (by omega)]
  have := mnL_le lens ps
  refine Prod.ext ?_ (Prod.ext ?_ ?_)
  · by_cases h : ps = []
    · subst h; rfl
    · simp [h]
  · simp
  · simp only; omega
end Go.ScT
namespace Go.Proofs.YtaacjjhmojecnaaGreatDoor
open Go.RowKit Go.ScT Go.Proofs

theorem cell_of_block2 {w : World} {y : Nat} {cs : Array Value} {t : TypeId} (h : w.heap[y]? = some (.cells cs t (0, 0))) {j : Nat} : w.cell? ⟨y, j, none⟩ = cs[j]? := by
  simp [World.cell?, h]
theorem below_turned {n : Nat} {w w1 w2 : World} {Z : Nat → Prop} (h : Below n w w1) (ht : Turned Z w1 w2) (hn : n ≤ w1.heap.size) (hz : ∀ i, i < n → ¬ Z i) : Below n w w2 :=
  ⟨ht.os.trans h.os, ht.tape.trans h.tape, ht.output.trans h.output, Nat.le_trans h.size ht.size, fun i hi => (ht.block i (by omega) (hz i hi)).trans (h.block i hi)⟩
theorem drop_at {α : Type} {l : List α} {i : Nat} {x : α} (h : l[i]? = some x) : l.drop i = x :: l.drop (i + 1) := by
  obtain ⟨hi, rfl⟩ := List.getElem?_eq_some_iff.1 h
  exact List.drop_eq_getElem_cons hi
set_option maxHeartbeats 1000000 in
set_option maxRecDepth 1000000 in
theorem headOf_any {w : World} {base cap capD g o gD : Nat} {ps : Pls} {ds : List DocP} (hD : DRow w base (.slice (some ⟨gD, 0, none⟩) ds.length capD) ds) 
    (hv : ∀ i p, ps[i]? = some p → w.cell? ⟨g, o + i * 2, none⟩ = some (natV p.1) ∧ w.cell? ⟨g, o + i * 2 + 1, none⟩ = some (natV p.2)) (hg : g < w.heap.size) (hps : ∀ p ∈ ps, p.1 < ds.length) (hl : ps.length ≤ 1000) (hdl : ds.length ≤ 1000) (hx : ∀ d ∈ ds, d.2.2 ≤ 1000) (hx2 : ∀ p ∈ ps, p.2 ≤ 1000) :
    Calls Tryz.prog 206 #[.slice (some ⟨g, o, none⟩) ps.length cap, .slice (some ⟨gD, 0, none⟩) ds.length capD] w fun e w' => e = .returned (.agg #[natV (lastO ps), natV (mxC ps), natV (mnL (lensOf ds) ps)]) ∧ Below w.heap.size w w' := by
  obtain ⟨n, hn⟩ : ∃ n, n = ps.length := ⟨_, rfl⟩
  obtain ⟨m, hm⟩ : ∃ m, m = ds.length := ⟨_, rfl⟩
  have HF : Hid (hdF (lensOf ds) (0, 0, 40) (ps.drop 0) = (lastO ps, mxC ps, mnL (lensOf ds) ps)) := show _ = _ by rw [List.drop_zero]; exact hdF_all _ _
  have HV := hid hv
  rw [← hm] at hD hdl
  rw [← hn] at hl
  have HD := hid hD
  have HX := hid hx
  have HX2 := hid hx2
  have HPS := hid hps
  rw [← hn, ← hm]
  have HN := hid hn
  have HM := hid hm
  have HB0 := hid (((Below.refl w.heap.size w).alloc (Nat.le_refl _) (.cells #[.int .i64 0, .int .i64 0, .int .i64 0] 295)).alloc (by simp) (.cells #[.int .i64 0, .int .i64 0, .int .i64 40] 295))
  clear hv hD hx hx2 hps hn hm
  go_enter Tryz.func206, Tryz.ntmps206
  go_wp2_with (fail)
  have HH1 : Hid (((w.alloc (.cells #[.int .i64 0, .int .i64 0, .int .i64 0] 295)).alloc (.cells #[.int .i64 0, .int .i64 0, .int .i64 40] 295)).heap[w.heap.size]? = some (.cells #[.int .i64 0, .int .i64 0, .int .i64 0] 295 (0, 0))) := by
    have := (((Below.refl _ (w.alloc (.cells #[.int .i64 0, .int .i64 0, .int .i64 0] 295))).alloc (Nat.le_refl _) (.cells #[.int .i64 0, .int .i64 0, .int .i64 40] 295)).block w.heap.size (by simp)).trans (heap_alloc_new w _)
    exact this
  have HH2 : Hid (((w.alloc (.cells #[.int .i64 0, .int .i64 0, .int .i64 0] 295)).alloc (.cells #[.int .i64 0, .int .i64 0, .int .i64 40] 295)).heap[w.heap.size + 1]? = some (.cells #[natV 0, natV 0, natV 40] 295 (0, 0))) := by
    have := heap_alloc_new (w.alloc (.cells #[.int .i64 0, .int .i64 0, .int .i64 0] 295)) (.cells #[.int .i64 0, .int .i64 0, .int .i64 40] 295)
    rw [show (w.alloc (.cells #[.int .i64 0, .int .i64 0, .int .i64 0] 295)).heap.size = w.heap.size + 1 by simp] at this
    exact this
  generalize (w.alloc (.cells #[.int .i64 0, .int .i64 0, .int .i64 0] 295)).alloc (.cells #[.int .i64 0, .int .i64 0, .int .i64 40] 295) = w0 at *
  go_loopw [11] (fun s11 wr => ∃ (i a b c : Nat), s11 = .int .i64 (i : Int) ∧ i ≤ n ∧ a ≤ 1000 ∧ b ≤ 1000 ∧ c ≤ 40 ∧ Hid (wr.heap[w.heap.size]? = some (.cells #[.int .i64 0, .int .i64 0, .int .i64 0] 295 (0, 0))) ∧ Hid (wr.heap[w.heap.size + 1]? = some (.cells #[natV a, natV b, natV c] 295 (0, 0))) ∧ Hid (Below w.heap.size w wr) ∧ Hid (hdF (lensOf ds) (a, b, c) (ps.drop i) = (lastO ps, mxC ps, mnL (lensOf ds) ps))) (fun s11 _ => n - (intOf s11).toNat)
  case atStart => exact ⟨0, 0, 0, 40, rfl, by omega, by omega, by omega, by omega, HH1, HH2, HB0, HF⟩
  case round =>
    obtain ⟨i, a, b, c, rfl, hi, ha, hb, hc, HA, HH, HB, HE⟩ := hrel
    by_cases hlt : i < n
    · have hlti : (i : Int) < (n : Int) := by omega
      obtain ⟨p, hp⟩ : ∃ p, ps[i]? = some p := ⟨_, List.getElem?_eq_getElem (by rw [← HN.out]; exact hlt)⟩
      have hpm := List.mem_of_getElem? hp
      have hp1 := HPS.out p hpm
      have hp2 := HX2.out p hpm
      rw [← HM.out] at hp1
      obtain ⟨d, hd⟩ : ∃ d, ds[p.1]? = some d := ⟨_, List.getElem?_eq_getElem (by rw [← HM.out]; exact hp1)⟩
      have hdl2 := HX.out d (List.mem_of_getElem? hd)
      obtain ⟨q0, q1⟩ := HV.out i p hp
      rw [← HB.out.cell hg] at q0 q1
      obtain ⟨_, _, q2⟩ := HD.out.cells hd
      have hgD : gD < w.heap.size := (HD.out.lt gD rfl).2
      rw [← HB.out.cell hgD] at q2
      obtain ⟨k0, k1, k2, kf⟩ := cell_three HH.out
      have f0 := kf 0
      have f1 := kf 1
      have f2 := kf 2
      have hG := lt_of_block HH.out
      have HE2 : Hid (hdF (lensOf ds) (p.1, max b p.2, min c d.2.2) (ps.drop (i + 1)) = (lastO ps, mxC ps, mnL (lensOf ds) ps)) := show _ = _ by
        have hlen : (lensOf ds).getD p.1 0 = d.2.2 := by simp [lensOf, hd]
        rw [← HE.out, drop_at hp, hdF, hlen]
      obtain ⟨x, y⟩ := p
      obtain ⟨d1, d2, z⟩ := d
      simp only at hp1 hp2 hdl2 q0 q1 q2 HE2
      have hne : ¬ wr.heap.size = w.heap.size + 1 := by omega
      have hne2 : ¬ w.heap.size + 1 = wr.heap.size := by omega
      have hng : ¬ g = wr.heap.size := by omega
      have hng2 : ¬ g = w.heap.size + 1 := by omega
      have hngD : ¬ gD = wr.heap.size := by omega
      have hngD2 : ¬ gD = w.heap.size + 1 := by omega
      have hmi : (x : Int) < (m : Int) := by omega
      clear hp hpm hd kf HE
      go_wp2_with (fail)
      have hmxn : (max (b : Int) (y : Int)) = ((max b y : Nat) : Int) := by omega
      obtain ⟨W, hW⟩ : ∃ W, W = ((wr.setCell ⟨w.heap.size + 1, 0, none⟩ (.int .i64 (x : Int))).setCell ⟨w.heap.size + 1, 1, none⟩ (.int .i64 (max (b : Int) (y : Int)))).alloc (.cells #[.int .i64 (x : Int), .int .i64 (y : Int)] 169) := ⟨_, rfl⟩
      have hT : Turned (fun j => j = w.heap.size + 1) wr W := by
        rw [hW]
        exact ((Turned.ofSet (Z := fun j => j = w.heap.size + 1) _ _ _ rfl).trans (Turned.ofSet _ _ _ rfl)).trans (Turned.ofAlloc _ _)
      have hTw : Hid (Below w.heap.size w W) := below_turned HB.out hT (by omega) (fun j hj => by omega)
      have HA2 : Hid (W.heap[w.heap.size]? = some (.cells #[.int .i64 0, .int .i64 0, .int .i64 0] 295 (0, 0))) := (hT.block _ (lt_of_block HA.out) (by omega)).trans HA.out
      have HH3 : Hid (W.heap[w.heap.size + 1]? = some (.cells #[.int .i64 (x : Int), .int .i64 ((max b y : Nat) : Int), natV c] 295 (0, 0))) := by
        have e1 := heap_setCell_same wr (w.heap.size + 1) 0 _ 295 (.int .i64 (x : Int)) HH.out
        have e2 := heap_setCell_same _ (w.heap.size + 1) 1 _ 295 (.int .i64 (max (b : Int) (y : Int))) e1
        have e3 := ((Turned.ofAlloc (Z := fun _ => False) ((wr.setCell ⟨w.heap.size + 1, 0, none⟩ (.int .i64 (x : Int))).setCell ⟨w.heap.size + 1, 1, none⟩ (.int .i64 (max (b : Int) (y : Int)))) (.cells #[.int .i64 (x : Int), .int .i64 (y : Int)] 169)).block _ (lt_of_block e2) (fun e => e)).trans e2
        rw [hW, ← hmxn]
        exact e3
      have v1 : W.cell? ⟨wr.heap.size, 0, none⟩ = some (.int .i64 (x : Int)) := by
        have e1 := heap_alloc_new ((wr.setCell ⟨w.heap.size + 1, 0, none⟩ (.int .i64 (x : Int))).setCell ⟨w.heap.size + 1, 1, none⟩ (.int .i64 (max (b : Int) (y : Int)))) (.cells #[.int .i64 (x : Int), .int .i64 (y : Int)] 169)
        rw [show ((wr.setCell ⟨w.heap.size + 1, 0, none⟩ (.int .i64 (x : Int))).setCell ⟨w.heap.size + 1, 1, none⟩ (.int .i64 (max (b : Int) (y : Int)))).heap.size = wr.heap.size by simp [World.setCell]] at e1
        rw [hW, cell_of_block2 e1]
        rfl
      have v2 : W.cell? ⟨gD, x * 3 + 2, none⟩ = some (natV z) := by
        rw [World.cell?_of_block (hT.block gD (by omega) hngD2)]; exact q2
      rw [← hW]
      clear hW hT k0 k1 k2 f0 f1 f2 q0 q1 q2
      obtain ⟨k0, k1, k2, kf⟩ := cell_three HH3.out
      have f2 := kf 2
      clear kf HA HH HB
      go_region
      have hmnn : (min (c : Int) (z : Int)) = ((min c z : Nat) : Int) := by omega
      have hT2 : Turned (fun j => j = w.heap.size + 1) W (W.setCell ⟨w.heap.size + 1, 2, none⟩ (.int .i64 (min (c : Int) (z : Int)))).drew := (Turned.ofSet (Z := fun j => j = w.heap.size + 1) _ _ _ rfl).trans (Turned.drw _)
      have hWs := hTw.out.size
      have hWl := lt_of_block HH3.out
      have HB4 : Hid (Below w.heap.size w (W.setCell ⟨w.heap.size + 1, 2, none⟩ (.int .i64 (min (c : Int) (z : Int)))).drew) := below_turned hTw.out hT2 hWs (fun j hj => by omega)
      have HA4 : Hid ((W.setCell ⟨w.heap.size + 1, 2, none⟩ (.int .i64 (min (c : Int) (z : Int)))).drew.heap[w.heap.size]? = some (.cells #[.int .i64 0, .int .i64 0, .int .i64 0] 295 (0, 0))) := (hT2.block _ (lt_of_block HA2.out) (by omega)).trans HA2.out
      have HH4 : Hid ((W.setCell ⟨w.heap.size + 1, 2, none⟩ (.int .i64 (min (c : Int) (z : Int)))).drew.heap[w.heap.size + 1]? = some (.cells #[natV x, natV (max b y), natV (min c z)] 295 (0, 0))) := by
        have e1 := heap_setCell_same W (w.heap.size + 1) 2 _ 295 (.int .i64 (min (c : Int) (z : Int))) HH3.out
        rw [hmnn] at e1 ⊢
        exact e1
      generalize (W.setCell ⟨w.heap.size + 1, 2, none⟩ (.int .i64 (min (c : Int) (z : Int)))).drew = W4 at *
      go_wp2_with (fail)
      go_roundw
      case rel => exact ⟨i + 1, x, max b y, min c z, by go_num, by omega, by omega, by omega, by omega, HA4, HH4, HB4, HE2⟩
      case measure => simp [intOf]; omega
    · have hlti : ¬ ((i : Int) < (n : Int)) := by omega
      obtain rfl : i = n := by omega
      have HE2 : Hid ((a, b, c) = (lastO ps, mxC ps, mnL (lensOf ds) ps)) := show _ = _ by
        rw [← HE.out, HN.out, List.drop_length, hdF]
      obtain ⟨k0, k1, k2, kf⟩ := cell_three HH.out
      obtain ⟨j0, j1, j2, jf⟩ := cell_three HA.out
      have f0 := jf 0
      have f1 := jf 1
      have f2 := jf 2
      clear kf jf
      go_wp2
      have hTS := turned_set3 wr w.heap.size (natV a) (natV b) (natV c)
      have e0 := HE2.out
      simp only [Prod.mk.injEq] at e0
      have hsz := HB.out.size
      refine bodyPost_ret (v := .agg #[natV a, natV b, natV c]) (by simp [results, Tryz.results206, go_sem, j0, j1, j2]) rfl ⟨by rw [e0.1, e0.2.1, e0.2.2], below_turned HB.out hTS hsz (fun j hj => by omega)⟩
end Go.Proofs.YtaacjjhmojecnaaGreatDoor

namespace Go.ScT
theorem pBody_small {size : Nat} {r t : Bs} {ss rr : List Nat} (hs : size ≤ 4) (h : pBody size r = some ((ss, rr), t)) : ss.length = size ∧ rr.length = size ∧ (∀ n ∈ ss, n ≤ 255) ∧ ∀ n ∈ rr, n ≤ 255 := by
  obtain ⟨_, h1, h2, h3, h4⟩ := (pBody_iff hs).1 h
  refine ⟨h1, h2, ?_⟩
  by_cases hz : size < 4
  · exact ⟨fun n hn => by have := (h3 hz).1 n hn; omega, fun n hn => by have := (h3 hz).2 n hn; omega⟩
  · obtain ⟨h5, h6⟩ := h4 (by omega)
    exact ⟨fun n hn => by have := wd_le.1 h5 n hn; omega, fun n hn => by have := wd_le.1 h6 n hn; omega⟩
theorem mkB_no {n nx x : Nat} {ss rr : List Nat} (h : ¬ nx + x < n) : mkB n nx (x :: ss) rr = none := by simp [mkB, h]
theorem mkB_go {n nx x q : Nat} {ss rr : List Nat} {acc : Pls} {t : Bs} (h : nx + x < n) : (mkB n nx (x :: ss) (q :: rr)).map (fun l => (acc ++ l, t)) = (mkB n (nx + x + 1) ss rr).map (fun l => ((acc ++ [(nx + x, q + 1)]) ++ l, t)) := by
  simp only [mkB, h, if_true, List.tail_cons, List.headD_cons, Option.map_map]
  cases mkB n (nx + x + 1) ss rr <;> simp
end Go.ScT
namespace Go.Proofs.YtaacjjhmojecnaaGreatDoor
open Go.RowKit Go.ScT Go.Proofs

/-- What a block's places end with. -/
def PlacesEnds (w w' : World) (b : Nat) (A : Nat → Addr) (s : ByteArray) (D L : Value) (e : Ending) (R : Option (Pls × Bs)) : Prop :=
  ((∃ ps t v, R = some (ps, t) ∧ e = .returned (.tuple #[v, .nilIface]) ∧ PAt w' b s t D L ∧ PRow w' w.heap.size v ps) ∨ (R = none ∧ ∃ ev, e = .returned (.tuple #[.slice none 0 0, ev]) ∧ Chain w' A 0 ev)) ∧ Turned (fun i => i = b) w w'
def pPlaces (n size next : Nat) (r : Bs) : Option (Pls × Bs) := (pBody size r).bind fun x => (mkB n next x.1.1 x.1.2).map fun ps => (ps, x.2)
theorem info169 : (Tryz.prog.info? 169).map (fun i => (i.zero, i.size, i.bytes)) = some (some (.agg #[.int .i64 0, .int .i64 0]), 2, 16) := by kernel_rfl
set_option maxHeartbeats 1000000 in
set_option maxRecDepth 1000000 in
theorem readPlaces_any {w : World} {b base n cD size next : Nat} {ao : Option Addr} {A : Nat → Addr} {s : ByteArray} {r : Bs} {L : Value} (h : PAt w b s r (.slice ao n cD) L) (hS : Sent w A base) (hb : base ≤ b) (hs : s.size ≤ 60000) (hn : n ≤ 1000) (hz : size ≤ 4) (hx : next ≤ 1000) :
    Calls Tryz.prog 304 #[.pointer (some ⟨b, 0, none⟩), .int .i64 (size : Int), .int .i64 (next : Int)] w fun e w' => PlacesEnds w w' b A s (.slice ao n cD) L e (pPlaces n size next r) := by
  obtain ⟨i169, hi1, ha0, ha1, ha2⟩ := info_parts info169
  obtain ⟨R, hR⟩ : ∃ R, R = pPlaces n size next r := ⟨_, rfl⟩
  rw [← hR]
  have HR : Hid (R = (pBody size r).bind fun x => (mkB n next x.1.1 x.1.2).map fun ps => (ps, x.2)) := hR
  have C := hid (readBody_any h hS hb hs hz)
  have HS := hid hS
  have hbl := h.lt
  have hc1 : ∃ at_ : Nat, w.cell? ⟨b, 1, none⟩ = some (.int .i64 (at_ : Int)) := by
    obtain ⟨at_, h', _⟩ := h
    exact ⟨at_, (cell_par h').2.1⟩
  obtain ⟨at_, c1⟩ := hc1
  clear hR h hS
  go_enter Tryz.func304, Tryz.ntmps304
  go_wp2_with (fail)
  refine C.out.mono ?_
  rintro e w1 ⟨⟨ss, rr, t, v, u, h1, rfl, hP1, hTR⟩ | ⟨h1, ev, rfl, hC⟩, hT1⟩
  · obtain ⟨hl1, hl2, hb1, hb2⟩ := pBody_small hz h1
    rw [h1] at HR
    simp only [Option.bind_some] at HR
    obtain ⟨k, hk⟩ : ∃ k, k = ss.length := ⟨_, rfl⟩
    obtain ⟨gs, cs, ao1, hv, hvo, hao1⟩ := ownsRow_shape hTR.one
    obtain ⟨gr, cr, ao2, hu, huo, hao2⟩ := ownsRow_shape hTR.two
    rw [← hk] at hv hao1
    rw [hl2, ← hl1, ← hk] at hu hao2
    have HTR := hid hTR
    have HP1 := hid hP1
    have HT1 := hid hT1
    have HS1 := hid (HS.out.turned hT1 (fun i hi e => by omega))
    have HK := hid hk
    have HL := hid (show rr.length = k by omega)
    have HB1 := hid hb1
    have HB2 := hid hb2
    have hk4 : k ≤ 4 := by omega
    have hsz1 := hT1.size
    clear h1 hP1 hTR hT1 hk hl1 hl2 hb1 hb2 C c1 hvo huo
    subst hv hu
    go_wp2_with (fail)
    go_loopw [2, 12, 33] (fun s2 s12 s33 wr => ∃ (ps : Pls) (nx : Nat), s2 = .int .i64 (nx : Int) ∧ s33 = .int .i64 (ps.length : Int) ∧ ps.length ≤ k ∧ nx ≤ 1000 ∧ Hid (PRow wr w1.heap.size s12 ps) ∧ Hid (Turned (fun _ => False) w1 wr) ∧ Hid (R = (mkB n nx (ss.drop ps.length) (rr.drop ps.length)).map fun l => (ps ++ l, t))) (fun _ _ s33 _ => k - (intOf s33).toNat)
    case atStart => exact ⟨[], next, rfl, rfl, by simp, hx, hid ⟨rfl, Or.inl ⟨rfl, rfl⟩⟩, Turned.refl _ _, by simpa using HR⟩
    case round =>
      obtain ⟨ps, nx, rfl, rfl, hi, hnx, HPR, HT, HE⟩ := hrel
      by_cases hlt : ps.length < k
      · have hlti : (ps.length : Int) < (k : Int) := by omega
        obtain rfl := hao1 (by omega)
        obtain rfl := hao2 (by omega)
        obtain ⟨x, hx1⟩ : ∃ x, ss[ps.length]? = some x := ⟨_, List.getElem?_eq_getElem (by rw [← HK.out]; exact hlt)⟩
        obtain ⟨q, hq1⟩ : ∃ q, rr[ps.length]? = some q := ⟨_, List.getElem?_eq_getElem (by rw [HL.out]; exact hlt)⟩
        have hxb := HB1.out x (List.mem_of_getElem? hx1)
        have hqb := HB2.out q (List.mem_of_getElem? hq1)
        rw [drop_at hx1, drop_at hq1] at HE
        have hgs : gs < w1.heap.size := (HTR.out.one.lt gs rfl).2
        have hgr : gr < w1.heap.size := (HTR.out.two.lt gr rfl).2
        have d1 : wr.cell? ⟨gs, ps.length, none⟩ = some (natV x) := by
          rw [World.cell?_of_block (HT.out.block gs hgs (fun e => e))]
          have h1 := HTR.out.one
          rw [← HK.out] at h1
          rw [h1.cellAt ps.length (by omega)]; simp [hx1]
        have d2 : wr.cell? ⟨gr, ps.length, none⟩ = some (natV q) := by
          rw [World.cell?_of_block (HT.out.block gr hgr (fun e => e))]
          have h1 := HTR.out.two
          rw [HL.out] at h1
          rw [h1.cellAt ps.length (by omega)]; simp [hq1]
        have HPr := hid (HP1.out.turned HT.out (fun e => e))
        have d3 := HPr.out.c2
        have HSr := hid (HS1.out.turned HT.out (fun _ _ e => e))
        have hszr := HT.out.size
        clear hx1 hq1
        by_cases hon : nx + x < n
        · have hong : ¬ ((n : Int) ≤ (nx : Int) + (x : Int)) := by omega
          rw [mkB_go hon] at HE
          go_wp2_with (at_builtin; refine wpList_append_lies _ rfl _ _ 164 rfl w1.heap.size 169 i169 _ 2 16 Tryz.underlying164 hi1 ha0 ha1 ha2 rfl (by decide) _ _ _ rfl (HPR.out.alloc _) ⟨wr.heap.size, 0, none⟩ 1 1 [.int .i64 ((nx : Int) + (x : Int)), .int .i64 ((q : Int) + 1)] rfl rfl (World.news_of_block (heap_alloc_new wr _)) (fun x hx => by simp at hx; rcases hx with rfl | rfl <;> rfl) (by omega) (by unfold maxLen; omega) (by omega) (by simp; omega) (wr.heap.size + 1) (by simp) ?_; intro gA capA w5 hownA hgrowA hatA hltA)
          have hT5 : Turned (fun i => w1.heap.size ≤ i) wr w5 := (Turned.ofAlloc wr _).trans (Turned.ofGrown hgrowA (fun j hj _ => (HPR.out.lt j hj).1))
          go_roundw
          case rel =>
            refine ⟨ps ++ [(nx + x, q + 1)], nx + x + 1, by go_num, by simp, by simp; omega, by omega, ?_, Turned.over HT.out hT5 (fun i hi e => by omega), ?_⟩
            · have e := hownA
              show World.ownsRow _ _ _ _ _ _ _
              simp only [plC_app, plC, List.length_append, List.length_cons, List.length_nil, Nat.zero_add]
              exact e
            · simpa using HE
          case measure => simp [intOf]; omega
        · have hong : ((n : Int) ≤ (nx : Int) + (x : Int)) := by omega
          rw [mkB_no hon] at HE
          have g6 := HSr.out.cell 6 (by simp)
          go_wp2_with (fail)
          go_region
          go_wp2
          go_ret2
          refine ⟨Or.inr ⟨HE.out, _, rfl, Chain.at_ (k := 6) (z := at_) (heap_alloc_new _ _) (by simp) (by decide)⟩, ?_⟩
          exact Turned.over (Z' := fun _ => False) HT1.out ((HT.out.trans (Turned.drw _)).trans (Turned.ofAlloc _ _)) (fun i hi e => e.elim)
      · have hlti : ¬ ((ps.length : Int) < (k : Int)) := by omega
        have HE2 : Hid (R = some (ps, t)) := show _ = _ by
          have e : ps.length = ss.length := by rw [← HK.out]; omega
          rw [HE.out, e, List.drop_length]; simp [mkB]
        go_wp2
        go_ret2
        exact ⟨Or.inl ⟨ps, t, _, HE2.out, rfl, HP1.out.turned HT.out (fun e => e), HPR.out.mono hsz1⟩, Turned.over (Z' := fun _ => False) HT1.out HT.out (fun i hi e => e.elim)⟩
  · rw [h1] at HR
    have HC := hid hC
    obtain ⟨u, x, rfl⟩ := hC.iface
    clear hC h1 C
    go_wp2
    go_ret2
    exact ⟨Or.inr ⟨HR.out, _, rfl, HC.out⟩, hT1⟩
end Go.Proofs.YtaacjjhmojecnaaGreatDoor

namespace Go.ScT
theorem mkB_props {n next : Nat} {ss rr : List Nat} {b : Pls} (hl : rr.length = ss.length) (h : mkB n next ss rr = some b) : b.length = ss.length ∧ (∀ p ∈ b, p.1 < n ∧ 1 ≤ p.2 ∧ ∃ q ∈ rr, p.2 = q + 1) := by
  obtain ⟨h1, h2, h3⟩ := (mkB_iff hl).1 h
  refine ⟨by rw [← h1, stp_len], fun p hp => ?_⟩
  have h4 := h3.mem p hp
  refine ⟨h4.2.1, h4.2.2, p.2 - 1, ?_, by omega⟩
  rw [← h2, rep]
  exact List.mem_map.2 ⟨p, hp, rfl⟩
end Go.ScT
namespace Go.Proofs.YtaacjjhmojecnaaGreatDoor
open Go.RowKit Go.ScT Go.Proofs

theorem pPlaces_props {n size next : Nat} {r t : Bs} {ps : Pls} (hz : size ≤ 4) (h : pPlaces n size next r = some (ps, t)) : ps.length = size ∧ ∀ p ∈ ps, p.1 < n ∧ 1 ≤ p.2 ∧ p.2 ≤ 256 := by
  obtain ⟨⟨⟨ss, rr⟩, t'⟩, h1, h2⟩ := Option.bind_eq_some_iff.1 h
  obtain ⟨ps', h3, h4⟩ := Option.map_eq_some_iff.1 h2
  simp only [Prod.mk.injEq] at h4
  obtain ⟨rfl, rfl⟩ := h4
  obtain ⟨e1, e2, e3, e4⟩ := pBody_small hz h1
  obtain ⟨g1, g2⟩ := mkB_props (show rr.length = ss.length by omega) h3
  refine ⟨by rw [g1]; exact e1, fun p hp => ?_⟩
  obtain ⟨a, b, q, hq, hqe⟩ := g2 p hp
  have := e4 q hq
  exact ⟨a, b, by omega⟩
theorem below_c {B g j : Nat} {w w' : World} {v : Value} (h : Below B w w') (hg : g < B) (hc : w.cell? ⟨g, j, none⟩ = some v) : w'.cell? ⟨g, j, none⟩ = some v := (World.cell?_of_block (h.block g hg)).trans hc
theorem set3_block {w : World} {g : Nat} {a b c v0 v1 v2 : Value} {t : TypeId} (h : w.heap[g]? = some (.cells #[a, b, c] t (0, 0))) : (((w.setCell ⟨g, 0, none⟩ v0).setCell ⟨g, 1, none⟩ v1).setCell ⟨g, 2, none⟩ v2).heap[g]? = some (.cells #[v0, v1, v2] t (0, 0)) := by
  have e1 := heap_setCell_same w g 0 _ t v0 h
  have e2 := heap_setCell_same _ g 1 _ t v1 e1
  have e3 := heap_setCell_same _ g 2 _ t v2 e2
  exact e3
/-- What a block ends with. -/
def BlockEnds (w w' : World) (b : Nat) (A : Nat → Addr) (s : ByteArray) (D L : Value) (lens : List Nat) (e : Ending) (R : Option (Pls × Bs)) : Prop :=
  ((∃ ps t v, R = some (ps, t) ∧ e = .returned (.tuple #[.agg #[natV (lastO ps), natV (mxC ps), natV (mnL lens ps)], v, .nilIface]) ∧ PAt w' b s t D L ∧ PRow w' w.heap.size v ps) ∨ (R = none ∧ ∃ ev, e = .returned (.tuple #[.agg #[.int .i64 0, .int .i64 0, .int .i64 0], .slice none 0 0, ev]) ∧ Chain w' A 0 ev)) ∧ Turned (fun i => i = b) w w'
theorem pBlk_eq (lens : List Nat) (size next : Nat) (r : Bs) : pBlk lens size next r = (pHead lens.length r).bind fun h => (pPlaces lens.length size next h.2).bind fun y => if h.1 = (lastO y.1, mxC y.1, mnL lens y.1) then some y else none := by
  unfold pBlk pPlaces
  congr 1
  funext h
  cases pBody size h.2 with
  | none => rfl
  | some x =>
    simp only [Option.bind_some]
    cases mkB lens.length next x.1.1 x.1.2 <;> rfl
set_option maxHeartbeats 1000000 in
set_option maxRecDepth 1000000 in
theorem readBlock_any {w : World} {b base base2 cD size next gD : Nat} {A : Nat → Addr} {s : ByteArray} {r : Bs} {L : Value} {ds : List DocP} (h : PAt w b s r (.slice (some ⟨gD, 0, none⟩) ds.length cD) L) (hD : DRow w base2 (.slice (some ⟨gD, 0, none⟩) ds.length cD) ds) (hb2 : b < base2) (hS : Sent w A base) (hb : base ≤ b) (hs : s.size ≤ 60000) (hn1 : 1 ≤ ds.length) (hn : ds.length ≤ 1000) (hdl : ∀ d ∈ ds, d.2.2 ≤ 1000) (hz1 : 1 ≤ size) (hz : size ≤ 4) (hx : next ≤ 1000) :
    Calls Tryz.prog 279 #[.pointer (some ⟨b, 0, none⟩), .int .i64 (size : Int), .int .i64 (next : Int)] w fun e w' => BlockEnds w w' b A s (.slice (some ⟨gD, 0, none⟩) ds.length cD) L (lensOf ds) e (pBlk (lensOf ds) size next r) := by
  have hbl := h.lt
  have HLn := hid (lensOf_len ds)
  obtain ⟨R, hR⟩ : ∃ R, R = pBlk (lensOf ds) size next r := ⟨_, rfl⟩
  rw [← hR]
  rw [pBlk_eq, HLn.out] at hR
  have HR := hid hR
  obtain ⟨n, hnn⟩ : ∃ n, n = ds.length := ⟨_, rfl⟩
  rw [← hnn] at h hD hn1 hn HR ⊢
  have HNN := hid hnn
  have HDL := hid hdl
  have HT0 := hid (Turned.ofAlloc (Z := fun i => i = b) w hd0)
  have HP0 := hid (h.turned (Turned.ofAlloc (Z := fun _ => False) w hd0) (fun e => e))
  have HS0 := hid (hS.below ((Below.refl w.heap.size w).alloc (Nat.le_refl _) hd0))
  have HD0 := hid (ownsRow_turned hD (Turned.ofAlloc (Z := fun _ => False) w hd0) (fun _ _ e => e))
  have HN := hid (heap_alloc_new w hd0)
  have hgD := (hD.lt gD rfl).1
  have hgDl := (hD.lt gD rfl).2
  have hc1 : ∃ at_ : Nat, (w.alloc hd0).cell? ⟨b, 1, none⟩ = some (.int .i64 (at_ : Int)) := by
    obtain ⟨at_, h', _⟩ := HP0.out
    exact ⟨at_, (cell_par h').2.1⟩
  obtain ⟨at_, c1⟩ := hc1
  have hsz0 := HT0.out.size
  have C1 := hid (readHead_any HP0.out HS0.out hb hs hn1 hn)
  clear hR h hS hD hnn hdl
  go_enter Tryz.func279, Tryz.ntmps279
  go_wp2_with (fail)
  generalize w.alloc hd0 = w0 at *
  go_wp2_with (fail)
  refine C1.out.mono ?_
  rintro e w1 ⟨⟨x, y, z, t, h1, rfl, hP1⟩ | ⟨h1, ev, rfl, hC⟩, hT1⟩
  · rw [h1] at HR
    simp only [Option.bind_some] at HR
    have HN1 := hid (kept_new hT1 HN.out (by omega))
    have HG := hid (heap_alloc_new w1 (.cells #[natV x, natV y, natV z] 295))
    have hTa := Turned.ofAlloc (Z := fun i => i = b) w1 (.cells #[natV x, natV y, natV z] 295)
    have HS1 := hid ((HS0.out.turned hT1 (fun i hi e => by omega)).turned hTa (fun i hi e => by omega))
    have HT1 := hid ((HT0.out.trans hT1).trans hTa)
    have HP1 := hid (hP1.turned (Turned.ofAlloc (Z := fun _ => False) w1 (.cells #[natV x, natV y, natV z] 295)) (fun e => e))
    have HD1 := hid (ownsRow_turned (HD0.out) (hT1.trans hTa) (fun g hg e => by have := (HD0.out.lt g hg).1; omega))
    have HN2 := hid (kept_new hTa HN1.out (by omega))
    have C2 := hid (readPlaces_any (size := size) (next := next) HP1.out HS1.out hb hs hn hz hx)
    have hsz1 := hT1.size
    clear C1 hT1 hTa hP1 HD0 HS0 HN1 HT0 HP0 HN h1
    go_wp2_with (fail)
    refine C2.out.mono ?_
    have hszw := hsz0
    have hG1 : w1.heap.size < (w1.alloc (.cells #[natV x, natV y, natV z] 295)).heap.size := by simp
    generalize hw1' : w1.alloc (.cells #[natV x, natV y, natV z] 295) = wa at *
    rintro e w2 ⟨⟨ps, t2, v, h2, rfl, hP2, hPR⟩ | ⟨h2, ev, rfl, hC⟩, hT2⟩
    · obtain ⟨hl, hps⟩ := pPlaces_props hz h2
      rw [h2] at HR
      simp only [Option.bind_some] at HR
      obtain ⟨gv, cv, rfl, hgv, hgvl⟩ := hPR.form (by omega)
      have HP2 := hid hP2
      have HPR := hid hPR
      have HT2 := hid (HT1.out.trans hT2)
      have HN3 := hid (kept_new hT2 HN2.out (by omega))
      have HG2 := hid (kept_new hT2 HG.out (by omega))
      have HS2 := hid (HS1.out.turned hT2 (fun i hi e => by omega))
      have HD2 := hid (ownsRow_turned HD1.out hT2 (fun g hg e => by have := (HD1.out.lt g hg).1; omega))
      have hsz2 := hT2.size
      have c2 := HP2.out.c2
      obtain ⟨k0, k1, k2, kf⟩ := cell_three HG2.out
      have C3 : Hid (Calls Tryz.prog 206 #[.slice (some ⟨gv, 0, none⟩) ps.length cv, .slice (some ⟨gD, 0, none⟩) n cD] w2.drew fun e w' => e = .returned (.agg #[natV (lastO ps), natV (mxC ps), natV (mnL (lensOf ds) ps)]) ∧ Below w2.heap.size w2 w') := by
        have hv : ∀ i p, ps[i]? = some p → w2.drew.cell? ⟨gv, 0 + i * 2, none⟩ = some (natV p.1) ∧ w2.drew.cell? ⟨gv, 0 + i * 2 + 1, none⟩ = some (natV p.2) := by
          intro i p hp
          have hi := (List.getElem?_eq_some_iff.1 hp).1
          obtain ⟨e1, e2⟩ := plC_get hp
          have f1 := HPR.out.cellAt (i * 2) (by omega)
          have f2 := HPR.out.cellAt (i * 2 + 1) (by omega)
          rw [e1] at f1
          rw [e2] at f2
          rw [Nat.zero_add]
          exact ⟨f1, f2⟩
        have hD3 : DRow w2.drew base2 (.slice (some ⟨gD, 0, none⟩) ds.length cD) ds := by
          have := ownsRow_turned HD2.out (Turned.drw (Z := fun _ => False) w2) (fun _ _ e => e)
          rw [HNN.out] at this
          exact this
        have := headOf_any (cap := cv) hD3 hv hgvl (fun p hp => by have := (hps p hp).1; rw [← HNN.out]; exact this) (by omega) (by rw [← HNN.out]; exact hn) HDL.out (fun p hp => by have := (hps p hp).2.2; omega)
        rw [← HNN.out] at this
        exact this.mono fun e w' ⟨h1, h2⟩ => ⟨h1, ⟨h2.os, h2.tape, h2.output, h2.size, h2.block⟩⟩
      have HLE := hid hl
      clear hl hw1' C2 hP2 hPR hT2 h2 hps kf HD1 HS1 HN2 HG HP1 HT1 HD2
      by_cases heq : (x, y, z) = (lastO ps, mxC ps, mnL (lensOf ds) ps)
      · rw [if_pos heq] at HR
        simp only [Prod.mk.injEq] at heq
        obtain ⟨e1, e2, e3⟩ := heq
        have HX1 := hid e1
        have HX2 := hid e2
        have HX3 := hid e3
        rw [← e1, ← e2, ← e3] at C3
        clear e1 e2 e3
        go_wp2_with (fail)
        go_region_held3 (fun w' => w'.cell? ⟨b, 2, none⟩ = some (.slice (some ⟨gD, 0, none⟩) n cD) ∧ w'.cell? ⟨w1.heap.size, 0, none⟩ = some (natV x) ∧ w'.cell? ⟨w1.heap.size, 1, none⟩ = some (natV y) ∧ w'.cell? ⟨w1.heap.size, 2, none⟩ = some (natV z)) (go_keep)
          (first | (go_at_call 206; refine C3.out.mono ?_; rintro e w4 ⟨rfl, hB4⟩; have j2 := below_c hB4 (by omega) c2; have j0 := below_c hB4 (by omega) k0; have j1 := below_c hB4 (by omega) k1; have j3 := below_c hB4 (by omega) k2))
        have HN4 := hid ((hB4.block _ (by omega)).trans HN3.out)
        obtain ⟨l0, l1, l2, lf⟩ := cell_three HN4.out
        have f0 := lf 0
        have f1 := lf 1
        have f2 := lf 2
        have HB4 := hid hB4
        clear lf hB4 c2 k0 k1 k2
        go_wp2
        have hTS := turned_set3 w4 w.heap.size (natV x) (natV y) (natV z)
        have hT4 : Turned (fun i => i = b) w w4 := HT2.out.trans (Turned.ofBelow HB4.out)
        refine bodyPost_ret (v := .tuple #[.agg #[natV x, natV y, natV z], .slice (some ⟨gv, 0, none⟩) ps.length cv, .nilIface]) (by simp [results, Tryz.results279, go_sem, l0, l1, l2]) rfl ⟨Or.inl ⟨ps, t2, _, HR.out, by rw [HX1.out, HX2.out, HX3.out], (HP2.out.turned (Turned.ofBelow (Z := fun _ => False) HB4.out) (fun e => e)).turned hTS (by omega), ?_⟩, Turned.over hT4 hTS (fun i hi e => by omega)⟩
        have := ownsRow_turned (HPR.out.mono (show w.heap.size ≤ wa.heap.size by omega)) (Turned.ofBelow (Z := fun _ => False) HB4.out) (fun _ _ e => e)
        exact ownsRow_turned this hTS (fun g hg e => by
          have e2 : gv = g := by simpa [Value.ownBlock] using hg
          omega)
      · rw [if_neg heq] at HR
        have g3 := HS2.out.cell 3 (by simp)
        have HHQ := hid heq
        clear heq
        generalize lastO ps = x2 at C3 HHQ
        generalize mxC ps = y2 at C3 HHQ
        generalize mnL (lensOf ds) ps = z2 at C3 HHQ
        have hp3 : ((x : Int) ≠ (x2 : Int)) ∨ (x = x2 ∧ (y : Int) ≠ (y2 : Int)) ∨ (x = x2 ∧ y = y2 ∧ (z : Int) ≠ (z2 : Int)) := by
          have := HHQ.out
          simp only [Prod.mk.injEq] at this
          omega
        clear HHQ
        have HC3 := C3
        rcases hp3 with hq | ⟨rfl, hq⟩ | ⟨rfl, rfl, hq⟩
        all_goals
          go_wp2_with (fail)
          go_region_held3 (fun w' => w'.cell? ⟨b, 2, none⟩ = some (.slice (some ⟨gD, 0, none⟩) n cD) ∧ w'.cell? ⟨w1.heap.size, 0, none⟩ = some (natV x) ∧ w'.cell? ⟨w1.heap.size, 1, none⟩ = some (natV y) ∧ w'.cell? ⟨w1.heap.size, 2, none⟩ = some (natV z)) (go_keep)
            (first | (go_at_call 206; refine HC3.out.mono ?_; rintro e w4 ⟨rfl, hB4⟩; have j2 := below_c hB4 (by omega) c2; have j0 := below_c hB4 (by omega) k0; have j1 := below_c hB4 (by omega) k1; have j3 := below_c hB4 (by omega) k2))
          have HN4 := hid ((hB4.block _ (by omega)).trans HN3.out)
          have HS4 := hid (HS2.out.turned (Turned.ofBelow (Z := fun _ => False) hB4) (fun _ _ e => e))
          have g34 := HS4.out.cell 3 (by simp)
          obtain ⟨l0, l1, l2, lf⟩ := cell_three HN4.out
          have f0 := lf 0
          have f1 := lf 1
          have f2 := lf 2
          have HB4 := hid hB4
          clear lf hB4 c2 k0 k1 k2 g3
          have hlow := HS2.out.low
          have hsz4 := HB4.out.size
          have hn3 : ¬ w.heap.size = 3 := by omega
          have hn3' : ¬ 3 = w.heap.size := by omega
          have hn4 : ¬ w.heap.size = w4.heap.size := by omega
          have hn4' : ¬ w4.heap.size = w.heap.size := by omega
          have hlt4 : w.heap.size < w4.heap.size := by omega
          go_wp2_with (fail)
          go_region
          have hTS := turned_set3 w4 w.heap.size (.int .i64 0) (.int .i64 0) (.int .i64 0)
          have hXs : (((w4.setCell ⟨w.heap.size, 0, none⟩ (.int .i64 0)).setCell ⟨w.heap.size, 1, none⟩ (.int .i64 0)).setCell ⟨w.heap.size, 2, none⟩ (.int .i64 0)).heap.size = w4.heap.size := by simp [World.setCell]
          have hT4 : Turned (fun i => i = b) w w4 := HT2.out.trans (Turned.ofBelow HB4.out)
          have HTf := hid ((Turned.over hT4 hTS (fun i hi e => by omega)).trans ((Turned.ofAlloc _ (.cells #[.int .i64 (at_ : Int), .iface 404 (.pointer (some (A 3)))] 253)).trans (Turned.drw _)))
          have HNf := hid (heap_alloc_new (((w4.setCell ⟨w.heap.size, 0, none⟩ (.int .i64 0)).setCell ⟨w.heap.size, 1, none⟩ (.int .i64 0)).setCell ⟨w.heap.size, 2, none⟩ (.int .i64 0)) (.cells #[.int .i64 (at_ : Int), .iface 404 (.pointer (some (A 3)))] 253))
          rw [hXs] at HNf
          obtain ⟨m0, m1, m2, _⟩ := cell_three (((Turned.ofAlloc (Z := fun _ => False) (((w4.setCell ⟨w.heap.size, 0, none⟩ (.int .i64 0)).setCell ⟨w.heap.size, 1, none⟩ (.int .i64 0)).setCell ⟨w.heap.size, 2, none⟩ (.int .i64 0)) (.cells #[.int .i64 (at_ : Int), .iface 404 (.pointer (some (A 3)))] 253)).block w.heap.size (by rw [hXs]; exact hlt4) (fun e => e)).trans (set3_block (v0 := .int .i64 0) (v1 := .int .i64 0) (v2 := .int .i64 0) HN4.out))
          go_wp2
          refine bodyPost_ret (v := .tuple #[.agg #[.int .i64 0, .int .i64 0, .int .i64 0], .slice none 0 0, .iface 116 (.pointer (some ⟨w4.heap.size, 0, none⟩))]) (by simp [results, Tryz.results279, go_sem, m0, m1, m2]) rfl ⟨Or.inr ⟨HR.out, _, rfl, Chain.at_ (k := 3) (z := at_) HNf.out (by simp) (by decide)⟩, HTf.out⟩
    · rw [h2] at HR
      have HC := hid hC
      obtain ⟨u, x2, rfl⟩ := hC.iface
      have HN3 := hid (kept_new hT2 HN2.out (by omega))
      obtain ⟨k0, k1, k2, kf⟩ := cell_three HN3.out
      have f0 := kf 0
      have f1 := kf 1
      have f2 := kf 2
      have HT2 := hid (HT1.out.trans hT2)
      clear kf C2 hT2 hC h2 hw1'
      go_wp2
      have hTS := turned_set3 w2 w.heap.size (.int .i64 0) (.int .i64 0) (.int .i64 0)
      refine bodyPost_ret (v := .tuple #[.agg #[.int .i64 0, .int .i64 0, .int .i64 0], .slice none 0 0, .iface u x2]) (by simp [results, Tryz.results279, go_sem, k0, k1, k2]) rfl ⟨Or.inr ⟨HR.out, _, rfl, HC.out.turnT hTS HN3.out (by decide) (by decide)⟩, Turned.over HT2.out hTS (fun i hi e => by omega)⟩
  · rw [h1] at HR
    have HC := hid hC
    obtain ⟨u, x2, rfl⟩ := hC.iface
    have HN1 := hid (kept_new hT1 HN.out (by omega))
    have hTa := Turned.ofAlloc (Z := fun i => i = b) w1 (.cells #[.int .i64 0, .int .i64 0, .int .i64 0] 295)
    have HC2 := hid (HC.out.kept ((Below.refl w1.heap.size w1).alloc (Nat.le_refl _) (.cells #[.int .i64 0, .int .i64 0, .int .i64 0] 295)))
    have HN2 := hid (kept_new hTa HN1.out (by omega))
    have HT2 := hid ((HT0.out.trans hT1).trans hTa)
    clear C1 hT1 hTa hC h1 HC HN1
    obtain ⟨k0, k1, k2, kf⟩ := cell_three HN2.out
    have f0 := kf 0
    have f1 := kf 1
    have f2 := kf 2
    clear kf
    go_wp2
    have hTS := turned_set3 (w1.alloc (.cells #[.int .i64 0, .int .i64 0, .int .i64 0] 295)) w.heap.size (.int .i64 0) (.int .i64 0) (.int .i64 0)
    refine bodyPost_ret (v := .tuple #[.agg #[.int .i64 0, .int .i64 0, .int .i64 0], .slice none 0 0, .iface u x2]) (by simp [results, Tryz.results279, go_sem, k0, k1, k2]) rfl ⟨Or.inr ⟨HR.out, _, rfl, HC2.out.turnT hTS HN2.out (by decide) (by decide)⟩, Turned.over HT2.out hTS (fun i hi e => by omega)⟩
end Go.Proofs.YtaacjjhmojecnaaGreatDoor
