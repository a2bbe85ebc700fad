/- The program's reader: the walk of Read. -/
import Derived.Test.YtaacjjhmojecnaaGreatDoorRdST
import Derived.Laws.EntriesVeiled
namespace Go.Proofs.YtaacjjhmojecnaaGreatDoor
open Go.RowKit Go.ScT Go.Proofs

abbrev ct0 : Obj := .cells #[.slice none 0 0, .slice none 0 0] 91
abbrev pr0 (s : ByteArray) : Obj := .cells #[.string s, .int .i64 0, .slice none 0 0, .slice none 0 0] 152
abbrev ptV (b : Nat) : Array Value := #[.string ⟨#[109, 97, 114, 107]⟩, .func (.func 84) #[.pointer (some ⟨b, 0, none⟩)] #[], .string ⟨#[100, 111, 99, 117, 109, 101, 110, 116, 115]⟩, .func (.func 85) #[.pointer (some ⟨b, 0, none⟩)] #[],
  .string ⟨#[116, 111, 107, 101, 110, 115]⟩, .func (.func 86) #[.pointer (some ⟨b, 0, none⟩)] #[], .string ⟨#[108, 101, 110, 103, 116, 104, 115]⟩, .func (.func 87) #[.pointer (some ⟨b, 0, none⟩)] #[],
  .string ⟨#[99, 104, 101, 99, 107]⟩, .func (.func 88) #[.pointer (some ⟨b, 0, none⟩)] #[], .string ⟨#[101, 110, 100]⟩, .func (.func 89) #[.pointer (some ⟨b, 0, none⟩)] #[]]
theorem ptV_at (b : Nat) : ∀ i, i < 6 → ∃ nm : ByteArray, (ptV b)[i * 2]? = some (.string nm) ∧ (ptV b)[i * 2 + 1]? = some (.func (.func (84 + i)) #[.pointer (some ⟨b, 0, none⟩)] #[])
  | 0, _ => ⟨_, rfl, rfl⟩
  | 1, _ => ⟨_, rfl, rfl⟩
  | 2, _ => ⟨_, rfl, rfl⟩
  | 3, _ => ⟨_, rfl, rfl⟩
  | 4, _ => ⟨_, rfl, rfl⟩
  | 5, _ => ⟨_, rfl, rfl⟩
  | i + 6, h => by omega
theorem entersPart : ∀ i, i < 6 → ∀ args w, (callFunc (84 + i) args).run Tryz.prog w = .ok (.enter (84 + i) args) w
  | 0, _ => enters_of Tryz.func84 (by kernel_rfl) rfl
  | 1, _ => enters_of Tryz.func85 (by kernel_rfl) rfl
  | 2, _ => enters_of Tryz.func86 (by kernel_rfl) rfl
  | 3, _ => enters_of Tryz.func87 (by kernel_rfl) rfl
  | 4, _ => enters_of Tryz.func88 (by kernel_rfl) rfl
  | 5, _ => enters_of Tryz.func89 (by kernel_rfl) rfl
  | i + 6, h => absurd h (Nat.not_lt.2 (Nat.le_add_left 6 i))
theorem cell_two2 {w : World} {y : Nat} {v1 v2 : Value} {t : TypeId} (h : w.heap[y]? = some (.cells #[v1, v2] t (0, 0))) :
    w.cell? ⟨y, 0, none⟩ = some v1 ∧ w.cell? ⟨y, 1, none⟩ = some v2 ∧ (∀ j, w.frozen? ⟨y, j, none⟩ = false) := by
  simp [World.cell?, World.frozen?, h]
theorem turned_set2 (w : World) (g : Nat) (v0 v1 : Value) : Turned (fun i => i = g) w ((w.setCell ⟨g, 0, none⟩ v0).setCell ⟨g, 1, none⟩ v1) :=
  (Turned.ofSet (Z := fun i => i = g) w ⟨g, 0, none⟩ v0 rfl).trans (Turned.ofSet (Z := fun i => i = g) _ ⟨g, 1, none⟩ v1 rfl)
/-- What Read ends with. -/
def ReadEnds (w w' : World) (A : Nat → Addr) (S : Bs) (e : Ending) : Prop :=
  ((∃ ds ls D L, pRead S = some (ds, ls) ∧ e = .returned (.tuple #[.agg #[D, L], .nilIface]) ∧ GoodDs ds ∧ GoodLs ds ls ∧ DRow w' w.heap.size D ds ∧ ListsAt w' w.heap.size (lensOf ds) L ls) ∨ (pRead S = none ∧ ∃ n ev, n ≤ 3 ∧ e = .returned (.tuple #[.agg #[.slice none 0 0, .slice none 0 0], ev]) ∧ Chain w' A n ev)) ∧ Below w.heap.size w w'
set_option maxHeartbeats 1000000 in
set_option maxRecDepth 1000000 in
theorem progRead_any {w : World} {base : Nat} {A : Nat → Addr} {s : ByteArray} (hS : Sent w A base) (hs : s.size ≤ 60000) :
    Calls Tryz.prog 48 #[.string s] w fun e w' => ReadEnds w w' A s.data.toList e := by
  have hsi : ¬ ((60000 : Int) < (s.size : Int)) := by omega
  obtain ⟨R, hR⟩ : ∃ R, R = pRead s.data.toList := ⟨_, rfl⟩
  have HRR := hid hR
  have hsz := hS.size
  have hB1 := ((Below.refl w.heap.size w).alloc (Nat.le_refl _) ct0)
  have hB2 := hB1.alloc (by simp) (pr0 s)
  have hB3 := hB2.alloc (by simp; omega) (.cells (ptV (w.heap.size + 1)) 154)
  have HB := hid hB3
  have HP : Hid (PAt (((w.alloc ct0).alloc (pr0 s)).alloc (.cells (ptV (w.heap.size + 1)) 154)) (w.heap.size + 1) s s.data.toList (.slice none 0 0) (.slice none 0 0)) := by
    have h1 := heap_alloc_new (w.alloc ct0) (pr0 s)
    rw [show (w.alloc ct0).heap.size = w.heap.size + 1 by simp] at h1
    have h2 := (Turned.ofAlloc (Z := fun _ => False) ((w.alloc ct0).alloc (pr0 s)) (.cells (ptV (w.heap.size + 1)) 154)).block (w.heap.size + 1) (by simp) (fun e => e)
    exact ⟨0, h2.trans h1, by omega, rfl⟩
  have HG : Hid ((((w.alloc ct0).alloc (pr0 s)).alloc (.cells (ptV (w.heap.size + 1)) 154)).heap[w.heap.size]? = some (.cells #[.slice none 0 0, .slice none 0 0] 91 (0, 0))) := by
    have h1 := heap_alloc_new w ct0
    have h2 := (Turned.ofAlloc (Z := fun _ => False) (w.alloc ct0) (pr0 s)).block w.heap.size (by simp) (fun e => e)
    have h3 := (Turned.ofAlloc (Z := fun _ => False) ((w.alloc ct0).alloc (pr0 s)) (.cells (ptV (w.heap.size + 1)) 154)).block w.heap.size (by simp; omega) (fun e => e)
    exact (h3.trans h2).trans h1
  have HT : Hid ((((w.alloc ct0).alloc (pr0 s)).alloc (.cells (ptV (w.heap.size + 1)) 154)).heap[w.heap.size + 1 + 1]? = some (.cells (ptV (w.heap.size + 1)) 154 (0, 0))) := by
    have h1 := heap_alloc_new ((w.alloc ct0).alloc (pr0 s)) (.cells (ptV (w.heap.size + 1)) 154)
    rw [show ((w.alloc ct0).alloc (pr0 s)).heap.size = w.heap.size + 1 + 1 by simp] at h1
    exact h1
  have HS := hid (hS.below HB.out)
  have HST : Hid (Stg (w.heap.size + 1) s R 0 (((w.alloc ct0).alloc (pr0 s)).alloc (.cells (ptV (w.heap.size + 1)) 154))) := ⟨HP.out, hR⟩
  clear hR hS hB1 hB2 hB3 HP
  go_enter Tryz.func48, Tryz.ntmps48
  go_wp2_with (fail)
  generalize ((w.alloc ct0).alloc (pr0 s)).alloc (.cells (ptV (w.heap.size + 1)) 154) = w0 at *
  go_loopw [39] (fun s39 wr => ∃ i : Nat, s39 = .int .i64 (i : Int) ∧ i ≤ 6 ∧ Hid (Stg (w.heap.size + 1) s R i wr) ∧ Hid (wr.heap[w.heap.size]? = some (.cells #[.slice none 0 0, .slice none 0 0] 91 (0, 0))) ∧ Hid (wr.heap[w.heap.size + 1 + 1]? = some (.cells (ptV (w.heap.size + 1)) 154 (0, 0))) ∧ Hid (Below w.heap.size w wr) ∧ Hid (Sent wr A base)) (fun s39 _ => 6 - (intOf s39).toNat)
  case atStart => exact ⟨0, rfl, by omega, HST, HG, HT, HB, HS⟩
  case round =>
    obtain ⟨i, rfl, hi, HSt, HGr, HTr, HBr, HSr⟩ := hrel
    have hszr := HBr.out.size
    have hlt2 := lt_of_block' HTr.out
    by_cases hlt : i < 6
    · have hlti : (i : Int) < 6 := by omega
      obtain ⟨nm, t0, t1⟩ := ptV_at (w.heap.size + 1) i hlt
      have q0 := cell_of_block2 (j := i * 2) HTr.out
      have q1 := cell_of_block2 (j := i * 2 + 1) HTr.out
      rw [t0] at q0
      rw [t1] at q1
      have hent := entersPart i hlt
      obtain ⟨f, hf⟩ : ∃ f, f = 84 + i := ⟨_, rfl⟩
      rw [← hf] at q1 hent
      have HTa := hid (Turned.ofAlloc (Z := fun i => i = w.heap.size + 1) wr (.cells #[.string nm, .func (.func f) #[.pointer (some ⟨w.heap.size + 1, 0, none⟩)] #[]] 154))
      have HN := hid (heap_alloc_new wr (.cells #[.string nm, .func (.func f) #[.pointer (some ⟨w.heap.size + 1, 0, none⟩)] #[]] 154))
      have HSa := hid (HSr.out.turned HTa.out (fun i hi e => by omega))
      have C : Hid (Calls Tryz.prog f #[.pointer (some ⟨w.heap.size + 1, 0, none⟩)] (wr.alloc (.cells #[.string nm, .func (.func f) #[.pointer (some ⟨w.heap.size + 1, 0, none⟩)] #[]] 154)) fun e w' => StepEnds (wr.alloc (.cells #[.string nm, .func (.func f) #[.pointer (some ⟨w.heap.size + 1, 0, none⟩)] #[]] 154)) w' (w.heap.size + 1) A s R i e) := by
        rw [hf] at HSa ⊢
        exact step_any HSa.out (by omega) hs hlt (HSt.out.turned (Turned.ofAlloc (Z := fun _ => False) wr (.cells #[.string nm, .func (.func (84 + i)) #[.pointer (some ⟨w.heap.size + 1, 0, none⟩)] #[]] 154)) (fun _ _ _ e => e))
      clear hf t0 t1
      go_wp2_with (fail)
      refine C.out.mono ?_
      have hpb : w.heap.size + 1 + 1 < wr.heap.size := hlt2
      have hwa : wr.heap.size < (wr.alloc (.cells #[.string nm, .func (.func f) #[.pointer (some ⟨w.heap.size + 1, 0, none⟩)] #[]] 154)).heap.size := by simp
      have HBa := hid (HBr.out.trans (((Below.refl wr.heap.size wr).alloc (Nat.le_refl _) (.cells #[.string nm, .func (.func f) #[.pointer (some ⟨w.heap.size + 1, 0, none⟩)] #[]] 154)).mono hszr))
      have HGa := hid ((HTa.out.block _ (lt_of_block' HGr.out) (by omega)).trans HGr.out)
      have HTTa := hid ((HTa.out.block _ (lt_of_block' HTr.out) (by omega)).trans HTr.out)
      generalize wr.alloc (.cells #[.string nm, .func (.func f) #[.pointer (some ⟨w.heap.size + 1, 0, none⟩)] #[]] 154) = wa at *
      rintro e w2 ⟨⟨rfl, hSt⟩ | ⟨hRn, n, ev, rfl, hn, hC⟩, hT2⟩
      · have HG2 := hid ((hT2.block _ (lt_of_block' HGa.out) (by omega)).trans HGa.out)
        have HT2 := hid ((hT2.block _ (lt_of_block' HTTa.out) (by omega)).trans HTTa.out)
        have HB2 := hid (below_turned HBa.out hT2 HBa.out.size (fun i hi => by omega))
        have HS2 := hid (HSa.out.turned hT2 (fun i hi e => by omega))
        have HSt2 := hid hSt
        clear C hT2 hSt q0 q1
        go_wp2_with (fail)
        go_roundw
        case rel => exact ⟨i + 1, by go_num, by omega, HSt2, HG2, HT2, HB2, HS2⟩
        case measure => simp [intOf]; omega
      · have HC := hid hC
        obtain ⟨u, x, rfl⟩ := hC.iface
        have HG2 := hid ((hT2.block _ (lt_of_block' HGa.out) (by omega)).trans HGa.out)
        have HN2 := hid ((hT2.block _ (lt_of_block' HN.out) (by omega)).trans HN.out)
        have HB2 := hid (below_turned HBa.out hT2 HBa.out.size (fun i hi => by omega))
        have hsz2 := hT2.size
        obtain ⟨l0, l1, lf⟩ := cell_two2 HG2.out
        obtain ⟨n0, n1, _⟩ := cell_two2 HN2.out
        have f0 := lf 0
        have f1 := lf 1
        have HRn := hid hRn
        generalize wr.heap.size = pb at *
        have a1 : ¬ pb = w.heap.size := by omega
        have a2 : ¬ w.heap.size = pb := by omega
        have a3 : ¬ w.heap.size = w2.heap.size := by omega
        have a4 : ¬ w2.heap.size = w.heap.size := by omega
        have a5 : ¬ pb = w2.heap.size := by omega
        have a6 : ¬ w2.heap.size = pb := by omega
        have a7 : w.heap.size < w2.heap.size := by omega
        have a8 : pb < w2.heap.size := by omega
        clear C hT2 hC q0 q1 lf hRn hent
        go_wp2_with (fail)
        go_region
        have hTS := turned_set2 w2 w.heap.size (.slice none 0 0) (.slice none 0 0)
        have hXs : ((w2.setCell ⟨w.heap.size, 0, none⟩ (.slice none 0 0)).setCell ⟨w.heap.size, 1, none⟩ (.slice none 0 0)).heap.size = w2.heap.size := by simp [World.setCell]
        have hC1 := HC.out.turnT hTS HG2.out (by decide) (by decide)
        have hBB : Below ((w2.setCell ⟨w.heap.size, 0, none⟩ (.slice none 0 0)).setCell ⟨w.heap.size, 1, none⟩ (.slice none 0 0)).heap.size ((w2.setCell ⟨w.heap.size, 0, none⟩ (.slice none 0 0)).setCell ⟨w.heap.size, 1, none⟩ (.slice none 0 0)) (((w2.setCell ⟨w.heap.size, 0, none⟩ (.slice none 0 0)).setCell ⟨w.heap.size, 1, none⟩ (.slice none 0 0)).alloc (.cells #[.string nm, .iface u x] 158)).drew := by
          have h1 := (Below.refl _ ((w2.setCell ⟨w.heap.size, 0, none⟩ (.slice none 0 0)).setCell ⟨w.heap.size, 1, none⟩ (.slice none 0 0))).alloc (Nat.le_refl _) (.cells #[.string nm, .iface u x] 158)
          exact ⟨h1.os, h1.tape, h1.output, h1.size, h1.block⟩
        have HNf := hid (heap_alloc_new ((w2.setCell ⟨w.heap.size, 0, none⟩ (.slice none 0 0)).setCell ⟨w.heap.size, 1, none⟩ (.slice none 0 0)) (.cells #[.string nm, .iface u x] 158))
        rw [hXs] at HNf
        have HCf := hid (hC1.kept hBB)
        have HBf := hid (below_turned (below_turned HB2.out hTS HB2.out.size (fun i hi => by omega)) (Turned.ofBelow (Z := fun _ => False) hBB) (by rw [hXs]; omega) (fun _ _ e => e))
        have e1 := heap_setCell_same w2 w.heap.size 0 _ 91 (.slice none 0 0) HG2.out
        have e2 := heap_setCell_same _ w.heap.size 1 _ 91 (.slice none 0 0) e1
        obtain ⟨m0, m1, _⟩ := cell_two2 (show (((w2.setCell ⟨w.heap.size, 0, none⟩ (.slice none 0 0)).setCell ⟨w.heap.size, 1, none⟩ (.slice none 0 0)).alloc (.cells #[.string nm, .iface u x] 158)).heap[w.heap.size]? = some (.cells #[.slice none 0 0, .slice none 0 0] 91 (0, 0)) from (hBB.block _ (by rw [hXs]; exact a7)).trans e2)
        clear e1 e2 hBB hC1
        go_wp2
        refine bodyPost_ret (v := .tuple #[.agg #[.slice none 0 0, .slice none 0 0], .iface 156 (.pointer (some ⟨w2.heap.size, 0, none⟩))]) (by simp [results, Tryz.results48, go_sem, m0, m1]) rfl ⟨Or.inr ⟨by rw [← HRR.out]; exact HRn.out, n + 1, _, by omega, rfl, Chain.in_ HNf.out HCf.out⟩, HBf.out⟩
    · have hlti : ¬ ((i : Int) < 6) := by omega
      obtain rfl : i = 6 := by omega
      obtain ⟨r, ds, gD, cD, ls, L, hP, hD, hg, hL, hgl, hr⟩ := HSt.out
      have HRe : Hid (R = some (ds, ls)) := hr
      obtain ⟨at_, hp, _⟩ := hP
      obtain ⟨_, _, c2, c3, _⟩ := cell_par hp
      obtain ⟨xs, hx1, hx2, hx3⟩ := hL
      obtain ⟨gL, cL, ao, hLe, _, _⟩ := ownsRow_shape hx2
      have HD := hid hD
      have HL : Hid (ListsAt wr (w.heap.size + 1 + 1) (lensOf ds) L ls) := ⟨xs, hx1, hx2, hx3⟩
      have HGd := hid hg
      have HGl := hid hgl
      obtain ⟨l0, l1, lf⟩ := cell_two2 HGr.out
      have f0 := lf 0
      have f1 := lf 1
      obtain ⟨xl, hxl⟩ : ∃ k, k = xs.length := ⟨_, rfl⟩
      obtain ⟨dl, hdl⟩ : ∃ k, k = ds.length := ⟨_, rfl⟩
      rw [← hxl] at hLe
      rw [← hdl] at c2 HD
      have HDL := hid hdl
      subst hLe
      clear hD hx1 hx2 hx3 hg hgl hr lf hp hxl hdl HSt
      go_wp2
      have hTS := turned_set2 wr w.heap.size (.slice (some ⟨gD, 0, none⟩) dl cD) (.slice ao xl cL)
      have hm := HBr.out.size
      refine bodyPost_ret (v := .tuple #[.agg #[.slice (some ⟨gD, 0, none⟩) dl cD, .slice ao xl cL], .nilIface]) (by simp [results, Tryz.results48, go_sem, l0, l1]) rfl ⟨Or.inl ⟨ds, ls, _, _, by rw [← HRR.out]; exact HRe.out, rfl, HGd.out, HGl.out, ?_, ?_⟩, below_turned HBr.out hTS hm (fun j hj => by omega)⟩
      · exact World.ownsRow.mono (ownsRow_turned HD.out hTS (fun g hg e => by have := (HD.out.lt g hg).1; omega)) (by omega)
      · exact (HL.out.turned hTS (fun g hg e => by omega)).mono (by omega)
end Go.Proofs.YtaacjjhmojecnaaGreatDoor
