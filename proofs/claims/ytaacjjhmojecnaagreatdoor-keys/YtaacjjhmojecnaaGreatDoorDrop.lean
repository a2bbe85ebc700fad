/- The walk of the buffer's drop. -/
import Derived.Test.YtaacjjhmojecnaaGreatDoorDelDoc2
import Derived.Test.YtaacjjhmojecnaaGreatDoorRangeStore
namespace Go.Proofs.YtaacjjhmojecnaaGreatDoor
open Go.RowKit Go.ScT Go.Proofs Go.Shelf
open Go.Maps (Keyed string_keyed)

theorem law9 : Keyed Tryz.prog 9 := string_keyed Tryz.underlying9

theorem ranges_turned {w w' : World} {Z : Nat → Prop} {H : Type} {R : Value → Option (DataW H × List MemPlace)} {k : TypeId} {b r n : Nat} {D : DataW H} {left : Lit → Bool} {cnt : Nat} (h : w.ranges Tryz.prog k R b r n D left cnt) (ht : Turned Z w w') (hb : ¬ Z b) (hr : ¬ Z r) : w'.ranges Tryz.prog k R b r n D left cnt := by
  have h1 := h.owns.lt
  have h2 := h.lt
  obtain ⟨es, clock, since, seen, c0, hbb, F, hs, hD, hrr, rest⟩ := h
  exact ⟨es, clock, since, seen, c0, (ht.block b h1 hb).trans hbb, F, hs, hD, (ht.block r h2 hr).trans hrr, rest⟩

theorem wpList_store_ranges {H : Type} {P : Program} (w : World) {ops : Array Oper} {rest : List Oper} {o : Oper} {a : Act} {Q : Exit → Act → World → Prop}
    (hg : o.guard = none) (m x v : Operand) (t : TypeId) (hop : o.op = Op.mapUpdate t m x v) (k e : TypeId) (K : Keyed P k) (ht : P.underlying t = some (.map k e)) (z : Value) (hz : (zeroValue e).run P w = .ok z w) (R : Value → Option (DataW H × List MemPlace)) (b r n : Nat) (D : DataW H) (left : Lit → Bool) (cnt : Nat)
    (hm : a.eval m = .map (some b)) (h : w.ranges P k R b r n D left cnt) (key val : Value) (kl : Lit) (hx : a.eval x = key) (hv : a.eval v = val) (hkey : keyOf P k key = some kl)
    (hall : ∀ v y, R v = some y → y = (.nil, [])) (hval : R val = some (.nil, [])) (hthere : ∀ zd, D.atKey kl zd = .nil)
    (hK : ∀ w', w'.ranges P k R b r n D left cnt → w.grownBy w' (some b) → w'.heap.size = w.heap.size → wpList P ops Q rest (a.put o.dst undef) w') :
    wpList P ops Q (o :: rest) a w := by
  refine wpList_plain hg fun K' hK' => ?_
  obtain ⟨w', hrun, r1, r2, r3⟩ := ranges_store h K ht hz hkey hall hval hthere
  unfold Oper.wp
  simp [execOp, hop, hm, hx, hv, hrun, Result.andThen]
  exact hK' _ _ (hK w' r1 r2 r3)

theorem place_shape {T : PT} {m : Nat} {v : Value} (h : placeB T m v = true) : ∃ ao n cap, v = .slice ao n cap ∧ n ≤ m := by
  rcases placeB_inv h with rfl | ⟨g, n, cap, t, rfl, _, _, h2⟩
  · exact ⟨none, 0, 0, rfl, Nat.zero_le _⟩
  · exact ⟨_, n, cap, rfl, h2⟩
theorem docs_own {w : World} {v : Value} {m : Nat} (h : DocsOk w v m) : ∀ g, v.ownBlock = some g → g < w.heap.size := by
  intro g hg
  rcases h with rfl | ⟨g', n, cap, t, rfl, hr, _⟩
  · cases hg
  · simp [Value.ownBlock] at hg; subst hg; exact hr.lt
theorem docs_turned {w w' : World} {Z : Nat → Prop} {v : Value} {m : Nat} (h : DocsOk w v m) (ht : Turned Z w w') (hz : ∀ g, v.ownBlock = some g → ¬ Z g) : DocsOk w' v m := by
  rcases h with rfl | ⟨g, n, cap, t, rfl, hr, h1, h2⟩
  · exact Or.inl rfl
  · exact Or.inr ⟨g, n, cap, t, rfl, hr.turned ht (hz g rfl), h1, h2⟩
theorem docs_shape {w : World} {v : Value} {m : Nat} (h : DocsOk w v m) : ∃ ao n cap, v = .slice ao n cap := by
  rcases h with rfl | ⟨g, n, cap, t, rfl, _⟩
  · exact ⟨none, 0, 0, rfl⟩
  · exact ⟨_, n, cap, rfl⟩
theorem placeE_all {T : PT} {m : Nat} : ∀ v y, placeE T m v = some y → y = (.nil, []) := fun _ _ h => (placeE_inv h).2
theorem keyOf9_inv {key : Value} {kl : Lit} (h : keyOf Tryz.prog 9 key = some kl) : ∃ s : ByteArray, key = .string s := by
  cases key <;> simp [keyOf, Tryz.underlying9, mapKey] at h
  exact ⟨_, rfl⟩

theorem cell_five {w : World} {y : Nat} {v1 v2 v3 v4 v5 : Value} {t : TypeId} (h : w.heap[y]? = some (.cells #[v1, v2, v3, v4, v5] t (0, 0))) :
    w.cell? ⟨y, 0, none⟩ = some v1 ∧ w.cell? ⟨y, 1, none⟩ = some v2 ∧ w.cell? ⟨y, 2, none⟩ = some v3 ∧ w.cell? ⟨y, 3, none⟩ = some v4 ∧ w.cell? ⟨y, 4, none⟩ = some v5 := by
  simp [World.cell?, h]
theorem frozen_five {w : World} {y : Nat} {v1 v2 v3 v4 v5 : Value} {t : TypeId} (h : w.heap[y]? = some (.cells #[v1, v2, v3, v4, v5] t (0, 0))) (j : Nat) : w.frozen? ⟨y, j, none⟩ = false := by
  simp [World.frozen?, h]

/-- What drop may turn. -/
def ZDrop (e mw : Nat) (dv : Value) (T : PT) : Nat → Prop := fun b => b = e ∨ b = mw ∨ dv.ownBlock = some b ∨ InT T b
/-- The buffer, in cells 2 and 3 of block e. -/
structure BufOk (w : World) (e mw : Nat) (c0 c1 c4 dv : Value) (T : PT) (m nW : Nat) (DW : DataW Unit) : Prop where
  eng : w.heap[e]? = some (.cells #[c0, c1, dv, .map (some mw), c4] 87 (0, 0))
  docs : DocsOk w dv m
  words : w.ownsMap Tryz.prog 9 (placeE T m) mw nW DW
  rows : RowsOk w T
  eT : ¬ InT T e
  wT : ¬ InT T mw
  dT : ∀ g, dv.ownBlock = some g → ¬ InT T g ∧ g ≠ e ∧ g ≠ mw
  em : e ≠ mw

theorem RowsOk.inLt {w : World} {T : PT} (h : RowsOk w T) {g : Nat} (hg : InT T g) : g < w.heap.size := by
  obtain ⟨⟨c, t⟩, hx⟩ := hg
  exact (h g c t hx).lt
theorem BufOk.turned {w w' : World} {Z : Nat → Prop} {e mw : Nat} {c0 c1 c4 dv : Value} {T : PT} {m nW : Nat} {DW : DataW Unit} (h : BufOk w e mw c0 c1 c4 dv T m nW DW) (ht : Turned Z w w') (he : ¬ Z e) (hmw : ¬ Z mw) (hd : ∀ g, dv.ownBlock = some g → ¬ Z g) (hT : ∀ g, InT T g → ¬ Z g) : BufOk w' e mw c0 c1 c4 dv T m nW DW :=
  ⟨(ht.block e (lt_of_block h.eng) he).trans h.eng, docs_turned h.docs ht hd, ownsMap_turned h.words ht hmw, h.rows.turned ht (fun g x hg => hT g ⟨x, hg⟩), h.eT, h.wT, h.dT, h.em⟩
theorem Turned.trans2 {Z Z' : Nat → Prop} {a b c : World} (h : Turned Z a b) (k : Turned Z' b c) (hz : ∀ i, i < a.heap.size → Z' i → Z i) : Turned Z a c :=
  ⟨k.os.trans h.os, k.tape.trans h.tape, k.output.trans h.output, Nat.le_trans h.size k.size, fun i hi hn => (k.block i (Nat.lt_of_lt_of_le hi h.size) (fun hz' => hn (hz i hi hz'))).trans (h.block i hi hn)⟩
theorem slice_eq_zero {n : Nat} (h : n = 0) : ((n : Int) == 0) = true := by subst h; rfl
theorem slice_ne_zero {n : Nat} (h : n ≠ 0) : ((n : Int) == 0) = false := by simp; omega

set_option maxHeartbeats 2000000 in
set_option maxRecDepth 1000000 in
theorem drop_any (w : World) (e mw : Nat) (c0 c1 c4 dv : Value) (T : PT) (m nW : Nat) (DW : DataW Unit) (hb : BufOk w e mw c0 c1 c4 dv T m nW DW) (hm : m ≤ 100000) (num : Int) :
    Calls Tryz.prog 83 #[.pointer (some ⟨e, 2, none⟩), .int .i64 num] w fun en w' => en = .returned (.tuple #[]) ∧ (∃ dv' DW', BufOk w' e mw c0 c1 c4 dv' T m nW DW' ∧ dv'.ownBlock = dv.ownBlock) ∧ Turned (ZDrop e mw dv T) w w' := by
  obtain ⟨ao, dn, dcap, rfl⟩ := docs_shape hb.docs
  have hmf : ∀ (fn : Fn) (first cap : Array Value) (w : World), (Instr.makeFunc fn first cap).run Tryz.prog w = .ok (.func fn first cap) w := fun _ _ _ _ => rfl
  have hel := lt_of_block hb.eng
  have hml := hb.words.lt
  have q2 := (cell_five hb.eng).2.2.1
  have p2 : ∀ o, (w.alloc o).cell? ⟨e, 2, none⟩ = some (.slice ao dn dcap) := fun o => by rw [World.cell?_of_block (Below.heap_alloc _ _ _ hel)]; exact q2
  have CD : Hid (Calls Tryz.prog 161 #[.slice ao dn dcap, .func (.func 162) #[] #[.pointer (some ⟨w.heap.size, 0, none⟩)]] (w.alloc (.cells #[.int .i64 num] 3)) (DeletedD (w.alloc (.cells #[.int .i64 num] 3)) (.slice ao dn dcap) m)) :=
    del92_any (.slice ao dn dcap) w.heap.size num _ m (docs_turned (Z := fun _ => False) hb.docs (Turned.ofAlloc w _) (fun _ _ h => h)) hm (by simp) (by simp) (fun h => by have := docs_own hb.docs _ h; omega)
  have AFT : Hid (∀ w1 v', DocsOk w1 v' m → v'.ownBlock = (Value.slice ao dn dcap).ownBlock → Turned (fun b => (Value.slice ao dn dcap).ownBlock = some b) (w.alloc (.cells #[.int .i64 num] 3)) w1 → w1.heap[e]? = some (.cells #[c0, c1, .slice ao dn dcap, .map (some mw), c4] 87 (0, 0)) ∧ BufOk (w1.setCell ⟨e, 2, none⟩ v') e mw c0 c1 c4 v' T m nW DW ∧ Turned (ZDrop e mw (.slice ao dn dcap) T) w (w1.setCell ⟨e, 2, none⟩ v') ∧ (w1.setCell ⟨e, 2, none⟩ v').cell? ⟨w.heap.size, 0, none⟩ = some (.int .i64 num) ∧ w.heap.size < (w1.setCell ⟨e, 2, none⟩ v').heap.size) := by
    intro w1 v' hd' hown' ht'
    have hee : ¬ ((Value.slice ao dn dcap).ownBlock = some e) := fun h => (hb.dT e h).2.1 rfl
    have E1 : w1.heap[e]? = some (.cells #[c0, c1, .slice ao dn dcap, .map (some mw), c4] 87 (0, 0)) := by
      rw [ht'.block e (by simp; omega) hee, Below.heap_alloc _ _ _ hel]; exact hb.eng
    have T1 : Turned (fun b => (Value.slice ao dn dcap).ownBlock = some b) w w1 := (Turned.ofAlloc w _).trans ht'
    have T2 : Turned (fun b => b = e) w1 (w1.setCell ⟨e, 2, none⟩ v') := Turned.ofSet w1 _ _ rfl
    have hsz := ht'.size
    simp at hsz
    refine ⟨E1, ⟨heap_setCell_same w1 e 2 _ 87 v' E1, ?_, ?_, ?_, hb.eT, hb.wT, fun g hg => hb.dT g (hown' ▸ hg), hb.em⟩, ?_, ?_, ?_⟩
    · exact docs_turned hd' T2 (fun g hg => (hb.dT g (hown' ▸ hg)).2.1)
    · exact ownsMap_turned (ownsMap_turned hb.words T1 (fun h => (hb.dT _ h).2.2 rfl)) T2 (fun h => hb.em h.symm)
    · exact (hb.rows.turned T1 (fun g x hg h => (hb.dT g h).1 ⟨x, hg⟩)).turned T2 (fun g x hg (h : g = e) => hb.eT (h ▸ ⟨x, hg⟩))
    · exact (T1.mono (fun i _ h => Or.inr (Or.inr (Or.inl h)))).trans (T2.mono (fun i _ h => Or.inl h))
    · rw [World.cell?_of_block (Below.heap_setCell _ _ _ _ (by simp; omega)), World.cell?_of_block (w := w.alloc (.cells #[.int .i64 num] 3)) (ht'.block w.heap.size (by simp) (fun h => by have := docs_own hb.docs w.heap.size h; omega))]
      simp
    · simp [World.setCell]; omega
  go_enter Tryz.func83, Tryz.ntmps83
  go_wp2_with fail
  refine CD.out.mono ?_
  rintro en w1 ⟨v', rfl, hd', hown', ht'⟩
  obtain ⟨ao', dn', dcap', rfl⟩ := docs_shape hd'
  obtain ⟨E1, AF⟩ := AFT.out w1 _ hd' hown' ht'
  have AFH : Hid (BufOk (w1.setCell ⟨e, 2, none⟩ (.slice ao' dn' dcap')) e mw c0 c1 c4 (.slice ao' dn' dcap') T m nW DW ∧ Turned (ZDrop e mw (.slice ao dn dcap) T) w (w1.setCell ⟨e, 2, none⟩ (.slice ao' dn' dcap')) ∧ (w1.setCell ⟨e, 2, none⟩ (.slice ao' dn' dcap')).cell? ⟨w.heap.size, 0, none⟩ = some (.int .i64 num) ∧ w.heap.size < (w1.setCell ⟨e, 2, none⟩ (.slice ao' dn' dcap')).heap.size) := AF
  have r3 := (cell_five E1).2.2.2.1
  have r2 := (cell_five E1).2.2.1
  have rf := frozen_five E1 2
  clear hd' ht' AF AFT CD p2 q2 hmf
  go_wp2_with (at_range; generalize (w1.setCell ⟨e, 2, none⟩ (.slice ao' dn' dcap')) = w2 at AFH ⊢; refine wpList_range_own _ rfl _ 83 rfl 9 173 law9 Tryz.underlying83 _ mw nW DW rfl AFH.out.1.words ?_; intro w3 hrg0 hg0 hs0)
  clear r3 r2 rf E1 w1
  go_frame
  have H3 : Hid (BufOk w3 e mw c0 c1 c4 (.slice ao' dn' dcap') T m nW DW ∧ Turned (ZDrop e mw (.slice ao dn dcap) T) w w3 ∧ w3.cell? ⟨w.heap.size, 0, none⟩ = some (.int .i64 num) ∧ w.heap.size < w3.heap.size ∧ ¬ InT T w.heap.size ∧ ¬ InT T w2.heap.size ∧ w.heap.size ≠ mw ∧ w.heap.size ≠ w2.heap.size) := by
    obtain ⟨B, t, c, l⟩ := AFH.out
    have t3 : Turned (fun _ => False) w2 w3 := Turned.ofGrown hg0 (fun k hk => by cases hk)
    refine ⟨B.turned t3 (fun h => h) (fun h => h) (fun _ _ h => h) (fun _ _ h => h), t.trans (t3.mono (fun _ _ h => h.elim)), ?_, by omega, fun h => ?_, fun h => ?_, by omega, by omega⟩
    · rw [World.cell?_of_block (w := w2) (t3.block _ l (fun h => h))]; exact c
    · have := hb.rows.inLt h; omega
    · have := B.rows.inLt h; omega
  have HG : Hid (w3.ranges Tryz.prog 9 (placeE T m) mw w2.heap.size nW DW (Maps.has DW) (Maps.size DW)) := hrg0
  have hmf : ∀ (fn : Fn) (first cap : Array Value) (w : World), (Instr.makeFunc fn first cap).run Tryz.prog w = .ok (.func fn first cap) w := fun _ _ _ _ => rfl
  have hsz3 : Hid (w3.heap.size = w2.heap.size + 1) := hs0
  have hw2 : Hid (w.heap.size < w2.heap.size) := AFH.out.2.2.2
  clear AFH hg0 hs0 hrg0
  go_loopw [4] (fun _ wr => ∃ D left cnt, Hid (wr.ranges Tryz.prog 9 (placeE T m) mw w2.heap.size nW D left cnt) ∧ Hid (RowsOk wr T) ∧ Hid (Turned (fun b => b = mw ∨ b = w2.heap.size ∨ InT T b) w3 wr)) (fun _ wr => wr.rangeLeft mw w2.heap.size)
  case atStart => exact ⟨DW, _, _, HG, H3.out.1.rows, Turned.refl _ _⟩
  case round =>
    obtain ⟨D, left, cnt, hrg, hR, htu⟩ := hrel
    go_wp2_with (first | (at_next; refine wpList_next_ranges _ rfl _ rfl 9 law9 (placeE T m) Value.string (fun c : Option Addr × Nat × Nat => .slice c.1 c.2.1 c.2.2) (fun key kl h => keyOf9_inv h) (fun v y h => by obtain ⟨a, n, c, h1, _⟩ := place_shape (placeE_inv h).1; exact ⟨(a, n, c), h1⟩) mw w2.heap.size nW D left cnt rfl hrg.out ?_ ?_) | go_in)
    · intro _ _
      go_wp2
      go_end0
      obtain ⟨B3, t3, c3, l3, n1, n2, n3, n4⟩ := H3.out
      have hz2 := hsz3.out
      have hz3 := hw2.out
      refine ⟨rfl, ⟨.slice ao' dn' dcap', D, ⟨(htu.out.block e (lt_of_block B3.eng) ?_).trans B3.eng, docs_turned B3.docs htu.out ?_, hrg.out.owns, hR.out, B3.eT, B3.wT, B3.dT, B3.em⟩, hown'⟩, t3.trans2 htu.out ?_⟩
      · rintro (h | h | h)
        · exact B3.em h
        · omega
        · exact B3.eT h
      · intro g hg
        have hlt3 := docs_own B3.docs g hg
        rw [hown'] at hg
        have hlt := docs_own hb.docs g hg
        rintro (h | h | h)
        · exact (hb.dT g hg).2.2 h
        · omega
        · exact (hb.dT g hg).1 h
      · rintro b hb' (h | h | h)
        · exact Or.inr (Or.inl h)
        · omega
        · exact Or.inr (Or.inr (Or.inr h))
    · intro x pa pn pc kl y1 y2 w4 cnt4 hkey hlk hv hat hrg4 hlt hg4 hs4 hen
      have F4 : Hid (RowsOk w4 T ∧ Turned (fun b => b = mw ∨ b = w2.heap.size ∨ InT T b) w3 w4 ∧ w4.cell? ⟨w.heap.size, 0, none⟩ = some (.int .i64 num) ∧ w.heap.size < w4.heap.size ∧ w4.heap[e]? = some (.cells #[c0, c1, .slice ao' dn' dcap', .map (some mw), c4] 87 (0, 0))) := by
        obtain ⟨B3, t3, c3, l3, n1, n2, n3, n4⟩ := H3.out
        have hz2 := hsz3.out
        have hz3 := hw2.out
        have t4 : Turned (fun b => b = w2.heap.size) wr w4 := Turned.ofGrown hg4 (fun k hk _ => by cases hk; rfl)
        have t34 := htu.out.trans (t4.mono (Z' := fun b => b = mw ∨ b = w2.heap.size ∨ InT T b) (fun b _ h => Or.inr (Or.inl h)))
        refine ⟨hR.out.turned t4 (fun g x hg h => n2 (h ▸ ⟨x, hg⟩)), t34, ?_, Nat.lt_of_lt_of_le l3 t34.size, ?_⟩
        · rw [World.cell?_of_block (w := w3) (t34.block _ l3 ?_)]
          · exact c3
          · rintro (h | h | h)
            · exact n3 h
            · exact n4 h
            · exact n1 h
        · rw [t34.block e (lt_of_block B3.eng) ?_]
          · exact B3.eng
          · rintro (h | h | h)
            · exact B3.em h
            · omega
            · exact B3.eT h
      have HRG4 : Hid (w4.ranges Tryz.prog 9 (placeE T m) mw w2.heap.size nW D (fun z => left z && !z.sameKey kl) cnt4) := hrg4
      have HV : Hid (placeE T m (.slice pa pn pc) = some (y1, y2)) := hv
      have HAT : Hid (∀ zd, D.atKey kl zd = y1) := hat
      have HKEY : Hid (keyOf Tryz.prog 9 (.string x) = some kl) := hkey
      have C94 : Hid (Calls Tryz.prog 163 #[.slice pa pn pc, .func (.func 164) #[] #[.pointer (some ⟨w.heap.size, 0, none⟩)]] w4 (Deleted w4 T m)) := del94_any _ w.heap.size num w4 T m F4.out.1 (placeE_inv hv).1 hm F4.out.2.2.1 F4.out.2.2.2.1 H3.out.2.2.2.2.1
      have hmf : ∀ (fn : Fn) (first cap : Array Value) (w : World), (Instr.makeFunc fn first cap).run Tryz.prog w = .ok (.func fn first cap) w := fun _ _ _ _ => rfl
      clear hrg4 hv hat hkey
      go_wp2_with fail
      refine C94.out.mono ?_
      rintro en w5 ⟨v5, rfl, hR5, hv5, ht5⟩
      obtain ⟨pa5, pn5, pc5, rfl, _⟩ := place_shape hv5
      have E5 : w5.heap[e]? = some (.cells #[c0, c1, .slice ao' dn' dcap', .map (some mw), c4] 87 (0, 0)) := (ht5.block e (lt_of_block F4.out.2.2.2.2) hb.eT).trans F4.out.2.2.2.2
      have r3 := (cell_five E5).2.2.2.1
      have HR5 : Hid (RowsOk w5 T) := hR5
      have HV5 : Hid (placeB T m (.slice pa5 pn5 pc5) = true) := hv5
      have HG5 : Hid (w5.ranges Tryz.prog 9 (placeE T m) mw w2.heap.size nW D (fun z => left z && !z.sameKey kl) cnt4) := ranges_turned HRG4.out ht5 hb.wT H3.out.2.2.2.2.2.1
      have HT5 : Hid (Turned (fun b => b = mw ∨ b = w2.heap.size ∨ InT T b) w3 w5) := F4.out.2.1.trans (ht5.mono (fun b _ h => Or.inr (Or.inr h)))
      clear E5 hR5 hv5 ht5 hmf
      by_cases hn5 : pn5 = 0
      · have hn6 := slice_eq_zero hn5
        clear hn5
        go_wp2_with (first | (at_delete; refine wpList_delete_ranges _ rfl _ _ 83 9 rfl 173 law9 Tryz.underlying83 (placeE T m) mw w2.heap.size nW D _ cnt4 rfl HG5.out (.string x) kl rfl HKEY.out ?_; intro w6 cnt6 hrg6 hle6 hmt6) | go_in)
        try go_frame
        go_roundw
        case rel => exact ⟨_, _, _, hrg6, HR5.out.turned (Z := fun b => b = mw) (Turned.ofGrown hmt6.grown (fun k hk _ => by cases hk; rfl)) (fun g x hg h => hb.wT (h ▸ ⟨x, hg⟩)), HT5.out.trans (Turned.ofGrown hmt6.grown (fun k hk _ => by cases hk; exact Or.inl rfl))⟩
        case measure => rw [hrg6.left_eq, hrg.out.left_eq]; omega
      · have hn6 := slice_ne_zero hn5
        clear hn5
        go_wp2_with (first | (at_mapUpdate; refine wpList_store_ranges _ rfl _ _ _ 83 rfl 9 173 law9 Tryz.underlying83 (.slice none 0 0) (Tryz.zeroValue173 _) (placeE T m) mw w2.heap.size nW D _ cnt4 rfl HG5.out (.string x) (.slice pa5 pn5 pc5) kl rfl rfl HKEY.out placeE_all (placeE_mk HV5.out) (fun zd => by rw [HAT.out zd]; exact congrArg Prod.fst (placeE_inv HV.out).2) ?_; intro w6 hrg6 hg6 hs6) | go_in)
        try go_frame
        go_roundw
        case rel => exact ⟨_, _, _, hrg6, HR5.out.turned (Z := fun b => b = mw) (Turned.ofGrown hg6 (fun k hk _ => by cases hk; rfl)) (fun g x hg h => hb.wT (h ▸ ⟨x, hg⟩)), HT5.out.trans (Turned.ofGrown hg6 (fun k hk _ => by cases hk; exact Or.inl rfl))⟩
        case measure => rw [hrg6.left_eq, hrg.out.left_eq]; omega
end Go.Proofs.YtaacjjhmojecnaaGreatDoor
