/- The walk of the buffer's add. -/
import Derived.Test.YtaacjjhmojecnaaGreatDoorAddDoc
import Derived.Deep.RegionWith
import Derived.Deep.CutRange
namespace Go.Proofs.YtaacjjhmojecnaaGreatDoor
open Go.RowKit Go.ScT Go.Proofs Go.Shelf
open Go.Maps (Keyed string_keyed)

/-- Blocks of T', or blocks from B on. -/
def FromT (T T' : PT) (B : Nat) : Prop := ∀ g, InT T' g → InT T g ∨ B ≤ g

theorem placeE_mono {T T' : PT} {m m' : Nat} (hT : Ext T T') (hm : m ≤ m') : ∀ v y, placeE T m v = some y → placeE T' m' v = some y := fun v y h => by
  obtain ⟨h1, rfl⟩ := placeE_inv h
  exact placeE_mk (placeB_mono hT hm h1)

theorem docs_mono {w : World} {v : Value} {m m' : Nat} (h : DocsOk w v m) (hm : m ≤ m') : DocsOk w v m' := by
  rcases h with h | ⟨g, n, cap, t, h1, h2, h3, h4⟩
  · exact Or.inl h
  · exact Or.inr ⟨g, n, cap, t, h1, h2, h3, by omega⟩

/-- Behind the append of a document. -/
theorem buf_doc {w w3 : World} {e mw : Nat} {c0 c1 c4 dv dv3 : Value} {T : PT} {m nW : Nat} {DW : DataW Unit} (hb : BufOk w e mw c0 c1 c4 dv T m nW DW) (ht : Turned (fun b => dv.ownBlock = some b) w w3) (hD : DocsOk w3 dv3 (m + 1)) (hat : ∀ g, dv3.ownBlock = some g → dv.ownBlock = some g ∨ w.heap.size ≤ g) :
    BufOk (w3.setCell ⟨e, 2, none⟩ dv3) e mw c0 c1 c4 dv3 T (m + 1) nW DW ∧ Turned (ZDrop e mw dv T) w (w3.setCell ⟨e, 2, none⟩ dv3) := by
  have hel := lt_of_block hb.eng
  have hml := hb.words.lt
  have hd3 : ∀ g, dv3.ownBlock = some g → ¬ InT T g ∧ g ≠ e ∧ g ≠ mw := fun g hg => by
    rcases hat g hg with h | h
    · exact hb.dT g h
    · exact ⟨fun h' => by have := hb.rows.inLt h'; omega, by omega, by omega⟩
  have E1 : w3.heap[e]? = some (.cells #[c0, c1, dv, .map (some mw), c4] 87 (0, 0)) := (ht.block e hel (fun h => (hb.dT e h).2.1 rfl)).trans hb.eng
  have T2 : Turned (fun b => b = e) w3 (w3.setCell ⟨e, 2, none⟩ dv3) := Turned.ofSet w3 _ _ rfl
  refine ⟨⟨heap_setCell_same w3 e 2 _ 87 dv3 E1, docs_turned hD T2 (fun g hg => (hd3 g hg).2.1), ?_, ?_, hb.eT, hb.wT, hd3, hb.em⟩, (ht.mono (fun i _ h => Or.inr (Or.inr (Or.inl h)))).trans (T2.mono (fun i _ h => Or.inl h))⟩
  · exact ownsMap_reader (ownsMap_turned (ownsMap_turned hb.words ht (fun h => (hb.dT _ h).2.2 rfl)) T2 (fun h => hb.em h.symm)) (placeE_mono (Ext.refl T) (by omega))
  · exact (hb.rows.turned ht (fun g x hg h => (hb.dT g h).1 ⟨x, hg⟩)).turned T2 (fun g x hg (h : g = e) => hb.eT (h ▸ ⟨x, hg⟩))

/-- Behind the count of a word. -/
theorem buf_word {w w5 : World} {e mw : Nat} {c0 c1 c4 dv v5 : Value} {T T5 : PT} {m nW : Nat} {DW : DataW Unit} (hb : BufOk w e mw c0 c1 c4 dv T m nW DW) (hn : nW < maxLen) (hR : RowsOk w5 T5) (hv : placeB T5 (m + 1) v5 = true) (hx : Ext T T5) (hf : ∀ g x, T5 g = some x → InT T g ∨ (w.heap.size ≤ g ∧ g < w5.heap.size)) (ht : Turned (InT T) w w5) {x : Value} {kl : Lit} (hkey : keyOf Tryz.prog 9 x = some kl) :
    w5.heap[e]? = some (.cells #[c0, c1, dv, .map (some mw), c4] 87 (0, 0)) ∧ ∃ w6, (Instr.mapUpdate 83 (.map (some mw)) x v5).run Tryz.prog w5 = .ok () w6 ∧ BufOk w6 e mw c0 c1 c4 dv T5 (m + 1) (nW + 1) (DW.put kl .nil) ∧ Turned (fun b => b = mw ∨ InT T b) w w6 := by
  have hel := lt_of_block hb.eng
  have hml := hb.words.lt
  have own5 : w5.ownsMap Tryz.prog 9 (placeE T5 (m + 1)) mw nW DW := ownsMap_reader (ownsMap_turned hb.words ht hb.wT) (placeE_mono hx (by omega))
  obtain ⟨w6, hrun, own6, hg6⟩ := own5.update law9 Tryz.underlying83 hn hkey (placeE_mk hv)
  have T6 : Turned (fun b => b = mw) w5 w6 := Turned.ofGrown hg6 (fun k hk _ => by cases hk; rfl)
  have nT : ∀ b, b < w.heap.size → ¬ InT T b → ¬ InT T5 b := fun b hb hn h => by
    obtain ⟨x, hx⟩ := h
    rcases hf b x hx with h | ⟨h, _⟩
    · exact hn h
    · omega
  have E5 := (ht.block e hel hb.eT).trans hb.eng
  refine ⟨E5, w6, hrun, ⟨(T6.block e (lt_of_block E5) hb.em).trans E5, docs_turned (docs_turned (docs_mono hb.docs (Nat.le_succ m)) ht (fun g hg => (hb.dT g hg).1)) T6 (fun g hg => (hb.dT g hg).2.2), own6, hR.turned T6 (fun g x hg h => nT mw hml hb.wT (h ▸ ⟨x, hg⟩)), nT e hel hb.eT, nT mw hml hb.wT, fun g hg => ⟨nT g (docs_own hb.docs g hg) (hb.dT g hg).1, (hb.dT g hg).2⟩, hb.em⟩, (ht.mono (fun _ _ h => Or.inr h)).trans (T6.mono (fun _ _ h => Or.inl h))⟩

set_option maxHeartbeats 4000000 in
set_option maxRecDepth 1000000 in
theorem add_any (w : World) (e mw : Nat) (c0 c1 c4 dv : Value) (T : PT) (m nW : Nat) (DW : DataW Unit) (hb : BufOk w e mw c0 c1 c4 dv T m nW DW) (hm : m ≤ 50000) (hnW : nW ≤ 50000) (num l : Int) (key : ByteArray)
    (base : Nat) (v : Value) (ws : List (List UInt8)) (hw : w.ownsRow base 9 1 v ws.length (ws.map strV)) (hl : ws.length ≤ 40) (hlen : ∀ x ∈ ws, x.length ≤ maxLen)
    (hv : ∀ g, v.ownBlock = some g → ¬ ZDrop e mw dv T g) :
    Calls Tryz.prog 99 #[.pointer (some ⟨e, 2, none⟩), .agg #[.int .i64 num, .string key, .int .i64 l], v] w fun en w' => en = .returned (.tuple #[]) ∧ (∃ dv' T' DW', BufOk w' e mw c0 c1 c4 dv' T' (m + 1 + ws.length) (nW + ws.length) DW' ∧ (∀ g, dv'.ownBlock = some g → dv.ownBlock = some g ∨ w.heap.size ≤ g) ∧ FromT T T' w.heap.size) ∧ Turned (ZDrop e mw dv T) w w' := by
  obtain ⟨ao, dn, dcap, rfl⟩ := docs_shape hb.docs
  obtain ⟨gv, capv, aov, rfl, hbv, haov⟩ := ownsRow_shape hw
  have hel := lt_of_block hb.eng
  have hml := hb.words.lt
  have HC : Hid (∀ (j : Nat) (x : List UInt8), ws[j]? = some x → aov = some ⟨gv, 0, none⟩ ∧ w.cell? ⟨gv, j, none⟩ = some (.string ⟨x.toArray⟩) ∧ gv < w.heap.size ∧ ¬ ZDrop e mw (.slice ao dn dcap) T gv) := by
    intro j x hj
    have hlt := (List.getElem?_eq_some_iff.1 hj).1
    have h1 := haov (by omega)
    have ho := hw
    rw [h1] at ho hv
    obtain ⟨cu, bq⟩ := ownsRow_block ho (g := gv) rfl
    refine ⟨h1, ?_, lt_of_block bq, hv gv rfl⟩
    rw [ho.cellAt j (by omega), List.getElem?_map, hj]
    rfl
  clear hw hv hbv haov
  have q2 := (cell_five hb.eng).2.2.1
  have f2 := frozen_five hb.eng 2
  have hne : (Value.slice ao dn dcap).ownBlock ≠ some e := fun h => (hb.dT e h).2.1 rfl
  have HB : Hid (BufOk w e mw c0 c1 c4 (.slice ao dn dcap) T m nW DW) := hb
  clear hb
  obtain ⟨N, hN⟩ : ∃ N, ws.length = N := ⟨_, rfl⟩
  rw [hN] at hl ⊢
  go_enter Tryz.func99, Tryz.ntmps99
  go_wp2_with fail
  have d2 : ∀ n' o o', (((w.alloc o).drewN n').alloc o').cell? ⟨e, 2, none⟩ = some (.slice ao dn dcap) := fun n' o o' => by
    rw [World.cell?_of_block (Below.heap_alloc _ _ _ (by show e < (w.alloc o).heap.size; simp; omega))]
    show (w.alloc o).cell? _ = _
    rw [World.cell?_of_block (Below.heap_alloc _ _ _ hel)]; exact q2
  have df2 : ∀ n' o o', (((w.alloc o).drewN n').alloc o').frozen? ⟨e, 2, none⟩ = false := fun n' o o' => by
    rw [World.frozen?_of_block (Below.heap_alloc _ _ _ (by show e < (w.alloc o).heap.size; simp; omega))]
    show (w.alloc o).frozen? _ = _
    rw [World.frozen?_of_block (Below.heap_alloc _ _ _ hel)]; exact f2
  have TA : ∀ n' o o', Turned (fun _ => False) w (((w.alloc o).drewN n').alloc o') := fun n' o o' => ((Turned.ofAlloc w o).ofDrew n').trans (Turned.ofAlloc _ o')
  have HDO : Hid (∀ n' o o', DocsOk (((w.alloc o).drewN n').alloc o') (.slice ao dn dcap) m) := fun n' o o' => docs_turned HB.out.docs (TA n' o o') (fun _ _ h => h)
  have HTA : Hid (∀ n' o o', Turned (fun _ => False) w (((w.alloc o).drewN n').alloc o')) := TA
  have NB : Hid (((w.alloc (.cells #[.int .i64 num, .string key, .int .i64 l] 141)).alloc (.cells #[.int .i64 num, .string key, .int .i64 l] 141)).heap[w.heap.size + 1]? = some (.cells #[.int .i64 num, .string key, .int .i64 l] 141 (0, 0))) := by
    have := heap_alloc_new (w.alloc (.cells #[.int .i64 num, .string key, .int .i64 l] 141)) (.cells #[.int .i64 num, .string key, .int .i64 l] 141)
    rw [show (w.alloc (.cells #[.int .i64 num, .string key, .int .i64 l] 141)).heap.size = w.heap.size + 1 by simp] at this
    exact this
  clear TA
  go_cut [] from 8 to 17 (fun wx => ∃ gA nA capA, Hid ((BufOk wx e mw c0 c1 c4 (.slice (some ⟨gA, 0, none⟩) nA capA) T (m + 1) nW DW ∧ Turned (ZDrop e mw (.slice ao dn dcap) T) w wx) ∧ wx.cell? ⟨w.heap.size, 0, none⟩ = some (.int .i64 num) ∧ w.heap.size < wx.heap.size ∧ ((Value.slice ao dn dcap).ownBlock = some gA ∨ w.heap.size ≤ gA)))
  case first =>
    go_region_law
      ((refine step_append_docs (by rfl) _ _ (by rfl) (.slice ao dn dcap) m (by rfl) (HDO.out _ _ _) (by omega) ⟨w.heap.size + 1, 0, none⟩ num l key (by rfl) (World.news_of_block (cs := #[.int .i64 num, .string key, .int .i64 l]) (t := 141) (fr := (0, 0)) NB.out) ?_; intro gA nA capA w3 hD3 hat3 ht3; have e0 := (World.cell?_of_block (ht3.block e (by simp; omega) hne)).trans (d2 _ _ _); have e1 := (World.frozen?_of_block (ht3.block e (by simp; omega) hne)).trans (df2 _ _ _)))
    all_goals
      have A3 : Hid ((BufOk (w3.setCell ⟨e, 2, none⟩ (.slice (some ⟨gA, 0, none⟩) nA capA)) e mw c0 c1 c4 (.slice (some ⟨gA, 0, none⟩) nA capA) T (m + 1) nW DW ∧ Turned (ZDrop e mw (.slice ao dn dcap) T) w (w3.setCell ⟨e, 2, none⟩ (.slice (some ⟨gA, 0, none⟩) nA capA))) ∧ (w3.setCell ⟨e, 2, none⟩ (.slice (some ⟨gA, 0, none⟩) nA capA)).cell? ⟨w.heap.size, 0, none⟩ = some (.int .i64 num) ∧ w.heap.size < (w3.setCell ⟨e, 2, none⟩ (.slice (some ⟨gA, 0, none⟩) nA capA)).heap.size ∧ ((Value.slice ao dn dcap).ownBlock = some gA ∨ w.heap.size ≤ gA)) := by
        have hs3 := ht3.size
        simp at hs3
        have hat' : (Value.slice ao dn dcap).ownBlock = some gA ∨ w.heap.size ≤ gA := by
          rcases hat3 with h | ⟨h, _⟩
          · exact Or.inl h
          · simp at h; exact Or.inr (by omega)
        refine ⟨buf_doc HB.out (((HTA.out 1 _ _).mono (fun _ _ h => h.elim)).trans ht3) hD3 (fun g hg => by simp [Value.ownBlock] at hg; subst hg; exact hat'), ?_, by simp [World.setCell]; omega, hat'⟩
        rw [World.cell?_of_block (Below.heap_setCell _ _ _ _ (by simp; omega)), World.cell?_of_block (ht3.block w.heap.size (by simp; omega) (fun h => by have := docs_own HB.out.docs w.heap.size h; omega))]
        show ((w.alloc _).alloc _).cell? _ = _
        rw [World.cell?_of_block (Below.heap_alloc _ _ _ (by simp))]
        simp
      go_wp2_with fail
      go_meet
      exact ⟨gA, nA, capA, A3⟩
  case rest =>
    obtain ⟨gA, nA, capA, A3⟩ := hcut
    clear NB HDO HTA d2 df2 q2 f2
    generalize wc = W3 at A3 ⊢
    go_wp2
    go_loopw [20] (fun s20 wr => ∃ (k : Nat) (Tr : PT) (Dr : DataW Unit), s20 = .int .i64 (k : Int) ∧ k ≤ N ∧ Hid (BufOk wr e mw c0 c1 c4 (.slice (some ⟨gA, 0, none⟩) nA capA) Tr (m + 1 + k) (nW + k) Dr) ∧ Hid (FromT T Tr W3.heap.size) ∧ Hid (Turned (fun b => b = mw ∨ InT T b) W3 wr)) (fun s20 _ => N - (intOf s20).toNat)
    case atStart => exact ⟨0, T, DW, rfl, by omega, A3.out.1.1, fun g h => Or.inl h, Turned.refl _ _⟩
    case round =>
      obtain ⟨k, Tr, Dr, rfl, hkN, hBr, hFr, hTr⟩ := hrel
      by_cases hlt : k < N
      · obtain ⟨x, hx⟩ : ∃ x, ws[k]? = some x := ⟨_, List.getElem?_eq_getElem (by omega)⟩
        obtain ⟨rfl, hcx, hgv, hzv⟩ := HC.out k x hx
        have hxl : x.length ≤ maxLen := hlen x (List.mem_of_getElem? hx)
        have hkey : keyOf Tryz.prog 9 (.string ⟨x.toArray⟩) = some (.string x) := by
          have := WideMaps.keyOf_string_mk (P := Tryz.prog) Tryz.underlying9 (s := ⟨x.toArray⟩) (by show x.toArray.size ≤ maxLen; simpa using hxl)
          simpa using this
        have HKEY : Hid (keyOf Tryz.prog 9 (.string ⟨x.toArray⟩) = some (.string x)) := hkey
        have hcx' : wr.cell? ⟨gv, k, none⟩ = some (.string ⟨x.toArray⟩) := by
          have t1 := A3.out.1.2
          have hn : ¬ (gv = mw ∨ InT T gv) := by
            rintro (h | h)
            · exact hzv (Or.inr (Or.inl h))
            · exact hzv (Or.inr (Or.inr (Or.inr h)))
          rw [World.cell?_of_block (w := W3) (hTr.out.block gv (by have := t1.size; omega) hn), World.cell?_of_block (w := w) (t1.block gv hgv hzv), hcx]
        have hcn : wr.cell? ⟨w.heap.size, 0, none⟩ = some (.int .i64 num) := by
          have hn : ¬ (w.heap.size = mw ∨ InT T w.heap.size) := by
            rintro (h | h)
            · omega
            · have := HB.out.rows.inLt h; omega
          rw [World.cell?_of_block (w := W3) (hTr.out.block w.heap.size A3.out.2.2.1 hn), A3.out.2.1]
        have hc3 := (cell_five hBr.out.eng).2.2.2.1
        have hBd : Hid (BufOk wr.drew e mw c0 c1 c4 (.slice (some ⟨gA, 0, none⟩) nA capA) Tr (m + 1 + k) (nW + k) Dr) := hBr.out.turned (Z := fun _ => False) (w' := wr.drew) ⟨rfl, rfl, rfl, Nat.le_refl _, fun _ _ _ => rfl⟩ (fun h => h) (fun h => h) (fun _ _ h => h) (fun _ _ h => h)
        obtain ⟨pv, ps, hlk, hpv⟩ := World.ownsMap.lookup (w := wr.drew) (show wr.drew.ownsMap Tryz.prog 9 (placeE Tr (m + 1 + k)) mw (nW + k) Dr from hBr.out.words) law9 Tryz.underlying83 (Tryz.zeroValue173 _) (zd := .nil) (zp := []) rfl hkey
        obtain ⟨pa, pn, pc, rfl, _⟩ := place_shape (placeE_inv hpv).1
        have C97 : Hid (Calls Tryz.prog 181 #[.slice pa pn pc, .int .i64 num] wr.drew (Counted wr.drew Tr (m + 1 + k + 1))) := countOne_any wr.drew Tr (m + 1 + k) _ num hBd.out.rows (placeE_inv hpv).1 (by omega)
        have FIN : Hid (∀ (T5 : PT) (w5 : World), (∀ g x, T5 g = some x → InT Tr g ∨ (wr.drew.heap.size ≤ g ∧ g < w5.heap.size)) → FromT T T5 W3.heap.size) := by
          intro T5 w5 h g hg
          obtain ⟨y, hy⟩ := hg
          rcases h g y hy with h | ⟨h, _⟩
          · exact hFr.out g h
          · have h1 := hTr.out.size
            have h2 : wr.heap.size ≤ g := h
            exact Or.inr (by omega)
        have FIN2 : Hid (∀ i, i < W3.heap.size → (i = mw ∨ InT Tr i) → (i = mw ∨ InT T i)) := by
          rintro i hi (h | h)
          · exact Or.inl h
          · rcases hFr.out i h with h | h
            · exact Or.inr h
            · omega
        clear hcx hx hpv hkey hxl
        go_wp2_with fail
        go_region_with (first
          | (go_at_call 181; refine C97.out.mono ?_; rintro en w5 ⟨v5, T5, rfl, hR5, hv5, hx5, hf5, ht5⟩; obtain ⟨E5, w6, hrun6, hB6, hT6⟩ := buf_word (w := wr.drew) hBd.out (by unfold maxLen; omega) hR5 hv5 hx5 hf5 ht5 HKEY.out; have HB6 : Hid (BufOk w6 e mw c0 c1 c4 (.slice (some ⟨gA, 0, none⟩) nA capA) T5 (m + 1 + k + 1) (nW + k + 1) (Dr.put (.string x) .nil)) := hB6; have HF5 : Hid (∀ g x, T5 g = some x → InT Tr g ∨ (wr.drew.heap.size ≤ g ∧ g < w5.heap.size)) := hf5; have HT6 : Hid (Turned (fun b => b = mw ∨ InT Tr b) wr.drew w6) := hT6; have hc35 := (cell_five E5).2.2.2.1; clear hB6 hf5 hT6 hR5 hv5 hx5 ht5 E5))
        all_goals
          go_wp2
          go_roundw
          case rel => exact ⟨k + 1, T5, _, by go_num, by omega, HB6.out, fun g hg => FIN.out T5 w5 HF5.out g hg, Turned.trans2 (b := wr.drew) ⟨hTr.out.os, hTr.out.tape, hTr.out.output, hTr.out.size, hTr.out.block⟩ HT6.out FIN2.out⟩
          case measure => simp [intOf]; omega
      · have hkz : ¬ ((k : Int) < (N : Int)) := by omega
        have hkN : k = N := by omega
        go_wp2
        go_end0
        refine ⟨rfl, ⟨_, Tr, ⟨Dr, hkN ▸ hBr.out⟩, fun g hg => ?_, fun g hg => ?_⟩, A3.out.1.2.trans2 hTr.out ?_⟩
        · simp [Value.ownBlock] at hg
          subst hg
          exact A3.out.2.2.2
        · have := A3.out.2.2.1
          rcases hFr.out g hg with h | h
          · exact Or.inl h
          · exact Or.inr (by omega)
        · rintro i _ (h | h)
          · exact Or.inr (Or.inl h)
          · exact Or.inr (Or.inr (Or.inr h))
end Go.Proofs.YtaacjjhmojecnaaGreatDoor
