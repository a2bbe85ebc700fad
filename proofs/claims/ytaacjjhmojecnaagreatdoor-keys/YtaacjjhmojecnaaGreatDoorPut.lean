/- The walk of put. -/
import Derived.Test.YtaacjjhmojecnaaGreatDoorEng
namespace Go.Proofs.YtaacjjhmojecnaaGreatDoor
open Go.RowKit Go.ScT Go.Proofs Go.Shelf

theorem BufOk.mono {w : World} {e mw : Nat} {c0 c1 c4 dv : Value} {T : PT} {m m' nW nW' : Nat} {DW : DataW Unit} (h : BufOk w e mw c0 c1 c4 dv T m nW DW) (hm : m ≤ m') (hn : nW ≤ nW') : BufOk w e mw c0 c1 c4 dv T m' nW' DW :=
  ⟨h.eng, docs_mono h.docs hm, (ownsMap_reader h.words (placeE_mono (Ext.refl T) hm)).mono hn, h.rows, h.eT, h.wT, h.dT, h.em⟩
theorem BufOk.setC0 {w : World} {e mw : Nat} {c0 c1 c4 dv : Value} {T : PT} {m nW : Nat} {DW : DataW Unit} (h : BufOk w e mw c0 c1 c4 dv T m nW DW) (x : Value) : BufOk (w.setCell ⟨e, 0, none⟩ x) e mw x c1 c4 dv T m nW DW := by
  have T2 : Turned (fun b => b = e) w (w.setCell ⟨e, 0, none⟩ x) := Turned.ofSet w _ _ rfl
  exact ⟨heap_setCell_same w e 0 _ 87 x h.eng, docs_turned h.docs T2 (fun g hg => (h.dT g hg).2.1), ownsMap_turned h.words T2 (fun he => h.em he.symm), h.rows.turned T2 (fun g x hg (he : g = e) => h.eT (he ▸ ⟨x, hg⟩)), h.eT, h.wT, h.dT, h.em⟩
theorem Turned.drew {Z : Nat → Prop} (w : World) : Turned Z w w.drew := ⟨rfl, rfl, rfl, Nat.le_refl _, fun _ _ _ => rfl⟩
theorem BufOk.drew {w : World} {e mw : Nat} {c0 c1 c4 dv : Value} {T : PT} {m nW : Nat} {DW : DataW Unit} (h : BufOk w e mw c0 c1 c4 dv T m nW DW) : BufOk w.drew e mw c0 c1 c4 dv T m nW DW :=
  h.turned (Z := fun _ => False) (Turned.drew w) (fun h => h) (fun h => h) (fun _ _ h => h) (fun _ _ h => h)

/-- Behind the count and the live map's store. -/
theorem put_mid {w w1 : World} {Z : Nat → Prop} {e : Nat} {ds : Docs} {ml mw : Nat} {sv dv : Value} {T : PT} {nW : Nat} {DL DW : DataW Unit} (h : EngIn w Z e ds ml mw sv dv T nW DL DW) (hb : Below w.heap.size w w1) (hl : ds.length < 100) (key : List UInt8) (hk : key.length ≤ maxLen) :
    ∃ w2, (Instr.mapUpdate 81 (.map (some ml)) (.string ⟨key.toArray⟩) (.int .i64 ((ds.length : Int) + 1))).run Tryz.prog (w1.setCell ⟨e, 0, none⟩ (.int .i64 ((ds.length : Int) + 1))).drew = .ok () w2 ∧
      BufOk w2.drew e mw (.int .i64 ((ds.length : Int) + 1)) (.map (some ml)) sv dv T (41 * ds.length) nW DW ∧ w2.ownsMap Tryz.prog 9 (plainElem Tryz.prog 3) ml (ds.length + 1) (DL.put (.string key) (.lit (.int .i64 ((ds.length : Int) + 1)))) ∧ Turned Z w w2.drew := by
  have h1 := h.turned (Turned.ofBelow (Z := fun _ => False) hb) (fun _ _ h => h)
  have hB := h1.buf.setC0 (.int .i64 ((ds.length : Int) + 1))
  have T2 : Turned (fun b => b = e) w1 (w1.setCell ⟨e, 0, none⟩ (.int .i64 ((ds.length : Int) + 1))) := Turned.ofSet w1 _ _ rfl
  have hL := ownsMap_turned h1.live T2 (fun he => h.le he)
  have hL' : (w1.setCell ⟨e, 0, none⟩ (.int .i64 ((ds.length : Int) + 1))).drew.ownsMap Tryz.prog 9 (plainElem Tryz.prog 3) ml ds.length DL := hL
  have hwf : (Lit.int .i64 ((ds.length : Int) + 1)).wf = true := by
    have h1 : IntKind.i64.min = -9223372036854775808 := by decide
    have h2 : IntKind.i64.max = 9223372036854775807 := by decide
    simp [Lit.wf, h1, h2]
    omega
  obtain ⟨w2, hrun, own2, hg2⟩ := hL'.update law9 Tryz.underlying81 (by unfold maxLen; omega) (key9 hk) (plainElem_int Tryz.underlying3 hwf)
  have t2 : Turned (fun b => b = ml) (w1.setCell ⟨e, 0, none⟩ (.int .i64 ((ds.length : Int) + 1))).drew w2 := Turned.ofGrown hg2 (fun k hk _ => by cases hk; rfl)
  refine ⟨w2, hrun, ?_, own2, ?_⟩
  · exact (hB.drew.turned t2 (fun he => h.le he.symm) (fun he => h.lw he.symm) (fun g hg he => h.lD g hg he) (fun _ hg he => h.lT (he ▸ hg))).drew
  · exact ((((Turned.ofBelow hb).trans (T2.mono (fun b _ hb => by rw [hb]; exact h.ze))).trans (Turned.drew _)).trans (t2.mono (fun b _ hb => by rw [hb]; exact h.zl))).trans (Turned.drew _)

theorem put_done {w w2 w3 : World} {Z : Nat → Prop} {e : Nat} {ds : Docs} {ml mw : Nat} {sv dv dv' : Value} {T T' : PT} {nW k : Nat} {DL DW DW' : DataW Unit} (h : EngIn w Z e ds ml mw sv dv T nW DL DW) (key : List UInt8) (hn : findK ds key = none) (hk40 : k ≤ 40)
    (own2 : w2.ownsMap Tryz.prog 9 (plainElem Tryz.prog 3) ml (ds.length + 1) (DL.put (.string key) (.lit (.int .i64 ((ds.length : Int) + 1))))) (t2 : Turned Z w w2) (hB3 : BufOk w3 e mw (.int .i64 ((ds.length : Int) + 1)) (.map (some ml)) sv dv' T' (41 * ds.length + 1 + k) (nW + k) DW')
    (hd : ∀ g, dv'.ownBlock = some g → dv.ownBlock = some g ∨ w2.heap.size ≤ g) (hF : FromT T T' w2.heap.size) (t3 : Turned (ZDrop e mw dv T) w2 w3) :
    EngOk w3 (grow Z w w3) e (ds ++ [(key, true)]) ∧ Turned Z w w3 := by
  have hs := t2.size
  have hlen : (ds ++ [(key, true)]).length = ds.length + 1 := by simp
  have hml := h.live.lt
  have hkl : WideAt.IsKeyLit (.string key) := by
    simp [WideAt.IsKeyLit]
  refine ⟨⟨ml, mw, sv, dv', T', nW + k, (DL.put (.string key) (.lit (.int .i64 ((ds.length : Int) + 1)))), DW', ⟨?_, ?_, h.rel.push (h.live.tidy law9) key hn _ hkl, ?_, h.le, h.lw, fun hT => ?_, fun g hg he => ?_, Or.inl h.ze, Or.inl h.zl, Or.inl h.zw, fun g hg => ?_, fun g hg => ?_⟩⟩, t2.trans (t3.mono (fun b _ hb => h.inZ b hb))⟩
  · rw [hlen]
    have := hB3.mono (m' := 41 * (ds.length + 1)) (nW' := nW + k) (by omega) (Nat.le_refl _)
    simpa using this
  · rw [hlen]
    refine ownsMap_turned own2 t3 ?_
    rintro (he | he | he | he)
    · exact h.le he
    · exact h.lw he
    · exact h.lD _ he rfl
    · exact h.lT he
  · rw [hlen]
    have := h.nW
    omega
  · rcases hF ml hT with h' | h'
    · exact h.lT h'
    · omega
  · rcases hd g hg with h' | h'
    · exact h.lD g h' he
    · omega
  · have hlt := hB3.rows.inLt hg
    rcases hF g hg with h' | h'
    · exact Or.inl (h.zT g h')
    · exact Or.inr ⟨by omega, hlt⟩
  · have hlt := docs_own hB3.docs g hg
    rcases hd g hg with h' | h'
    · exact Or.inl (h.zD g h')
    · exact Or.inr ⟨by omega, hlt⟩

set_option maxHeartbeats 2000000 in
set_option maxRecDepth 1000000 in
theorem put_any (w : World) (Z : Nat → Prop) (e : Nat) (ds : Docs) (h : EngOk w Z e ds) (hl : ds.length < 100) (key : List UInt8) (hk : key.length ≤ 1000) (hn : findK ds key = none) (base : Nat) (v : Value) (ws : List (List UInt8)) (hw : w.ownsRow base 9 1 v ws.length (ws.map strV)) (hl40 : ws.length ≤ 40) (hlen : ∀ x ∈ ws, x.length ≤ maxLen)
    (hv : ∀ g, v.ownBlock = some g → ¬ Z g) :
    Calls Tryz.prog 55 #[.pointer (some ⟨e, 0, none⟩), .string ⟨key.toArray⟩, v] w fun en w' => en = .returned (.tuple #[]) ∧ EngOk w' (grow Z w w') e (ds ++ [(key, true)]) ∧ Turned Z w w' := by
  obtain ⟨ml, mw, sv, dv, T, nW, DL, DW, h⟩ := h
  obtain ⟨gv, capv, aov, rfl, _, _⟩ := ownsRow_shape hw
  have hkm : key.length ≤ maxLen := by unfold maxLen; omega
  have CC : Hid (Calls Tryz.prog 98 #[.string ⟨key.toArray⟩] w fun e w' => e = .returned (.string ⟨key.toArray⟩) ∧ Below w.heap.size w w') := clone_any ⟨key.toArray⟩ w (by show key.toArray.size ≤ _; simp; omega)
  have H : Hid (EngIn w Z e ds ml mw sv dv T nW DL DW) := h
  have HW : Hid (w.ownsRow base 9 1 (.slice aov ws.length capv) ws.length (ws.map strV)) := hw
  have hnW := h.nW
  clear h hw
  obtain ⟨N, hN⟩ : ∃ N, ds.length = N := ⟨_, rfl⟩
  rw [hN] at hl hnW
  go_enter Tryz.func55, Tryz.ntmps55
  go_wp2_with (first
    | (go_at_call 98; refine CC.out.mono ?_; rintro en w1 ⟨rfl, hb1⟩; have hE1 := H.out.turned (Turned.ofBelow (Z := fun _ => False) hb1) (fun _ _ h => h); have q0 := (cell_five hE1.buf.eng).1; have q1 := (cell_five hE1.buf.eng).2.1; have f0 := frozen_five hE1.buf.eng 0; rw [hN] at q0; clear hE1))
  obtain ⟨w2, hrun2, hB2, own2, t2⟩ := put_mid H.out hb1 (by omega) key hkm
  rw [hN] at hrun2
  have C91 : Hid (Calls Tryz.prog 99 #[.pointer (some ⟨e, 2, none⟩), .agg #[.int .i64 ((N : Int) + 1), .string ⟨key.toArray⟩, .int .i64 (ws.length : Int)], .slice aov ws.length capv] w2.drew fun en w' => en = .returned (.tuple #[]) ∧ (∃ dv' T' DW', BufOk w' e mw (.int .i64 ((ds.length : Int) + 1)) (.map (some ml)) sv dv' T' (41 * ds.length + 1 + ws.length) (nW + ws.length) DW' ∧ (∀ g, dv'.ownBlock = some g → dv.ownBlock = some g ∨ w2.drew.heap.size ≤ g) ∧ FromT T T' w2.drew.heap.size) ∧ Turned (ZDrop e mw dv T) w2.drew w') :=
    add_any w2.drew e mw _ _ _ dv T _ nW DW hB2 (by omega) (by omega) _ _ _ base _ ws (ownsRow_turned HW.out t2 hv) hl40 hlen (fun g hg hz => hv g hg (H.out.inZ g hz))
  have E2 : w2.heap[e]? = some (.cells #[.int .i64 ((ds.length : Int) + 1), .map (some ml), dv, .map (some mw), sv] 87 (0, 0)) := hB2.eng
  rw [hN] at E2
  have r0 := (cell_five E2).1
  have O2 : Hid (w2.ownsMap Tryz.prog 9 (plainElem Tryz.prog 3) ml (ds.length + 1) (DL.put (.string key) (.lit (.int .i64 ((ds.length : Int) + 1))))) := own2
  have T2 : Hid (Turned Z w w2.drew) := t2
  clear hB2 own2 t2 E2 CC HW hv hlen
  go_cut [] from 15 to 23 (fun wx => wx = w2)
  case first =>
    go_region
    all_goals (go_wp2_with fail; go_meet; rfl)
  case rest =>
    subst hcut
    go_wp2_with fail
    go_region_with (go_at_call 99; refine C91.out.mono ?_; rintro en w3 ⟨rfl, ⟨dv3, T3, DW3, hB3, hd3, hF3⟩, ht3⟩)
    all_goals
      go_wp2
      go_end0
      have FIN := put_done (w2 := wc.drew) H.out key hn hl40 O2.out T2.out hB3 hd3 hF3 ht3
      exact ⟨rfl, FIN.1, FIN.2⟩
end Go.Proofs.YtaacjjhmojecnaaGreatDoor
