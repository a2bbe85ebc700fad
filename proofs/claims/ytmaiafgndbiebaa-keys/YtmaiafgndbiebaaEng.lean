/- The program's engine in memory; strings.Clone, retire. -/
import Derived.Test.YtmaiafgndbiebaaLive
import Derived.Test.YtmaiafgndbiebaaShelf
import Derived.Shelf.Strconv.Clone
namespace Go.Proofs.Ytmaiafgndbiebaa
open Go.RowKit Go.ScT Go.Proofs Go.Shelf
open Go.Maps (Keyed string_keyed)

def Try.lays316_ren : Go.Shelf.Ren := ⟨fun | 316 => 96 | n => n, fun | 0 => 0 | 3 => 3 | 4 => 4 | 5 => 5 | 9 => 9 | 37 => 49 | 127 => 84 | n => n, fun | n => n⟩
theorem Try.lays316 : Go.Proofs.LaysM.n316 Try.prog Try.lays316_ren := {
  mixed := by kernel_rfl
  f316 := Try.func96.trans (congrArg some (by kernel_rfl))
  t0 := Try.underlying0
  a0 := Try.isAgg0
  z0 := Try.sizeOf0
  v0 := Try.zeroValue0
  t3 := Try.underlying3
  a3 := Try.isAgg3
  z3 := Try.sizeOf3
  v3 := Try.zeroValue3
  t4 := Try.underlying4
  a4 := Try.isAgg4
  z4 := Try.sizeOf4
  v4 := Try.zeroValue4
  t5 := Try.underlying5
  a5 := Try.isAgg5
  z5 := Try.sizeOf5
  v5 := Try.zeroValue5
  t9 := Try.underlying9
  a9 := Try.isAgg9
  z9 := Try.sizeOf9
  v9 := Try.zeroValue9
  t37 := Try.underlying49
  a37 := Try.isAgg49
  z37 := Try.sizeOf49
  v37 := Try.zeroValue49
  t127 := Try.underlying84
  a127 := Try.isAgg84
  z127 := Try.sizeOf84
  v127 := Try.zeroValue84
  i0 := by kernel_rfl
  i3 := by kernel_rfl
  i4 := by kernel_rfl
  i5 := by kernel_rfl
  i9 := by kernel_rfl
  i37 := by kernel_rfl
  i127 := by kernel_rfl }
theorem clone96 (s : ByteArray) (w : World) (hs : s.size ≤ 281474976710656) : Calls Try.prog 96 #[.string s] w fun e w' => e = .returned (.string s) ∧ Below w.heap.size w w' := Any.stringslite_Clone Try.lays316 s w hs
theorem clone_any (s : ByteArray) (w : World) (hs : s.size ≤ 281474976710656) : Calls Try.prog 90 #[.string s] w fun e w' => e = .returned (.string s) ∧ Below w.heap.size w w' := by
  have C : Hid (Calls Try.prog 96 #[.string s] w fun e w' => e = .returned (.string s) ∧ Below w.heap.size w w') := clone96 s w hs
  go_enter Try.func90, Try.ntmps90
  go_wp2_with (go_at_call 96; refine C.out.mono ?_; rintro e w' ⟨rfl, hb⟩)
  go_ret
  exact ⟨rfl, hb⟩

/-- The program's engine in block e, its blocks in Z. -/
structure EngIn (w : World) (Z : Nat → Prop) (e : Nat) (ds : Docs) (ml mw : Nat) (dv : Value) (T : PT) (nW : Nat) (DL DW : DataW Unit) : Prop where
  buf : BufOk w e mw (.int .i64 (ds.length : Int)) (.map (some ml)) dv T (41 * ds.length) nW DW
  live : w.ownsMap Try.prog 9 (plainElem Try.prog 3) ml ds.length DL
  rel : LiveRel DL ds
  nW : nW ≤ 40 * ds.length
  le : ml ≠ e
  lw : ml ≠ mw
  lT : ¬ InT T ml
  lD : ∀ g, dv.ownBlock = some g → g ≠ ml
  ze : Z e
  zl : Z ml
  zw : Z mw
  zT : ∀ g, InT T g → Z g
  zD : ∀ g, dv.ownBlock = some g → Z g
def EngOk (w : World) (Z : Nat → Prop) (e : Nat) (ds : Docs) : Prop := ∃ ml mw dv T nW DL DW, EngIn w Z e ds ml mw dv T nW DL DW

theorem EngIn.turned {w w' : World} {Z Z' : Nat → Prop} {e : Nat} {ds : Docs} {ml mw : Nat} {dv : Value} {T : PT} {nW : Nat} {DL DW : DataW Unit} (h : EngIn w Z e ds ml mw dv T nW DL DW) (ht : Turned Z' w w') (hz : ∀ g, Z g → ¬ Z' g) : EngIn w' Z e ds ml mw dv T nW DL DW :=
  ⟨h.buf.turned ht (hz e h.ze) (hz mw h.zw) (fun g hg => hz g (h.zD g hg)) (fun g hg => hz g (h.zT g hg)), ownsMap_turned h.live ht (hz ml h.zl), h.rel, h.nW, h.le, h.lw, h.lT, h.lD, h.ze, h.zl, h.zw, h.zT, h.zD⟩
theorem EngOk.turned {w w' : World} {Z Z' : Nat → Prop} {e : Nat} {ds : Docs} (h : EngOk w Z e ds) (ht : Turned Z' w w') (hz : ∀ g, Z g → ¬ Z' g) : EngOk w' Z e ds := by
  obtain ⟨ml, mw, dv, T, nW, DL, DW, h⟩ := h
  exact ⟨ml, mw, dv, T, nW, DL, DW, h.turned ht hz⟩
theorem EngOk.zone {w : World} {Z Z' : Nat → Prop} {e : Nat} {ds : Docs} (h : EngOk w Z e ds) (hz : ∀ b, Z b → Z' b) : EngOk w Z' e ds := by
  obtain ⟨ml, mw, dv, T, nW, DL, DW, h⟩ := h
  exact ⟨ml, mw, dv, T, nW, DL, DW, ⟨h.buf, h.live, h.rel, h.nW, h.le, h.lw, h.lT, h.lD, hz _ h.ze, hz _ h.zl, hz _ h.zw, fun g hg => hz g (h.zT g hg), fun g hg => hz g (h.zD g hg)⟩⟩
theorem EngIn.inZ {w : World} {Z : Nat → Prop} {e : Nat} {ds : Docs} {ml mw : Nat} {dv : Value} {T : PT} {nW : Nat} {DL DW : DataW Unit} (h : EngIn w Z e ds ml mw dv T nW DL DW) : ∀ b, ZDrop e mw dv T b → Z b := by
  rintro b (rfl | rfl | hb | hb)
  · exact h.ze
  · exact h.zw
  · exact h.zD b hb
  · exact h.zT b hb

theorem key9 {key : List UInt8} (hk : key.length ≤ maxLen) : keyOf Try.prog 9 (.string ⟨key.toArray⟩) = some (.string key) := by
  have := WideMaps.keyOf_string_mk (P := Try.prog) Try.underlying9 (s := ⟨key.toArray⟩) (by show key.toArray.size ≤ maxLen; simpa using hk)
  simpa using this

theorem EngIn.buf1 {w w1 : World} {Z : Nat → Prop} {e : Nat} {ds : Docs} {ml mw : Nat} {dv : Value} {T : PT} {nW : Nat} {DL DW : DataW Unit} (h : EngIn w Z e ds ml mw dv T nW DL DW) (t1 : Turned (fun b => b = ml) w w1) : BufOk w1 e mw (.int .i64 (ds.length : Int)) (.map (some ml)) dv T (41 * ds.length) nW DW :=
  h.buf.turned t1 (fun he => h.le he.symm) (fun he => h.lw he.symm) (fun g hg he => h.lD g hg he) (fun _ hg he => h.lT (he ▸ hg))

theorem retire_done {w w1 w2 : World} {Z : Nat → Prop} {e : Nat} {ds : Docs} {ml mw : Nat} {dv dv2 : Value} {T : PT} {nW : Nat} {DL DW DW2 : DataW Unit} (h : EngIn w Z e ds ml mw dv T nW DL DW) (key : List UInt8) (i : Nat) (hf : findK ds key = some i)
    (hown1 : w1.ownsMap Try.prog 9 (plainElem Try.prog 3) ml ds.length (DL.del (.string key))) (t1 : Turned (fun b => b = ml) w w1) (hB2 : BufOk w2 e mw (.int .i64 (ds.length : Int)) (.map (some ml)) dv2 T (41 * ds.length) nW DW2) (hdv2 : dv2.ownBlock = dv.ownBlock) (ht2 : Turned (ZDrop e mw dv T) w1 w2) :
    EngOk w2 Z e (killAt ds i) ∧ Turned Z w w2 := by
  have hlen := killAt_len ds i
  refine ⟨⟨ml, mw, dv2, T, nW, _, DW2, ⟨by rw [hlen]; exact hB2, ?_, h.rel.kill (h.live.tidy law9) key i hf, by rw [hlen]; exact h.nW, h.le, h.lw, h.lT, fun g hg => h.lD g (hdv2 ▸ hg), h.ze, h.zl, h.zw, h.zT, fun g hg => h.zD g (hdv2 ▸ hg)⟩⟩, ?_⟩
  · rw [hlen]
    refine ownsMap_turned hown1 ht2 ?_
    rintro (he | he | he | he)
    · exact h.le he
    · exact h.lw he
    · exact h.lD _ he rfl
    · exact h.lT he
  · exact (t1.mono (fun b _ hb => by rw [hb]; exact h.zl)).trans (ht2.mono (fun b _ hb => h.inZ b hb))

set_option maxHeartbeats 1000000 in
set_option maxRecDepth 1000000 in
theorem retire_any (w : World) (Z : Nat → Prop) (e : Nat) (ds : Docs) (h : EngOk w Z e ds) (hl : ds.length ≤ 100) (key : List UInt8) (hk : key.length ≤ maxLen) :
    Calls Try.prog 82 #[.pointer (some ⟨e, 0, none⟩), .string ⟨key.toArray⟩] w fun en w' => en = .returned (.bool (findK ds key).isSome) ∧ EngOk w' Z e (killK ds key) ∧ Turned Z w w' := by
  obtain ⟨ml, mw, dv, T, nW, DL, DW, h⟩ := h
  have q1 := (cell_four h.buf.eng).2.1
  obtain ⟨v, ps, hlk, hv⟩ := h.live.look_ok law9 Try.underlying90 (Try.zeroValue3 w) (zd := .lit (.int .i64 0)) (zp := []) (plainElem_int Try.underlying3 (by decide)) (key9 hk)
  obtain ⟨c, rfl, _, _⟩ := plainElem_int_inv Try.underlying3 hv
  rw [h.rel.has] at hlk
  clear hv
  cases hf : findK ds key with
  | none =>
    rw [hf] at hlk
    have HE : Hid (EngOk w Z e (killK ds key)) := by
      have : killK ds key = ds := by simp [killK, hf]
      rw [this]
      exact ⟨ml, mw, dv, T, nW, DL, DW, h⟩
    simp only [Option.isSome_none] at hlk ⊢
    clear h
    go_enter Try.func82, Try.ntmps82
    go_wp2
    go_ret
    exact ⟨rfl, HE.out, Turned.refl Z w⟩
  | some i =>
    rw [hf] at hlk
    simp only [Option.isSome_some] at hlk ⊢
    have hkk : killK ds key = killAt ds i := by simp [killK, hf]
    rw [hkk]
    have H : Hid (EngIn w Z e ds ml mw dv T nW DL DW) := h
    have HK : Hid (keyOf Try.prog 9 (.string ⟨key.toArray⟩) = some (.string key)) := key9 hk
    have hm41 : 41 * ds.length ≤ 100000 := by omega
    clear h hkk
    go_enter Try.func82, Try.ntmps82
    go_wp2_with (first
      | (at_delete; refine wpList_delete_own _ rfl _ _ 90 9 rfl 3 law9 Try.underlying90 (plainElem Try.prog 3) ml ds.length DL rfl H.out.live (.string ⟨key.toArray⟩) (.string key) rfl HK.out ?_; intro w1 hown1 hturn1; have t1 : Turned (fun b => b = ml) w w1 := Turned.ofGrown hturn1.grown (fun k hk _ => by cases hk; rfl); have hB1 := H.out.buf1 t1; have HB1 : Hid (BufOk w1 e mw (.int .i64 (ds.length : Int)) (.map (some ml)) dv T (41 * ds.length) nW DW) := hB1; clear hB1)
      | (go_at_call 89; refine (drop_any w1 e mw _ _ dv T _ nW DW HB1.out hm41 c).mono ?_; rintro en w2 ⟨rfl, ⟨dv2, DW2, hB2, hdv2⟩, ht2⟩))
    go_ret
    have FIN := retire_done H.out key i hf hown1 t1 hB2 hdv2 ht2
    exact ⟨rfl, FIN.1, FIN.2⟩
end Go.Proofs.Ytmaiafgndbiebaa
