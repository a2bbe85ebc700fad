/- The program's engine in memory; strings.Clone, retire. -/
import Derived.Test.YtaacjjhmojecnaaGreatDoorLive
import Derived.Test.YtaacjjhmojecnaaGreatDoorShelf
import Derived.Shelf.Strconv.Clone
namespace Go.Proofs.YtaacjjhmojecnaaGreatDoor
open Go.RowKit Go.ScT Go.Proofs Go.Shelf
open Go.Maps (Keyed string_keyed)

def Tryz.lays316_ren : Go.Shelf.Ren := ⟨fun | 316 => 180 | n => n, fun | 0 => 0 | 3 => 3 | 4 => 4 | 5 => 5 | 9 => 9 | 37 => 51 | 127 => 260 | n => n, fun | n => n⟩
theorem Tryz.lays316 : Go.Proofs.LaysM.n316 Tryz.prog Tryz.lays316_ren := {
  mixed := by kernel_rfl
  f316 := Tryz.func180.trans (congrArg some (by kernel_rfl))
  t0 := Tryz.underlying0
  a0 := Tryz.isAgg0
  z0 := Tryz.sizeOf0
  v0 := Tryz.zeroValue0
  t3 := Tryz.underlying3
  a3 := Tryz.isAgg3
  z3 := Tryz.sizeOf3
  v3 := Tryz.zeroValue3
  t4 := Tryz.underlying4
  a4 := Tryz.isAgg4
  z4 := Tryz.sizeOf4
  v4 := Tryz.zeroValue4
  t5 := Tryz.underlying5
  a5 := Tryz.isAgg5
  z5 := Tryz.sizeOf5
  v5 := Tryz.zeroValue5
  t9 := Tryz.underlying9
  a9 := Tryz.isAgg9
  z9 := Tryz.sizeOf9
  v9 := Tryz.zeroValue9
  t37 := Tryz.underlying51
  a37 := Tryz.isAgg51
  z37 := Tryz.sizeOf51
  v37 := Tryz.zeroValue51
  t127 := Tryz.underlying260
  a127 := Tryz.isAgg260
  z127 := Tryz.sizeOf260
  v127 := Tryz.zeroValue260
  i0 := by kernel_rfl
  i3 := by kernel_rfl
  i4 := by kernel_rfl
  i5 := by kernel_rfl
  i9 := by kernel_rfl
  i37 := by kernel_rfl
  i127 := by kernel_rfl }
theorem clone96 (s : ByteArray) (w : World) (hs : s.size ≤ 281474976710656) : Calls Tryz.prog 180 #[.string s] w fun e w' => e = .returned (.string s) ∧ Below w.heap.size w w' := Any.stringslite_Clone Tryz.lays316 s w hs
theorem clone_any (s : ByteArray) (w : World) (hs : s.size ≤ 281474976710656) : Calls Tryz.prog 98 #[.string s] w fun e w' => e = .returned (.string s) ∧ Below w.heap.size w w' := by
  have C : Hid (Calls Tryz.prog 180 #[.string s] w fun e w' => e = .returned (.string s) ∧ Below w.heap.size w w') := clone96 s w hs
  go_enter Tryz.func98, Tryz.ntmps98
  go_wp2_with (go_at_call 180; refine C.out.mono ?_; rintro e w' ⟨rfl, hb⟩)
  go_ret
  exact ⟨rfl, hb⟩

/-- The program's engine in block e, its blocks in Z. -/
structure EngIn (w : World) (Z : Nat → Prop) (e : Nat) (ds : Docs) (ml mw : Nat) (sv dv : Value) (T : PT) (nW : Nat) (DL DW : DataW Unit) : Prop where
  buf : BufOk w e mw (.int .i64 (ds.length : Int)) (.map (some ml)) sv dv T (41 * ds.length) nW DW
  live : w.ownsMap Tryz.prog 9 (plainElem Tryz.prog 3) ml ds.length DL
  rel : LiveRel DL ds
  nW : nW ≤ 40 * ds.length
  le : ml ≠ e
  lw : ml ≠ mw
  lT : ¬ InT T ml
  lD : ∀ g, dv.ownBlock = some g → g ≠ ml
  ze : Z e
  zl : Z ml
  zw : Z mw
  zT : ∀ g, InT T g → Z g
  zD : ∀ g, dv.ownBlock = some g → Z g
def EngOk (w : World) (Z : Nat → Prop) (e : Nat) (ds : Docs) : Prop := ∃ ml mw sv dv T nW DL DW, EngIn w Z e ds ml mw sv dv T nW DL DW

theorem EngIn.turned {w w' : World} {Z Z' : Nat → Prop} {e : Nat} {ds : Docs} {ml mw : Nat} {sv dv : Value} {T : PT} {nW : Nat} {DL DW : DataW Unit} (h : EngIn w Z e ds ml mw sv dv T nW DL DW) (ht : Turned Z' w w') (hz : ∀ g, Z g → ¬ Z' g) : EngIn w' Z e ds ml mw sv dv T nW DL DW :=
  ⟨h.buf.turned ht (hz e h.ze) (hz mw h.zw) (fun g hg => hz g (h.zD g hg)) (fun g hg => hz g (h.zT g hg)), ownsMap_turned h.live ht (hz ml h.zl), h.rel, h.nW, h.le, h.lw, h.lT, h.lD, h.ze, h.zl, h.zw, h.zT, h.zD⟩
theorem EngOk.turned {w w' : World} {Z Z' : Nat → Prop} {e : Nat} {ds : Docs} (h : EngOk w Z e ds) (ht : Turned Z' w w') (hz : ∀ g, Z g → ¬ Z' g) : EngOk w' Z e ds := by
  obtain ⟨ml, mw, sv, dv, T, nW, DL, DW, h⟩ := h
  exact ⟨ml, mw, sv, dv, T, nW, DL, DW, h.turned ht hz⟩
theorem EngOk.zone {w : World} {Z Z' : Nat → Prop} {e : Nat} {ds : Docs} (h : EngOk w Z e ds) (hz : ∀ b, Z b → Z' b) : EngOk w Z' e ds := by
  obtain ⟨ml, mw, sv, dv, T, nW, DL, DW, h⟩ := h
  exact ⟨ml, mw, sv, dv, T, nW, DL, DW, ⟨h.buf, h.live, h.rel, h.nW, h.le, h.lw, h.lT, h.lD, hz _ h.ze, hz _ h.zl, hz _ h.zw, fun g hg => hz g (h.zT g hg), fun g hg => hz g (h.zD g hg)⟩⟩
theorem EngIn.inZ {w : World} {Z : Nat → Prop} {e : Nat} {ds : Docs} {ml mw : Nat} {sv dv : Value} {T : PT} {nW : Nat} {DL DW : DataW Unit} (h : EngIn w Z e ds ml mw sv dv T nW DL DW) : ∀ b, ZDrop e mw dv T b → Z b := by
  rintro b (rfl | rfl | hb | hb)
  · exact h.ze
  · exact h.zw
  · exact h.zD b hb
  · exact h.zT b hb

theorem key9 {key : List UInt8} (hk : key.length ≤ maxLen) : keyOf Tryz.prog 9 (.string ⟨key.toArray⟩) = some (.string key) := by
  have := WideMaps.keyOf_string_mk (P := Tryz.prog) Tryz.underlying9 (s := ⟨key.toArray⟩) (by show key.toArray.size ≤ maxLen; simpa using hk)
  simpa using this

theorem EngIn.buf1 {w w1 : World} {Z : Nat → Prop} {e : Nat} {ds : Docs} {ml mw : Nat} {sv dv : Value} {T : PT} {nW : Nat} {DL DW : DataW Unit} (h : EngIn w Z e ds ml mw sv dv T nW DL DW) (t1 : Turned (fun b => b = ml) w w1) : BufOk w1 e mw (.int .i64 (ds.length : Int)) (.map (some ml)) sv dv T (41 * ds.length) nW DW :=
  h.buf.turned t1 (fun he => h.le he.symm) (fun he => h.lw he.symm) (fun g hg he => h.lD g hg he) (fun _ hg he => h.lT (he ▸ hg))

theorem retire_done {w w1 w2 : World} {Z : Nat → Prop} {e : Nat} {ds : Docs} {ml mw : Nat} {sv dv dv2 : Value} {T : PT} {nW : Nat} {DL DW DW2 : DataW Unit} (h : EngIn w Z e ds ml mw sv dv T nW DL DW) (key : List UInt8) (i : Nat) (hf : findK ds key = some i)
    (hown1 : w1.ownsMap Tryz.prog 9 (plainElem Tryz.prog 3) ml ds.length (DL.del (.string key))) (t1 : Turned (fun b => b = ml) w w1) (hB2 : BufOk w2 e mw (.int .i64 (ds.length : Int)) (.map (some ml)) sv dv2 T (41 * ds.length) nW DW2) (hdv2 : dv2.ownBlock = dv.ownBlock) (ht2 : Turned (ZDrop e mw dv T) w1 w2) :
    EngOk w2 Z e (killAt ds i) ∧ Turned Z w w2 := by
  have hlen := killAt_len ds i
  refine ⟨⟨ml, mw, sv, dv2, T, nW, _, DW2, ⟨by rw [hlen]; exact hB2, ?_, h.rel.kill (h.live.tidy law9) key i hf, by rw [hlen]; exact h.nW, h.le, h.lw, h.lT, fun g hg => h.lD g (hdv2 ▸ hg), h.ze, h.zl, h.zw, h.zT, fun g hg => h.zD g (hdv2 ▸ hg)⟩⟩, ?_⟩
  · rw [hlen]
    refine ownsMap_turned hown1 ht2 ?_
    rintro (he | he | he | he)
    · exact h.le he
    · exact h.lw he
    · exact h.lD _ he rfl
    · exact h.lT he
  · exact (t1.mono (fun b _ hb => by rw [hb]; exact h.zl)).trans (ht2.mono (fun b _ hb => h.inZ b hb))

set_option maxHeartbeats 1000000 in
set_option maxRecDepth 1000000 in
theorem retire_any (w : World) (Z : Nat → Prop) (e : Nat) (ds : Docs) (h : EngOk w Z e ds) (hl : ds.length ≤ 100) (key : List UInt8) (hk : key.length ≤ maxLen) :
    Calls Tryz.prog 47 #[.pointer (some ⟨e, 0, none⟩), .string ⟨key.toArray⟩] w fun en w' => en = .returned (.bool (findK ds key).isSome) ∧ EngOk w' Z e (killK ds key) ∧ Turned Z w w' := by
  obtain ⟨ml, mw, sv, dv, T, nW, DL, DW, h⟩ := h
  have q1 := (cell_five h.buf.eng).2.1
  obtain ⟨v, ps, hlk, hv⟩ := h.live.look_ok law9 Tryz.underlying81 (Tryz.zeroValue3 w) (zd := .lit (.int .i64 0)) (zp := []) (plainElem_int Tryz.underlying3 (by decide)) (key9 hk)
  obtain ⟨c, rfl, _, _⟩ := plainElem_int_inv Tryz.underlying3 hv
  rw [h.rel.has] at hlk
  clear hv
  cases hf : findK ds key with
  | none =>
    rw [hf] at hlk
    have HE : Hid (EngOk w Z e (killK ds key)) := by
      have : killK ds key = ds := by simp [killK, hf]
      rw [this]
      exact ⟨ml, mw, sv, dv, T, nW, DL, DW, h⟩
    simp only [Option.isSome_none] at hlk ⊢
    clear h
    go_enter Tryz.func47, Tryz.ntmps47
    go_wp2
    go_ret
    exact ⟨rfl, HE.out, Turned.refl Z w⟩
  | some i =>
    rw [hf] at hlk
    simp only [Option.isSome_some] at hlk ⊢
    have hkk : killK ds key = killAt ds i := by simp [killK, hf]
    rw [hkk]
    have H : Hid (EngIn w Z e ds ml mw sv dv T nW DL DW) := h
    have HK : Hid (keyOf Tryz.prog 9 (.string ⟨key.toArray⟩) = some (.string key)) := key9 hk
    have hm41 : 41 * ds.length ≤ 100000 := by omega
    clear h hkk
    go_enter Tryz.func47, Tryz.ntmps47
    go_wp2_with (first
      | (at_delete; refine wpList_delete_own _ rfl _ _ 81 9 rfl 3 law9 Tryz.underlying81 (plainElem Tryz.prog 3) ml ds.length DL rfl H.out.live (.string ⟨key.toArray⟩) (.string key) rfl HK.out ?_; intro w1 hown1 hturn1; have t1 : Turned (fun b => b = ml) w w1 := Turned.ofGrown hturn1.grown (fun k hk _ => by cases hk; rfl); have hB1 := H.out.buf1 t1; have HB1 : Hid (BufOk w1 e mw (.int .i64 (ds.length : Int)) (.map (some ml)) sv dv T (41 * ds.length) nW DW) := hB1; clear hB1)
      | (go_at_call 83; refine (drop_any w1 e mw _ _ _ dv T _ nW DW HB1.out hm41 c).mono ?_; rintro en w2 ⟨rfl, ⟨dv2, DW2, hB2, hdv2⟩, ht2⟩))
    go_ret
    have FIN := retire_done H.out key i hf hown1 t1 hB2 hdv2 ht2
    exact ⟨rfl, FIN.1, FIN.2⟩
end Go.Proofs.YtaacjjhmojecnaaGreatDoor
