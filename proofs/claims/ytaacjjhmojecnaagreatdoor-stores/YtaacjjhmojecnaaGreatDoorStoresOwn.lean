/- For any script of steps the law Stores answers true: every Tokens, New, Add, Delete, Count, Open, Flush, Merge, Segments, Dump, and every Open of what Dump tells, as it is or with one byte raised, of the program, on any number of engines by turns, answers as the document's, at this commit of the code.
   Conditions: none but the form's own (what is handed in fits a machine's memory; the listed package-level variables read as they are laid). -/
import Derived.Test.YtaacjjhmojecnaaGreatDoorQ52
import Derived.Test.YtaacjjhmojecnaaGreatDoorQ52
import Derived.Test.YtaacjjhmojecnaaGreatDoorDoor
import Derived.Test.YtaacjjhmojecnaaGreatDoorStoresFacts
import Derived.Deep.Slices
namespace Go.Proofs.YtaacjjhmojecnaaGreatDoor
open Go.ChangeShapes Go.WideShapes Go.ChangeAt Go.RowKit Go.Deep

theorem cellsK24 : Tryz.prog.cellsOf 24 = 6 := by kernel_rfl
theorem cellsK3 : Tryz.prog.cellsOf 3 = 1 := by kernel_rfl
theorem cellsK9 : Tryz.prog.cellsOf 9 = 1 := by kernel_rfl
theorem bytesK24 : Tryz.prog.bytesOf 24 = 64 := by kernel_rfl

theorem list_sixK {α : Type} (l : List α) (h : l.length = 6) : ∃ a b c d e f, l = [a, b, c, d, e, f] := by
  match l, h with
  | [a, b, c, d, e, f], _ => exact ⟨a, b, c, d, e, f, rfl⟩

theorem bytes_eta (s : ByteArray) : (.string s : Value) = .string ⟨s.data.toList.toArray⟩ := by simp

theorem wf_range {c : Int} (h : (Lit.int .i64 c).wf = true) : -9223372036854775808 ≤ c ∧ c ≤ 9223372036854775807 := by
  have h1 : IntKind.i64.min = -9223372036854775808 := by decide
  have h2 : IntKind.i64.max = 9223372036854775807 := by decide
  simp [Lit.wf, h1, h2] at h
  exact h

set_option maxRecDepth 100000 in
/-- A script as it is read: the slice's shape, how long it is, and each step's cells. -/
theorem open_steps {H : Type} {enc : TypeId × Value → H} {w : World} {spare : Nat → Bool} {held : Bool} {fuel : Nat} {cs : List Value} {x : DataW H × List MemPlace}
    (h : DataW.trod enc Tryz.prog w 0 spare held fuel 22 cs = some x) :
    ∃ (ao : Option Addr) (b o len cap : Nat), cs = [.slice ao len cap] ∧ (len = 0 ∨ ∃ elems rest, x.1 = .slice elems rest ∧ elems.length = len) ∧ (0 < len → ao = some ⟨b, o, none⟩ ∧ b < w.heap.size) ∧ ∀ i, i < len → OpIn w b (o + i * 6) := by
  rcases open_slice Tryz.underlying22 h with ⟨rfl, _⟩ | ⟨a, len, cap, m, n, D, Pl, rfl, hb, hl, hm, hmm, hxd, hx⟩
  · exact ⟨none, 0, 0, 0, 0, rfl, Or.inl rfl, fun h => by omega, fun i hi => by omega⟩
  · have hlen0 : len = 0 ∨ ∃ elems rest, x.1 = .slice elems rest ∧ elems.length = len := Or.inr ⟨_, _, by rw [hxd], by simp⟩
    have hlm : len ≤ m := by rw [hmm]; split <;> omega
    by_cases h0 : 0 < len
    · have hsp : a.spot = none := by
        obtain ⟨cs', h1, _⟩ := hx 0 (by omega)
        rw [cellsK24] at h1
        obtain ⟨_, hlen, hcell⟩ := World.cells?_some h1
        obtain ⟨v0, v1, v2, v3, v4, v5, rfl⟩ := list_sixK cs' hlen
        have c0 := hcell 0 (by omega)
        rw [add_add] at c0
        exact World.cell?_spot (a := a) (v := v0) c0
      obtain ⟨ab, aoff, asp⟩ := a
      have hasp : asp = none := hsp
      subst hasp
      have hadd : ∀ j, (⟨ab, aoff, none⟩ : Addr).add j = ⟨ab, aoff + j, none⟩ := by
        intro j
        unfold Addr.add
        split
        · rename_i h0; rw [h0]; rfl
        · rfl
      have key : ∀ i, i < len → ab < w.heap.size ∧ OpIn w ab (aoff + i * 6) := by
        intro i hi
        obtain ⟨cs', h1, h2⟩ := hx i (by omega)
        rw [cellsK24] at h1
        have hbl := World.cells?_block h1 (by omega)
        rw [hadd] at hbl
        obtain ⟨_, hlen, hcell⟩ := World.cells?_some h1
        obtain ⟨xs, k, _, _, _, hxl, hf⟩ := DataW.trod_struct Tryz.underlying24 h2
        obtain ⟨v0, v1, v2, v3, v4, v5, rfl⟩ := list_sixK cs' hlen
        obtain ⟨y0, y1, y2, y3, y4, y5, rfl⟩ := list_sixK xs hxl
        have g0 := hf 0 _ rfl
        have g1 := hf 1 _ rfl
        have g2 := hf 2 _ rfl
        have g3 := hf 3 _ rfl
        have g4 := hf 4 _ rfl
        have g5 := hf 5 _ rfl
        simp [cellsK3, cellsK9] at g0 g1 g2 g3 g4 g5
        obtain ⟨z0, e0, _, _⟩ := DataW.trod_int Tryz.underlying3 g0
        obtain ⟨z1, e1, _, hw1⟩ := DataW.trod_int Tryz.underlying3 g1
        obtain ⟨z2, e2, _, _⟩ := DataW.trod_int Tryz.underlying3 g2
        obtain ⟨z3, e3, _, _⟩ := DataW.trod_int Tryz.underlying3 g3
        obtain ⟨K, e4, _, hK⟩ := DataW.trod_string Tryz.underlying9 g4
        obtain ⟨S, e5, _, hS⟩ := DataW.trod_string Tryz.underlying9 g5
        simp only [List.cons.injEq, and_true] at e0 e1 e2 e3 e4 e5
        subst e0 e1 e2 e3 e4 e5
        have c0 := hcell 0 (by omega)
        have c1 := hcell 1 (by omega)
        have c2 := hcell 2 (by omega)
        have c3 := hcell 3 (by omega)
        have c4 := hcell 4 (by omega)
        have c5 := hcell 5 (by omega)
        rw [add_add, hadd] at c0 c1 c2 c3 c4 c5
        simp only [List.getElem?_cons_zero, List.getElem?_cons_succ] at c0 c1 c2 c3 c4 c5
        have hr := wf_range hw1
        rw [bytes_eta] at c4 c5
        exact ⟨hbl, z0, z1, z2, z3, K.data.toList, S.data.toList, hr.1, hr.2, by simpa using hK, by simpa using hS, c0, c1, c2, c3, c4, c5⟩
      exact ⟨some ⟨ab, aoff, none⟩, ab, aoff, len, cap, rfl, hlen0, fun _ => ⟨rfl, (key 0 h0).1⟩, fun i hi => (key i hi).2⟩
    · exact ⟨some a, 0, 0, len, cap, rfl, hlen0, fun h => absurd h h0, fun i hi => by omega⟩

set_option maxRecDepth 100000 in
theorem stores_lifted (os : Os) (started : os.Started) (H : Type) (enc : TypeId × Value → H) :
    ReturnsInHanded {} Tryz.checked os 6 .any (fun w args => (Rows.storesSpec.pre enc Tryz.prog Tryz.f6 [] false w args ∧ laidMetH Tryz.prog Rows.storesRow.laid w) ∧ sizedMet enc Tryz.prog Tryz.f6 (OpenSpec.ofChange Rows.storesSpec) false w args) (Rows.storesSpec.post enc Tryz.prog Tryz.f6 false true false false) := by
  refine returnsInHanded_of_change_and (C := Tryz.checked) (X := fun w _ => laidMetH Tryz.prog Rows.storesRow.laid w) (fun _ _ _ hh h => h.of_heap hh) ownTry started (by kernel_rfl) Tryz.func6
    (ChangeSpec.witness_shaped (enc := enc) (C := Tryz.checked) (os := os) (X := fun w _ => laidMetH Tryz.prog Rows.storesRow.laid w) false (World.doorLaid Tryz.prog 164 os) #[.slice none 0 0] 8 rfl (door_shaped os _) (by kernel_rfl) (by kernel_rfl) (by kernel_rfl) (door_met os _)) ?_
  intro W base args ds gs before hval0 hW _ hsz0 hX _
  obtain ⟨A, hSent⟩ := sent_of hX
  have hval : ∀ (j : Nat) t v, Tryz.f6.params[j]? = some t → args[j]? = some v → Value.okWide Tryz.prog W .any base t v := hval0
  have hsz : (DataW.weightsEach Tryz.prog (Tryz.f6.params.toList ++ Rows.storesSpec.plain.varTypes Tryz.prog) (ds ++ gs)).all (· ≤ reachBytes) = true := hsz0
  have hW' := hW
  obtain ⟨p, q, hA0, hV, rfl, _, _⟩ := hW
  have hA : DataW.TrodAll enc Tryz.prog W 0 (fun _ => true) true Tryz.f6.params.toList args.toList ds p := hA0
  rw [Tryz.params6] at hA hval hsz
  obtain ⟨v0, d0, rfl, rfl, h0⟩ := trodAll_one hA
  obtain ⟨rfl, rfl⟩ := trodVars_none hV
  have h0k := h0
  have hlt : ∀ x ∈ p, x.block < W.heap.size := by obtain ⟨m, hm⟩ := h0k; exact DataW.trod_lt m _ _ _ hm
  obtain ⟨a0, len0, cap0, rfl⟩ := okWide_slice Tryz.underlying22 (hval 0 22 v0 rfl rfl)
  obtain ⟨fuel, hf⟩ := h0
  obtain ⟨ao, b, o, len, cap, hcs, hle, hao, hop⟩ := open_steps hf
  simp [Value.cells] at hcs
  obtain ⟨rfl, rfl, rfl⟩ := hcs
  clear hA0 hval0 hsz0
  simp only [List.append_nil] at hW'
  have hl : (len0 + 2) * 16 ≤ 140737488355328 := by
    rcases hle with h | ⟨elems, rest, hd, hel⟩
    · omega
    · have hd' : d0 = .slice elems rest := hd
      have := sized_slice hsz (j := 0) (t := 22) (e := 24) (elems := elems) (spare := rest) rfl (by rw [hd']; rfl) Tryz.underlying22
      rw [bytesK24, hel] at this
      unfold reachBytes at this
      omega
  refine (stores_any a0 b o len0 cap0 W hSent hl hao hop).mono fun e W' ⟨he, hnx⟩ => ?_
  subst he
  refine ⟨_, rfl, _, _, _, [], p, [], hW', ?_, ?_, rfl, hnx.frame _, fun h => by cases h⟩
  · exact trodAll_mk1 (shut_bool Tryz.underlying4 _)
  · exact trodAll_mk1 (Below.trod laidTry (by kernel_rfl) (of_decide_eq_true (by kernel_rfl)) h0k hnx hlt)

theorem stores_said : Rows.StoresSaid :=
  OpenClaim.holds_of_wide_leaving 6 Tryz.f6 rfl rfl rfl rfl rfl rfl rfl ⟨rfl, rfl, rfl, rfl, rfl⟩ rfl rfl rfl rfl rfl (by kernel_rfl) Tryz.func6 stores_closed
    (of_decide_eq_true (by kernel_rfl)) (by unfold Func.isWrapper; first | (rw [if_pos (by decide +kernel)]; kernel_rfl) | (rw [if_neg (by decide +kernel)]; exact ⟨rfl, rfl⟩))
    (fun os started H enc _ => leaving_of_handed (stores_lifted os started H enc))

theorem stores_plain (f : FuncId) (fn : Func) (hf : Tryz.pinned.checked.prog.funcNamed "scout/scoutlaw.Stores" = some f) (hfn : Tryz.pinned.checked.prog.funcs[f]? = some fn) :
    true = Tryz.pinned.checked.prog.looks [] ∧ ∀ (j : Nat) t, fn.params[j]? = some t → Tryz.pinned.checked.prog.wantsStandIn t = false := by
  obtain rfl : f = 6 := Option.some.inj ((show Tryz.prog.funcNamed "scout/scoutlaw.Stores" = some 6 by kernel_rfl).symm.trans hf) |>.symm
  obtain rfl : fn = Tryz.f6 := (Option.some.inj (Tryz.func6.symm.trans hfn)).symm
  refine ⟨by kernel_rfl, fun j t ht => ?_⟩
  rw [Tryz.params6] at ht
  obtain rfl : t = 22 := by simpa using Array.mem_of_getElem? ht
  exact (show Tryz.prog.wantsStandIn 22 = false by kernel_rfl)

theorem stores_card : Rows.StoresCardSaid :=
  card_goes _ _ _ _ _ stores_said (by kernel_rfl) stores_row_tie rfl ⟨rfl, rfl⟩ (by kernel_rfl) rfl stores_plain (by kernel_rfl)
#print axioms stores_card
end Go.Proofs.YtaacjjhmojecnaaGreatDoor
