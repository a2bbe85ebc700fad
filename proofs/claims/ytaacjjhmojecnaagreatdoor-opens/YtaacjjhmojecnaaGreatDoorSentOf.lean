/- From the row's hypothesis on the listed variables to what the reader's walks ask of memory. -/
import Derived.Test.YtaacjjhmojecnaaGreatDoorRdW
import Derived.Test.YtaacjjhmojecnaaGreatDoorRows
import Derived.LaidLaws
import Derived.Lib.LaidTab
namespace Go.Proofs.YtaacjjhmojecnaaGreatDoor
open Go.ChangeShapes Go.WideShapes Go.RowKit Go.ScT

theorem es_name : Tryz.prog.typeName? 3 404 = some "*errors.errorString" := by kernel_rfl
theorem es_star : "*" ++ "errors.errorString" = "*errors.errorString" := by decide
theorem es_row (u : TypeId) (h : Tryz.prog.typeName? 3 u = some "*errors.errorString") : u = 404 :=
  typeName_ptr_named (nm := "errors.errorString") (by rw [es_star]; kernel_rfl) (by kernel_rfl) (by decide) u (by rw [es_star]; exact h)
/-- One of the listed variables. -/
theorem laid_one {P : Program} {w : World} : ∀ {l : List (String × DataW Unit)} {ps : List MemPlace}, DataW.LaidVars P w l ps → ∀ {n : String} {d : DataW Unit}, (n, d) ∈ l →
    ∃ g t cs fuel p, P.globalNamed n = some g ∧ (P.globals[g]?).map (·.type) = some t ∧ w.var? P n = some cs ∧ DataW.trod (fun _ => ()) P w 0 (fun _ => true) false fuel t cs.toList = some (d, p) ∧ (∀ x ∈ MemPlace.row ⟨g, 0, none⟩ cs.size, x ∈ ps) ∧ ∀ x ∈ p, x ∈ ps
  | [], _, _, _, _, h => by cases h
  | (m, e) :: r, ps, ⟨g, t, cs, fuel, p, q, h1, h2, h3, h4, h5, h6⟩, n, d, h => by
    subst h6
    rcases List.mem_cons.1 h with h | h
    · cases h
      exact ⟨g, t, cs, fuel, p, h1, h2, h3, h4, fun x hx => by simp [hx], fun x hx => by simp [hx]⟩
    · obtain ⟨g', t', cs', fuel', p', a1, a2, a3, a4, a5, a6⟩ := laid_one h5 h
      exact ⟨g', t', cs', fuel', p', a1, a2, a3, a4, fun x hx => by simp [a5 x hx], fun x hx => by simp [a6 x hx]⟩
theorem err_ty : ∃ ms, Tryz.prog.underlying 70 = some (.interface ms) := ⟨_, Tryz.underlying70⟩
theorem es_cells : Tryz.prog.cellsOf 422 = 1 := by kernel_rfl
theorem s9_cells : Tryz.prog.cellsOf 9 = 1 := by kernel_rfl
theorem u64_cells : Tryz.prog.cellsOf 127 = 1 := by kernel_rfl
theorem tab_cells : Tryz.prog.cellsOf 383 = 20 := by kernel_rfl
theorem tab_type : (Tryz.prog.globals[9]?).map (·.type) = some 383 := by kernel_rfl
/-- What is asked of one fixed error. -/
def SentAt (W : World) (k : Nat) (text : List UInt8) (a : Addr) : Prop :=
  W.cell? ⟨k, 0, none⟩ = some (.iface 404 (.pointer (some a))) ∧ (∃ s, W.cell? a = some (.string s) ∧ s.data.toList = text) ∧ ∃ c t, W.heap[a.block]? = some (.cells c t (0, 0))
set_option maxRecDepth 100000 in
theorem sent_one {W : World} {l : List (String × DataW Unit)} (h : laidMet Tryz.prog l W) {n : String} {k : Nat} {text : List UInt8} (hm : (n, (.iface "*errors.errorString" (.ptr (.agg [.lit (.string text)])) : DataW Unit)) ∈ l) (hg : Tryz.prog.globalNamed n = some k)
    (ht : (Tryz.prog.globals[k]?).map (·.type) = some 70) : ∃ a, SentAt W k text a := by
  obtain ⟨ps, hv, _, hrows⟩ := h
  obtain ⟨g, t, cs, fuel, p, h1, h2, h3, h4, h5, h6⟩ := laid_one hv hm
  obtain rfl := Option.some.inj (hg.symm.trans h1)
  obtain rfl := Option.some.inj (ht.symm.trans h2)
  obtain ⟨lc⟩ := cs
  have ok0 : ∀ u v, lc = [.iface u v] → Value.okWide Tryz.prog W .any 0 u v := fun u v e => by
    subst e
    exact (hrows k 0 (h5 _ (by simp [MemPlace.row]))).2 u v (by simpa using World.var?_cell h1 h3 0)
  obtain ⟨a, s, rfl, hc, hs, _, rfl⟩ := errorString_of_trod Tryz.underlying70 es_row Tryz.underlying404 Tryz.underlying422 rfl rfl Tryz.underlying9 es_cells s9_cells h4 ok0
  refine ⟨a, by simpa using World.var?_cell h1 h3 0, ⟨s, hc, hs⟩, ?_⟩
  exact (hrows a.block a.off (h6 _ (by simp [MemPlace.row]))).1
set_option maxRecDepth 100000 in
theorem tab_of {W : World} {l : List (String × DataW Unit)} (h : laidMet Tryz.prog l W) (hm : ("internal/strconv.uint64pow10", (Lib.tabData .u64 Lib.pow10Tab : DataW Unit)) ∈ l) : Lib.TabIs Tryz.prog W "internal/strconv.uint64pow10" .u64 Lib.pow10Tab := by
  obtain ⟨ps, hv, _, _⟩ := h
  obtain ⟨g, t, cs, fuel, p, h1, h2, h3, h4, _, _⟩ := laid_one hv hm
  obtain rfl := Option.some.inj (pow10_at.symm.trans h1)
  obtain rfl := Option.some.inj (tab_type.symm.trans h2)
  unfold Lib.TabIs
  rw [h3, ← Lib.cells_of_tab Tryz.underlying383 Tryz.underlying127 u64_cells tab_cells h4]
theorem et_at : Tryz.prog.globalNamed "errors.errorType" = some 1 := by kernel_rfl
theorem et_rt : (Tryz.prog.cutTypes.find? (·.1 == "internal/reflectlite.rtype")).map (·.2) = some 298 := by kernel_rfl
theorem ty_size : Tryz.prog.types.size = 434 := by kernel_rfl
theorem et_one : ((List.range 434).filter fun t => Tryz.prog.rowNamed t [101, 114, 114, 111, 114]) = [70] := by kernel_rfl
theorem et_handle : typeHandle Tryz.prog 70 = .pointer (some ⟨12, 70, none⟩) := by kernel_rfl
set_option maxRecDepth 100000 in
theorem handle_of {W : World} {hs : List (String × DataW Unit)} (h : handlesMet Tryz.prog hs W) (hm : ("errors.errorType", (Rows.laid_errors_errorType : DataW Unit)) ∈ hs) : W.cell? ⟨1, 0, none⟩ = some (.iface 298 (.agg #[.pointer (some ⟨12, 70, none⟩)])) := by
  obtain ⟨name, u, ty, e1, e2, e3, e4, e5⟩ := h _ hm
  have en : name = [101, 114, 114, 111, 114] := (Option.some.inj e1).symm
  subst en
  obtain rfl := Option.some.inj (et_rt.symm.trans e2)
  have hty : ty ∈ (List.range 434).filter fun t => Tryz.prog.rowNamed t [101, 114, 114, 111, 114] := List.mem_filter.2 ⟨List.mem_range.2 (by rw [← ty_size]; exact e3), e4⟩
  rw [et_one] at hty
  obtain rfl := List.mem_singleton.1 hty
  rw [et_handle] at e5
  simpa using World.var?_cell et_at e5 0
/-- The texts of the fixed errors. -/
def sentT : Nat → List UInt8
  | 0 => [116, 111, 111, 32, 109, 97, 110, 121, 32, 98, 121, 116, 101, 115]
  | 2 => [110, 111, 116, 32, 119, 114, 105, 116, 116, 101, 110, 32, 105, 110, 32, 116, 104, 101, 32, 111, 110, 101, 32, 119, 97, 121, 32, 116, 104, 97, 116, 32, 105, 115, 32, 114, 105, 103, 104, 116]
  | 3 => [100, 111, 101, 115, 32, 110, 111, 116, 32, 97, 103, 114, 101, 101, 32, 119, 105, 116, 104, 32, 119, 104, 97, 116, 32, 105, 116, 32, 115, 117, 109, 115, 32, 117, 112]
  | 4 => [116, 104, 101, 114, 101, 32, 97, 114, 101, 32, 98, 121, 116, 101, 115, 32, 98, 101, 104, 105, 110, 100, 32, 116, 104, 101, 32, 101, 110, 100]
  | 5 => [116, 104, 101, 32, 98, 121, 116, 101, 115, 32, 101, 110, 100, 32, 116, 111, 111, 32, 101, 97, 114, 108, 121]
  | 6 => [97, 32, 110, 117, 109, 98, 101, 114, 32, 116, 104, 97, 116, 32, 99, 97, 110, 110, 111, 116, 32, 98, 101]
  | 8 => [97, 32, 107, 101, 121, 32, 111, 114, 32, 116, 111, 107, 101, 110, 32, 116, 104, 97, 116, 32, 99, 97, 110, 110, 111, 116, 32, 98, 101, 44, 32, 111, 114, 32, 110, 111, 116, 32, 97, 116, 32, 116, 104, 105, 115, 32, 112, 108, 97, 99, 101]
  | _ => []
theorem sentT_ne : ∀ k ∈ sentL, k ≠ 0 → sentT k ≠ sentT 0 := by decide
/-- The variables that are read whole, without the handle. -/
abbrev laidP : List (String × DataW Unit) := [("math/bits.deBruijn32tab", Rows.laid_math_bits_deBruijn32tab), ("math/bits.deBruijn64tab", Rows.laid_math_bits_deBruijn64tab), ("internal/strconv.uint64pow10", Rows.laid_internal_strconv_uint64pow10), ("scout/segment.ErrLong", Rows.laid_scout_segment_ErrLong), ("scout/segment.ErrEnds", Rows.laid_scout_segment_ErrEnds), ("scout/segment.ErrRest", Rows.laid_scout_segment_ErrRest), ("scout/segment.ErrForm", Rows.laid_scout_segment_ErrForm), ("scout/segment.ErrBound", Rows.laid_scout_segment_ErrBound), ("scout/segment.ErrName", Rows.laid_scout_segment_ErrName), ("scout/segment.ErrSum", Rows.laid_scout_segment_ErrSum)]
set_option maxRecDepth 100000 in
theorem sent_all {W : World} (h : laidMet Tryz.prog laidP W) : ∀ k ∈ sentL, ∃ a, SentAt W k (sentT k) a := by
  intro k hk
  simp only [sentL, List.mem_cons, List.not_mem_nil, or_false] at hk
  rcases hk with rfl | rfl | rfl | rfl | rfl | rfl | rfl
  · exact sent_one (n := "scout/segment.ErrLong") h (List.Mem.tail _ (List.Mem.tail _ (List.Mem.tail _ (List.Mem.head _)))) (by kernel_rfl) (by kernel_rfl)
  · exact sent_one (n := "scout/segment.ErrForm") h (List.Mem.tail _ (List.Mem.tail _ (List.Mem.tail _ (List.Mem.tail _ (List.Mem.tail _ (List.Mem.tail _ (List.Mem.head _))))))) (by kernel_rfl) (by kernel_rfl)
  · exact sent_one (n := "scout/segment.ErrSum") h (List.Mem.tail _ (List.Mem.tail _ (List.Mem.tail _ (List.Mem.tail _ (List.Mem.tail _ (List.Mem.tail _ (List.Mem.tail _ (List.Mem.tail _ (List.Mem.tail _ (List.Mem.head _)))))))))) (by kernel_rfl) (by kernel_rfl)
  · exact sent_one (n := "scout/segment.ErrRest") h (List.Mem.tail _ (List.Mem.tail _ (List.Mem.tail _ (List.Mem.tail _ (List.Mem.tail _ (List.Mem.head _)))))) (by kernel_rfl) (by kernel_rfl)
  · exact sent_one (n := "scout/segment.ErrEnds") h (List.Mem.tail _ (List.Mem.tail _ (List.Mem.tail _ (List.Mem.tail _ (List.Mem.head _))))) (by kernel_rfl) (by kernel_rfl)
  · exact sent_one (n := "scout/segment.ErrBound") h (List.Mem.tail _ (List.Mem.tail _ (List.Mem.tail _ (List.Mem.tail _ (List.Mem.tail _ (List.Mem.tail _ (List.Mem.tail _ (List.Mem.head _)))))))) (by kernel_rfl) (by kernel_rfl)
  · exact sent_one (n := "scout/segment.ErrName") h (List.Mem.tail _ (List.Mem.tail _ (List.Mem.tail _ (List.Mem.tail _ (List.Mem.tail _ (List.Mem.tail _ (List.Mem.tail _ (List.Mem.tail _ (List.Mem.head _))))))))) (by kernel_rfl) (by kernel_rfl)
theorem db64_at : Tryz.prog.globalNamed "math/bits.deBruijn64tab" = some 11 := by kernel_rfl
set_option maxRecDepth 100000 in
theorem sent_of {W : World} (h : laidMetH Tryz.prog Rows.opensRow.laid W) : ∃ A, Sent W A W.heap.size := by
  have h' : laidMet Tryz.prog laidP W ∧ handlesMet Tryz.prog [("errors.errorType", Rows.laid_errors_errorType)] W := h
  obtain ⟨h1, h2⟩ := h'
  have ha := sent_all h1
  have ht := tab_of h1 (List.Mem.tail _ (List.Mem.tail _ (List.Mem.head _)))
  have he := handle_of h2 (List.Mem.head _)
  let A : Nat → Addr := fun k => if hk : k ∈ sentL then (ha k hk).choose else ⟨0, 0, none⟩
  have hA : ∀ k ∈ sentL, SentAt W k (sentT k) (A k) := fun k hk => by
    have : A k = (ha k hk).choose := dif_pos hk
    rw [this]
    exact (ha k hk).choose_spec
  have h12 : 12 ≤ W.heap.size := by
    obtain ⟨ps, hv, _, _⟩ := h1
    obtain ⟨g, t, cs, fuel, p, a1, a2, a3, _, _, _⟩ := laid_one hv (List.Mem.tail _ (List.Mem.head _))
    obtain rfl := Option.some.inj (db64_at.symm.trans a1)
    unfold World.var? at a3
    rw [db64_at] at a3
    simp only [Option.bind_some] at a3
    cases hb : W.heap[11]? with
    | none => rw [hb] at a3; simp at a3
    | some o =>
      have := lt_of_block' hb
      omega
  refine ⟨A, h12, Nat.le_refl _, fun k hk => (hA k hk).1, fun k hk => ?_, fun k hk h0 e => ?_, ht, he⟩
  · obtain ⟨_, _, c, t, hb⟩ := hA k hk
    exact ⟨lt_of_block' hb, c, t, hb⟩
  · obtain ⟨_, ⟨s, c1, t1⟩, _⟩ := hA k hk
    obtain ⟨_, ⟨s0, c0, t0⟩, _⟩ := hA 0 (by simp)
    rw [e, c0] at c1
    injection c1 with c1
    injection c1 with c1
    exact sentT_ne k hk h0 (by rw [← t1, ← t0, c1])
end Go.Proofs.YtaacjjhmojecnaaGreatDoor
