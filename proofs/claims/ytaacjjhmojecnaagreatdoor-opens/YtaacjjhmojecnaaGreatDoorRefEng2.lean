/- The reference's engine: drop, Delete, New. -/
import Derived.Test.YtaacjjhmojecnaaGreatDoorRefEng
namespace Go.Proofs.YtaacjjhmojecnaaGreatDoor
open Go.RowKit Go.ScT Go.Proofs

theorem tag_ne {w : World} {a b : Nat} {ca cb : Array Value} {ta tb : TypeId} {fa fb : Nat × Nat} (ha : w.heap[a]? = some (.cells ca ta fa)) (hb : w.heap[b]? = some (.cells cb tb fb)) (h : ta ≠ tb) : a ≠ b := by
  intro e
  subst e
  rw [ha] at hb
  simp at hb
  exact h hb.2.1

theorem ownsRow_block {w : World} {base : Nat} {e : TypeId} {size : Nat} {v : Value} {n : Nat} {xs : List Value} (h : w.ownsRow base e size v n xs) {g : Nat} (hg : v.ownBlock = some g) : ∃ cur, w.heap[g]? = some (.cells cur e (0, 0)) := by
  rcases h.2 with ⟨h1, _⟩ | ⟨g', cap, cur, h1, _, h3, _⟩
  · rw [h1] at hg; simp [Value.ownBlock] at hg
  · rw [h1] at hg
    simp [Value.ownBlock] at hg
    subst hg
    exact ⟨cur, h3⟩

theorem map_modify_snd (ds : List (List UInt8 × Bool)) (i : Nat) : (killAt ds i).map (fun d => Value.bool d.2) = (ds.map fun d => Value.bool d.2).set i (.bool false) := by
  unfold killAt
  apply List.ext_getElem?
  intro j
  rw [List.getElem?_map, List.getElem?_modify, List.getElem?_set]
  by_cases h : i = j
  · subst h
    rw [List.getElem?_map]
    by_cases hl : i < ds.length
    · simp [hl]
    · simp [hl]
  · simp [h]
theorem kill_fst (ds : List (List UInt8 × Bool)) (i j : Nat) (d : List UInt8 × Bool) (h : (killAt ds i)[j]? = some d) : ∃ d', ds[j]? = some d' ∧ d'.1 = d.1 := by
  unfold killAt at h
  rw [List.getElem?_modify] at h
  obtain ⟨d', h1, h2⟩ := Option.map_eq_some_iff.1 h
  refine ⟨d', h1, ?_⟩
  rw [← h2]
  split <;> rfl

/-- A store into a row that one slice of ours owns. -/
theorem RefOk.kill {w : World} {Z : Nat → Prop} {y : Nat} {ds : List (List UInt8 × Bool)} {v4 : Value} {xs : List Value} {ws : List Bool} {v1 : Value} {g2 cap2 g3 cap3 : Nat}
    (h : RefOk w Z y ds v1 (.slice (some ⟨g2, 0, none⟩) ds.length cap2) (.slice (some ⟨g3, 0, none⟩) ds.length cap3) v4 xs ws) (i : Nat) :
    RefOk ((w.setCell ⟨g2, i, none⟩ (.bool false)).setCell ⟨g3, i, none⟩ (.bool false)) Z y (killAt ds i) v1 (.slice (some ⟨g2, 0, none⟩) ds.length cap2) (.slice (some ⟨g3, 0, none⟩) ds.length cap3) v4 xs (ws.set i false) ∧
    Turned Z w ((w.setCell ⟨g2, i, none⟩ (.bool false)).setCell ⟨g3, i, none⟩ (.bool false)) := by
  have hlen : (killAt ds i).length = ds.length := by simp [killAt]
  have h23 : g2 ≠ g3 := fun e => h.apart g2 rfl (by rw [e]; rfl)
  obtain ⟨cu2, b2⟩ := ownsRow_block h.own2 (g := g2) rfl
  obtain ⟨cu3, b3⟩ := ownsRow_block h.own3 (g := g3) rfl
  have hy2 : y ≠ g2 := tag_ne h.eng b2 (by decide)
  have hy3 : y ≠ g3 := tag_ne h.eng b3 (by decide)
  have n12 : ∀ g, v1.ownBlock = some g → g ≠ g2 ∧ g ≠ g3 := fun g hg => by
    obtain ⟨cu1, b1⟩ := ownsRow_block h.own1 hg
    exact ⟨tag_ne b1 b2 (by decide), tag_ne b1 b3 (by decide)⟩
  have s2 := (h.own2.stored i (.bool false)).1
  have s3 := ((ownsRow_setCell_other h.own3 (a := ⟨g2, i, none⟩) (by simp [Value.ownBlock]; exact fun e => h23 e.symm) (.bool false)).stored i (.bool false)).1
  refine ⟨⟨?_, ?_, ?_, ?_, ?_, h.zy, h.z1, h.z2, h.z3, h.apart⟩, ?_⟩
  · rw [Below.heap_setCell _ _ _ _ hy3, Below.heap_setCell _ _ _ _ hy2]; exact h.eng
  · rw [hlen]
    exact ownsRow_setCell_other (ownsRow_setCell_other h.own1 (fun e => (n12 _ e).1 rfl) _) (fun e => (n12 _ e).2 rfl) _
  · intro j d hj
    obtain ⟨d', h1, h2⟩ := kill_fst ds i j d hj
    rw [← h2]; exact h.keys j d' h1
  · rw [hlen, map_modify_snd]
    exact ownsRow_setCell_other s2 (by simp [Value.ownBlock]; exact h23) _
  · rw [hlen, List.map_set]
    exact s3
  · exact (Turned.ofSet w _ _ (h.z2 g2 rfl)).trans (Turned.ofSet _ _ _ (h.z3 g3 rfl))

/-- What is said of an engine is said of its blocks alone. -/
theorem RefOk.turned {w w' : World} {Z : Nat → Prop} {y : Nat} {ds : List (List UInt8 × Bool)} {v1 v2 v3 v4 : Value} {xs : List Value} {ws : List Bool} (h : RefOk w Z y ds v1 v2 v3 v4 xs ws) {Z' : Nat → Prop} (ht : Turned Z' w w') (hz : ∀ b, Z b → ¬ Z' b) :
    RefOk w' Z y ds v1 v2 v3 v4 xs ws :=
  ⟨(ht.block y (lt_of_block h.eng) (hz y h.zy)).trans h.eng, ownsRow_turned h.own1 ht (fun g hg => hz g (h.z1 g hg)), h.keys, ownsRow_turned h.own2 ht (fun g hg => hz g (h.z2 g hg)), ownsRow_turned h.own3 ht (fun g hg => hz g (h.z3 g hg)), h.zy, h.z1, h.z2, h.z3, h.apart⟩
theorem RefOk.same {w w' : World} {Z : Nat → Prop} {y : Nat} {ds : List (List UInt8 × Bool)} {v1 v2 v3 v4 : Value} {xs : List Value} {ws : List Bool} (h : RefOk w Z y ds v1 v2 v3 v4 xs ws) (e : w'.heap = w.heap) : RefOk w' Z y ds v1 v2 v3 v4 xs ws := by
  have own : ∀ {ty : TypeId} {sz : Nat} {v : Value} {n : Nat} {l : List Value}, w.ownsRow 0 ty sz v n l → w'.ownsRow 0 ty sz v n l := by
    intro ty sz v n l hh
    unfold World.ownsRow at hh ⊢
    rw [e]
    exact hh
  exact ⟨by rw [e]; exact h.eng, own h.own1, h.keys, own h.own2, own h.own3, h.zy, h.z1, h.z2, h.z3, h.apart⟩

set_option maxHeartbeats 1000000 in
set_option maxRecDepth 1000000 in
theorem refDrop_any (w : World) (Z : Nat → Prop) (y : Nat) (ds : List (List UInt8 × Bool)) (v1 v2 v3 v4 : Value) (xs : List Value) (ws : List Bool) (h : RefOk w Z y ds v1 v2 v3 v4 xs ws) (hl : ds.length ≤ 100) (i : Nat) (hi : i < ds.length) :
    Calls Tryz.prog 190 #[.pointer (some ⟨y, 0, none⟩), .int .i64 (i : Int)] w fun e w' => e = .returned (.tuple #[]) ∧ (∃ ws', RefOk w' Z y (killAt ds i) v1 v2 v3 v4 xs ws') ∧ Turned Z w w' := by
  obtain ⟨g2, cap2, ao2, hv2, _, hao2⟩ := ownsRow_shape h.own2
  obtain ⟨g3, cap3, ao3, hv3, _, hao3⟩ := ownsRow_shape h.own3
  have e2 := hao2 (by omega)
  have e3 := hao3 (by omega)
  subst hv2 hv3 e2 e3
  obtain ⟨c0, c1, c2, c3⟩ := cell_four h.eng
  have f2 := h.own2.frozenAt i
  have f3 := h.own3.frozenAt i
  obtain ⟨cu2, b2⟩ := ownsRow_block h.own2 (g := g2) rfl
  have hy2 : y ≠ g2 := tag_ne h.eng b2 (by decide)
  have c2' : (w.setCell ⟨g2, i, none⟩ (.bool false)).cell? ⟨y, 2, none⟩ = some (.slice (some ⟨g3, 0, none⟩) ds.length cap3) := by
    rw [World.cell?_of_block (w := w) (Below.heap_setCell _ _ _ _ hy2)]; exact c2
  have o2 : ∃ u, w.cell? ⟨g2, i, none⟩ = some u := by
    rw [h.own2.cellAt i (by omega), List.getElem?_map]
    exact ⟨_, by rw [List.getElem?_eq_getElem hi]; rfl⟩
  obtain ⟨u2, o2⟩ := o2
  have h23 : g3 ≠ g2 := fun e => h.apart g2 rfl (by rw [← e]; rfl)
  have o3 : ∃ u, (w.setCell ⟨g2, i, none⟩ (.bool false)).cell? ⟨g3, i, none⟩ = some u := by
    rw [World.cell?_of_block (w := w) (Below.heap_setCell _ _ _ _ h23), h.own3.cellAt i (by omega)]
    exact ⟨_, List.getElem?_eq_getElem (by rw [h.own3.1]; omega)⟩
  obtain ⟨u3, o3⟩ := o3
  have f3' : (w.setCell ⟨g2, i, none⟩ (.bool false)).frozen? ⟨g3, i, none⟩ = false := by
    rw [World.frozen?_of_block (w := w) (Below.heap_setCell _ _ _ _ h23)]; exact f3
  have HK : Hid (_ ∧ _) := h.kill i
  clear h b2 c0 c3 c2 hao2 hao3
  go_enter Tryz.func190, Tryz.ntmps190
  go_wp2
  go_end0
  exact ⟨rfl, ⟨_, HK.out.1⟩, HK.out.2⟩

/-- One document is live no more where the key's live document lay. -/
def killK (ds : List (List UInt8 × Bool)) (key : List UInt8) : List (List UInt8 × Bool) := match findK ds key with | some i => killAt ds i | none => ds

set_option maxHeartbeats 1000000 in
set_option maxRecDepth 1000000 in
theorem refDelete_any (w : World) (Z : Nat → Prop) (y : Nat) (ds : List (List UInt8 × Bool)) (v1 v2 v3 v4 : Value) (xs : List Value) (ws : List Bool) (hRef : RefOk w Z y ds v1 v2 v3 v4 xs ws) (hl : ds.length ≤ 100) (key : List UInt8) (hm : key.length ≤ maxLen) :
    Calls Tryz.prog 120 #[.pointer (some ⟨y, 0, none⟩), .string ⟨key.toArray⟩] w fun e w' => e = .returned (.int .i64 (if keyOk key then (if (findK ds key).isSome then 0 else 5) else 1)) ∧ (∃ ws', RefOk w' Z y (if keyOk key then killK ds key else ds) v1 v2 v3 v4 xs ws') ∧ Turned Z w w' := by
  have cK : ∀ w, Calls Tryz.prog 107 #[.string ⟨key.toArray⟩] w fun e w' => e = .returned (.bool (keyOk key)) ∧ w' = w := fun w => refIsKey_any ⟨key.toArray⟩ w (by show key.toArray.size ≤ maxLen; simpa using hm)
  have CK : Hid (∀ w, Calls Tryz.prog 107 #[.string ⟨key.toArray⟩] w fun e w' => e = .returned (.bool (keyOk key)) ∧ w' = w) := cK
  clear cK hm
  by_cases hk : keyOk key = true
  · rw [hk]
    simp only [if_true]
    have cF := refFind_any w Z y ds v1 v2 v3 v4 xs ws hRef hl key
    cases hf : findK ds key with
    | none =>
      rw [hf] at cF
      have CF : Hid (Calls Tryz.prog 189 #[.pointer (some ⟨y, 0, none⟩), .string ⟨key.toArray⟩] w fun e w' => e = .returned (.int .i64 (-1)) ∧ ∃ q, w' = w.drewN q) := cF
      clear cF
      have hks : killK ds key = ds := by simp [killK, hf]
      rw [hks]
      clear hks hf
      go_enter Tryz.func120, Tryz.ntmps120
      go_wp2_with (first
        | (go_at_call 107; refine (CK.out _).mono ?_; rintro e w' ⟨rfl, hw⟩; rw [hw]; clear hw w')
        | (go_at_call 189; refine CF.out.mono ?_; rintro e w' ⟨rfl, q, rfl⟩))
      go_ret
      exact ⟨rfl, ⟨ws, RefOk.same hRef rfl⟩, (Turned.refl Z w).ofDrew q⟩
    | some i =>
      have hi := findK_lt ds key i hf
      rw [hf] at cF
      have CF : Hid (Calls Tryz.prog 189 #[.pointer (some ⟨y, 0, none⟩), .string ⟨key.toArray⟩] w fun e w' => e = .returned (.int .i64 (i : Int)) ∧ ∃ q, w' = w.drewN q) := by
        refine cF.mono fun e w' ⟨h1, h2⟩ => ⟨?_, h2⟩
        rw [h1]; simp [fInt]
      clear cF
      have hks : killK ds key = killAt ds i := by simp [killK, hf]
      rw [hks]
      clear hks hf
      have CD : Hid (∀ q, Calls Tryz.prog 190 #[.pointer (some ⟨y, 0, none⟩), .int .i64 (i : Int)] (w.drewN q) fun e w' => e = .returned (.tuple #[]) ∧ (∃ ws', RefOk w' Z y (killAt ds i) v1 v2 v3 v4 xs ws') ∧ Turned Z (w.drewN q) w') := fun q => refDrop_any (w.drewN q) Z y ds v1 v2 v3 v4 xs ws (RefOk.same hRef rfl) hl i hi
      go_enter Tryz.func120, Tryz.ntmps120
      go_wp2_with (first
        | (go_at_call 107; refine (CK.out _).mono ?_; rintro e w' ⟨rfl, hw⟩; rw [hw]; clear hw w')
        | (go_at_call 189; refine CF.out.mono ?_; rintro e w' ⟨rfl, q, rfl⟩)
        | (go_at_call 190; refine (CD.out _).mono ?_; rintro e w2 ⟨rfl, hok, htu⟩))
      go_ret
      exact ⟨rfl, hok, ((Turned.refl Z w).ofDrew q).trans htu⟩
  · have hkf : keyOk key = false := by simpa using hk
    clear hk
    rw [hkf]
    go_enter Tryz.func120, Tryz.ntmps120
    go_wp2_with (go_at_call 107; refine (CK.out _).mono ?_; rintro e w' ⟨rfl, hw⟩; rw [hw]; clear hw w')
    go_ret
    exact ⟨rfl, ⟨ws, hRef⟩, Turned.refl Z w⟩

set_option maxHeartbeats 400000 in
theorem refNew_any (w : World) : Calls Tryz.prog 63 #[] w fun e w' => e = .returned (.pointer (some ⟨w.heap.size, 0, none⟩)) ∧ w' = w.alloc (.cells #[.slice none 0 0, .slice none 0 0, .slice none 0 0, .slice none 0 0] 193) := by
  go_enter Tryz.func63, Tryz.ntmps63
  go_wp2
  go_ret
  exact ⟨rfl, rfl⟩
end Go.Proofs.YtaacjjhmojecnaaGreatDoor
