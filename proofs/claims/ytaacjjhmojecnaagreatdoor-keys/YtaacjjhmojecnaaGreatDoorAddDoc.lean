/- A document is appended to the buffer's documents, at a step of a region that draws its order. -/
import Derived.Test.YtaacjjhmojecnaaGreatDoorDrop
import Derived.Deep.RegionLawGrows
namespace Go.Proofs.YtaacjjhmojecnaaGreatDoor
open Go.RowKit Go.ScT Go.Proofs Go.Shelf

theorem info130 : (Tryz.prog.info? 141).map (fun i => (i.zero, i.size, i.bytes)) = some (some (.agg #[.int .i64 0, .string ⟨#[]⟩, .int .i64 0]), 3, 32) := by kernel_rfl

theorem doc_list {w : World} {g c t : Nat} (h : DocRow w g c t) : ∀ k, k ≤ t → ∃ olds : List Value, olds.length = k * 3 ∧ (∀ j u, olds[j]? = some u → w.cell? ⟨g, j, none⟩ = some u) ∧ ∀ i, i < k → ∃ a s b, olds[i * 3]? = some (.int .i64 a) ∧ olds[i * 3 + 1]? = some (.string s) ∧ olds[i * 3 + 2]? = some (.int .i64 b)
  | 0, _ => ⟨[], rfl, fun j u hj => by simp at hj, fun j hj => by omega⟩
  | k + 1, hk => by
    obtain ⟨l, h1, h2, h3⟩ := doc_list h k (by omega)
    obtain ⟨a, s, b, ha, hs, hb⟩ := h.docs k (by omega)
    refine ⟨l ++ [.int .i64 a, .string s, .int .i64 b], by simp [h1]; omega, fun j u hj => ?_, fun i hi => ?_⟩
    · rw [List.getElem?_append] at hj
      split at hj
      · exact h2 j u hj
      · rename_i hge
        have hlt := (List.getElem?_eq_some_iff.1 hj).1
        simp at hlt
        have : j - l.length = 0 ∨ j - l.length = 1 ∨ j - l.length = 2 := by omega
        rcases this with e | e | e <;> rw [e] at hj <;> simp at hj <;> subst hj
        · rw [show j = k * 3 by omega]; exact ha
        · rw [show j = k * 3 + 1 by omega]; exact hs
        · rw [show j = k * 3 + 2 by omega]; exact hb
    · by_cases hik : i < k
      · obtain ⟨x, y, z, e1, e2, e3⟩ := h3 i hik
        exact ⟨x, y, z, by rw [List.getElem?_append_left (by omega)]; exact e1, by rw [List.getElem?_append_left (by omega)]; exact e2, by rw [List.getElem?_append_left (by omega)]; exact e3⟩
      · have : i = k := by omega
        subst this
        exact ⟨a, s, b, by rw [List.getElem?_append_right (by omega), h1]; simp, by rw [List.getElem?_append_right (by omega), h1]; simp, by rw [List.getElem?_append_right (by omega), h1]; simp⟩

theorem DocRow.push {w : World} {g c t n : Nat} (h : DocRow w g c t) (hn : n ≤ t) (hr : n + 1 ≤ c) (a b : Int) (s : ByteArray) :
    ∃ t', n + 1 ≤ t' ∧ DocRow (w.setCells g (0 + n * 3) [.int .i64 a, .string s, .int .i64 b]) g c t' := by
  have h0 : DocRow (w.setCells g (0 + n * 3) [.int .i64 a, .string s, .int .i64 b]) g c t := by
    rw [Nat.zero_add]; exact h.setDoc n (by omega) a b s
  by_cases hle : n + 1 ≤ t
  · exact ⟨t, hle, h0⟩
  · have hnt : n = t := by omega
    subst hnt
    refine ⟨n + 1, Nat.le_refl _, h0.lt, h0.there, h0.free, fun j hj => ?_, hr, h0.cap⟩
    by_cases hj2 : j < n
    · exact h0.docs j hj2
    · have : j = n := by omega
      subst this
      have hin := fun k hk => World.cell?_setCells_in g [.int .i64 a, .string s, .int .i64 b] (0 + j * 3) w (fun i hi => by simp at hi; exact h.there _ (by omega)) k hk
      refine ⟨a, s, b, ?_, ?_, ?_⟩
      · have := hin 0 (by simp); simpa using this
      · have := hin 1 (by simp); simpa using this
      · have := hin 2 (by simp); simpa using this

theorem step_append_docs {ops : Array Oper} {o : Oper} {a : Act} {w : World} {K : Act → World → Prop} {Q : Exit → Act → World → Prop} {E : Prop}
    (hg : o.guard = none) (s x : Operand) (hop : o.op = Op.call { callee := Callee.builtin Builtin.append, args := #[s, x], argTypes := #[82, 82] })
    (v : Value) (m : Nat) (hs : a.eval s = v) (hD : DocsOk w v m) (hm : m + 1 ≤ 100000) (ad : Addr) (num l : Int) (key : ByteArray) (hx : a.eval x = .slice (some ad) 1 1)
    (hc : ∀ j u, [Value.int .i64 num, .string key, .int .i64 l][j]? = some u → w.cell? (ad.add j) = some u)
    (hK : ∀ g n cap w', DocsOk w' (.slice (some ⟨g, 0, none⟩) n cap) (m + 1) → (v.ownBlock = some g ∨ (w.heap.size ≤ g ∧ g < w'.heap.size)) → Turned (fun b => v.ownBlock = some b) w w' → K (a.put o.dst (.slice (some ⟨g, 0, none⟩) n cap)) w') :
    if Region.wanted o (yielded ops a.tmps) = true then Oper.wp Tryz.prog o a w K Q else E := by
  obtain ⟨i0, hi, hz0, hz1, hz2⟩ := info_parts info130
  have h1c : ∀ u ∈ [Value.int .i64 num, .string key, .int .i64 l], u.oneCell' = true := fun u hu => by simp at hu; rcases hu with rfl | rfl | rfl <;> rfl
  have grow : ∀ (n : Nat) (olds : List Value), n ≤ m → olds.length = n * 3 → (∀ i, i < n → ∃ a s b, olds[i * 3]? = some (.int .i64 a) ∧ olds[i * 3 + 1]? = some (.string s) ∧ olds[i * 3 + 2]? = some (.int .i64 b)) → ∀ v' w', w'.ownsRow w.heap.size 141 3 v' (n + 1) (olds ++ [.int .i64 num, .string key, .int .i64 l]) → w.grownBy w' none → K (a.put o.dst v') w' := by
    intro n olds hnm hol hod v' w' hown hgr
    rcases hown.2 with ⟨_, h0⟩ | ⟨g, cap, cur, hv', hge, hb, hnc, hcm, hcs, htk⟩
    · omega
    · have hlt := lt_of_block hb
      rw [hv'] at hown ⊢
      refine hK g (n + 1) cap w' (Or.inr ⟨g, n + 1, cap, n + 1, rfl, ⟨hlt, fun j hj => ?_, fun j => by simp [World.frozen?, hb], fun j hj => ?_, hnc, hcm⟩, Nat.le_refl _, by omega⟩) (Or.inr ⟨hge, hlt⟩) (Turned.ofGrown hgr (fun k hk => by cases hk))
      · have : j < cur.size := by omega
        simp [World.cell?, hb, this]
      · have e0 := hown.cellAt (j * 3) (by omega)
        have e1 := hown.cellAt (j * 3 + 1) (by omega)
        have e2 := hown.cellAt (j * 3 + 2) (by omega)
        rw [e0, e1, e2]
        by_cases hjn : j < n
        · obtain ⟨x, y, z, q1, q2, q3⟩ := hod j hjn
          exact ⟨x, y, z, by rw [List.getElem?_append_left (by omega)]; exact q1, by rw [List.getElem?_append_left (by omega)]; exact q2, by rw [List.getElem?_append_left (by omega)]; exact q3⟩
        · have : j = n := by omega
          subst this
          exact ⟨num, key, l, by rw [List.getElem?_append_right (by omega), hol]; simp, by rw [List.getElem?_append_right (by omega), hol]; simp, by rw [List.getElem?_append_right (by omega), hol]; simp⟩
  rcases hD with rfl | ⟨g, n, cap, t, rfl, hrow, hnt, hnm⟩
  · exact step_append_grows hg s x 82 hop 141 i0 _ 3 32 Tryz.underlying82 hi hz0 hz1 hz2 rfl (by decide) none 0 0 [] hs (fun _ => ⟨rfl, rfl⟩) rfl (fun b h => by cases h) ad 1 1 _ hx rfl hc h1c (by omega) (by unfold maxLen; omega) (by omega) (grow 0 [] (by omega) rfl (fun i hi => by omega))
  · by_cases hr : n + 1 ≤ cap
    · refine step_append_room hg s x 82 hop 141 i0 3 Tryz.underlying82 hi hz1 g 0 n cap hs ad 1 1 _ hx rfl hc h1c hr (fun j hj => ⟨hrow.there _ (by simp at hj; omega), hrow.free _⟩) ?_
      obtain ⟨t', ht', hr'⟩ := hrow.push hnt hr num l key
      exact hK g (n + 1) cap _ (Or.inr ⟨g, n + 1, cap, t', rfl, hr', ht', by omega⟩) (Or.inl rfl) (Turned.setMany (Z := fun b => (Value.slice (some ⟨g, 0, none⟩) n cap).ownBlock = some b) g rfl _ _ _)
    · obtain ⟨olds, ol, oc, od⟩ := doc_list hrow n hnt
      refine step_append_grows hg s x 82 hop 141 i0 _ 3 32 Tryz.underlying82 hi hz0 hz1 hz2 rfl (by decide) (some ⟨g, 0, none⟩) n cap olds hs (fun h => by cases h) ol (fun b hb j u hj => ?_) ad 1 1 _ hx rfl hc h1c (by omega) (by unfold maxLen; omega) (by omega) (grow n olds hnm ol od)
      cases hb
      have hadd : (⟨g, 0, none⟩ : Addr).add j = ⟨g, j, none⟩ := by unfold Addr.add; split <;> simp_all
      rw [hadd]; exact oc j u hj
end Go.Proofs.YtaacjjhmojecnaaGreatDoor
