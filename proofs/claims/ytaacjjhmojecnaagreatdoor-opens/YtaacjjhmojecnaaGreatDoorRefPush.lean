/- The reference's engine: what stands behind its pushes. -/
import Derived.Test.YtaacjjhmojecnaaGreatDoorRefEng2
import Derived.Deep.AppendLies
import Derived.Deep.RegionLaw
import Derived.Deep.DeepMust
namespace Go.Proofs.YtaacjjhmojecnaaGreatDoor
open Go.RowKit Go.ScT Go.Proofs

theorem info77 : (Tryz.prog.info? 185).map (fun i => (i.zero, i.size, i.bytes)) = some (some (.agg #[.string ⟨#[]⟩, .int .i64 0, .slice none 0 0]), 3, 48) := by kernel_rfl
theorem info4 : (Tryz.prog.info? 4).map (fun i => (i.zero, i.size, i.bytes)) = some (some (.bool false), 1, 1) := by kernel_rfl

/-- Z, and the blocks that have come since. -/
def grow (Z : Nat → Prop) (w w' : World) : Nat → Prop := fun b => Z b ∨ (w.heap.size ≤ b ∧ b < w'.heap.size)

/-- One slice of an engine has grown, and lies anew in the engine's cell: what stands. -/
theorem push_gen {w w3 : World} {y j : Nat} {cs : Array Value} {o : Obj} {tz ty : TypeId} {sz : Nat} {v s' : Value} {n n' : Nat} {l l' : List Value} (heng : w.heap[y]? = some (.cells cs tz (0, 0))) (hg : (w.alloc o).grownBy w3 v.ownBlock)
    (hown : w.ownsRow 0 ty sz v n l) (hown' : w3.ownsRow 0 ty sz s' n' l') (hty : tz ≠ ty) :
    (w3.setCell ⟨y, j, none⟩ s').heap[y]? = some (.cells (cs.setIfInBounds j s') tz (0, 0)) ∧ (w3.setCell ⟨y, j, none⟩ s').ownsRow 0 ty sz s' n' l' ∧
    (∀ (ty2 : TypeId) (sz2 : Nat) (u : Value) (m : Nat) (k : List Value), w.ownsRow 0 ty2 sz2 u m k → tz ≠ ty2 → (∀ g, u.ownBlock = some g → v.ownBlock ≠ some g) → (w3.setCell ⟨y, j, none⟩ s').ownsRow 0 ty2 sz2 u m k) ∧
    (∀ Z : Nat → Prop, Z y → (∀ g, v.ownBlock = some g → Z g) → Turned Z w (w3.setCell ⟨y, j, none⟩ s')) ∧ w.heap.size < (w3.setCell ⟨y, j, none⟩ s').heap.size := by
  have hlt := lt_of_block heng
  have hvy : v.ownBlock ≠ some y := fun e => by
    obtain ⟨cu, bq⟩ := ownsRow_block hown e
    exact tag_ne heng bq hty rfl
  have heng3 : w3.heap[y]? = some (.cells cs tz (0, 0)) := by
    rw [hg.block y (by simp; omega) (fun e => hvy e.symm), Below.heap_alloc _ _ _ hlt]
    exact heng
  have hsz : w.heap.size + 1 ≤ w3.heap.size := by have := hg.size; simp at this; omega
  refine ⟨heap_setCell_same w3 y j cs tz s' heng3, ?_, ?_, ?_, ?_⟩
  · refine ownsRow_setCell_other hown' (fun e => ?_) _
    obtain ⟨cu, bq⟩ := ownsRow_block hown' e
    exact tag_ne heng3 bq hty rfl
  · intro ty2 sz2 u m k hu ht hne
    have h1 := (hu.alloc o).kept hg (by
      cases hb : u.ownBlock with
      | none => exact Or.inl rfl
      | some g => exact Or.inr (fun e => hne g hb e.symm))
    refine ownsRow_setCell_other h1 (fun e => ?_) _
    obtain ⟨cu, bq⟩ := ownsRow_block hu e
    exact tag_ne heng bq ht rfl
  · intro Z hy hz
    exact ((Turned.ofAlloc w o).trans (Turned.ofGrown hg (fun k hk _ => hz k hk))).trans (Turned.ofSet w3 _ _ hy)
  · simp [World.setCell]; omega

theorem size_set (w : World) (a : Addr) (v : Value) : (w.setCell a v).heap.size = w.heap.size := by simp [World.setCell]

theorem cell_one_set (w : World) (a : Addr) (v x : Value) (t : TypeId) : ∀ j u, [x][j]? = some u → ((w.setCell a v).alloc (.cells #[x] t)).cell? ((⟨w.heap.size, 0, none⟩ : Addr).add j) = some u := by
  have h := cell_one_new (w.setCell a v) x t
  rw [size_set] at h
  exact h

/-- The three rows of the reference's engine behind an Add. -/
theorem ref_done {w w1 wq w3 w4 w5 : World} {Z : Nat → Prop} {y : Nat} {ds : List (List UInt8 × Bool)} {S1 S2 S3 v4 : Value} {xs : List Value} {ws : List Bool} {oA oB oC : Obj} {gA gB gC cA cB cC n : Nat} {key : List UInt8} {num tv : Value}
    (hn : ds.length = n) (h1 : RefOk w1 Z y ds S1 S2 S3 v4 xs ws) (hw : Turned Z w w1) (hq : wq.heap = w1.heap) (hqo : wq.os = w1.os) (hqt : wq.tape = w1.tape) (hqu : wq.output = w1.output)
    (grA : (wq.alloc oA).grownBy w3 S1.ownBlock) (owA : w3.ownsRow 0 185 3 (.slice (some ⟨gA, 0, none⟩) (n + 1) cA) (n + 1) (xs ++ [.string ⟨key.toArray⟩, num, tv])) (atA : S1.ownBlock = some gA ∨ gA = w1.heap.size + 1) (ltA : gA < w3.heap.size)
    (grB : ((w3.setCell ⟨y, 0, none⟩ (.slice (some ⟨gA, 0, none⟩) (n + 1) cA)).alloc oB).grownBy w4 S2.ownBlock) (owB : w4.ownsRow 0 4 1 (.slice (some ⟨gB, 0, none⟩) (n + 1) cB) (n + 1) ((ds.map fun d => .bool d.2) ++ [.bool true]))
    (atB : S2.ownBlock = some gB ∨ gB = (w3.setCell ⟨y, 0, none⟩ (.slice (some ⟨gA, 0, none⟩) (n + 1) cA)).heap.size + 1) (ltB : gB < w4.heap.size)
    (grC : ((w4.setCell ⟨y, 1, none⟩ (.slice (some ⟨gB, 0, none⟩) (n + 1) cB)).alloc oC).grownBy w5 S3.ownBlock) (owC : w5.ownsRow 0 4 1 (.slice (some ⟨gC, 0, none⟩) (n + 1) cC) (n + 1) ((ws.map .bool) ++ [.bool true]))
    (atC : S3.ownBlock = some gC ∨ gC = (w4.setCell ⟨y, 1, none⟩ (.slice (some ⟨gB, 0, none⟩) (n + 1) cB)).heap.size + 1) (ltC : gC < w5.heap.size) :
    RefOk (w5.setCell ⟨y, 2, none⟩ (.slice (some ⟨gC, 0, none⟩) (n + 1) cC)) (grow Z w (w5.setCell ⟨y, 2, none⟩ (.slice (some ⟨gC, 0, none⟩) (n + 1) cC))) y (ds ++ [(key, true)]) (.slice (some ⟨gA, 0, none⟩) (n + 1) cA) (.slice (some ⟨gB, 0, none⟩) (n + 1) cB) (.slice (some ⟨gC, 0, none⟩) (n + 1) cC) v4 (xs ++ [.string ⟨key.toArray⟩, num, tv]) (ws ++ [true]) ∧
    Turned Z w (w5.setCell ⟨y, 2, none⟩ (.slice (some ⟨gC, 0, none⟩) (n + 1) cC)) := by
  subst hn
  have hR : RefOk wq Z y ds S1 S2 S3 v4 xs ws := RefOk.same h1 hq
  have hTq : Turned Z w wq := ⟨hqo.trans hw.os, hqt.trans hw.tape, hqu.trans hw.output, by rw [hq]; exact hw.size, fun b hb hz => by rw [hq]; exact hw.block b hb hz⟩
  have n12 : ∀ g, S2.ownBlock = some g → S1.ownBlock ≠ some g := fun g hg e => by
    obtain ⟨cu, bq⟩ := ownsRow_block hR.own2 hg
    obtain ⟨cu', bq'⟩ := ownsRow_block hR.own1 e
    exact tag_ne bq bq' (by decide) rfl
  have n13 : ∀ g, S3.ownBlock = some g → S1.ownBlock ≠ some g := fun g hg e => by
    obtain ⟨cu, bq⟩ := ownsRow_block hR.own3 hg
    obtain ⟨cu', bq'⟩ := ownsRow_block hR.own1 e
    exact tag_ne bq bq' (by decide) rfl
  obtain ⟨E3, O3, X3, T3, S3s⟩ := push_gen (j := 0) hR.eng grA hR.own1 owA (by decide)
  have P2 := X3 _ _ _ _ _ hR.own2 (by decide) n12
  have P3 := X3 _ _ _ _ _ hR.own3 (by decide) n13
  have sz3 := size_set w3 ⟨y, 0, none⟩ (.slice (some ⟨gA, 0, none⟩) (ds.length + 1) cA)
  have U3 := T3 Z hR.zy hR.z1
  generalize w3.setCell ⟨y, 0, none⟩ (Value.slice (some ⟨gA, 0, none⟩) (ds.length + 1) cA) = W3 at *
  obtain ⟨E4, O4, X4, T4, S4s⟩ := push_gen (j := 1) E3 grB P2 owB (by decide)
  have nA2 : ∀ g, (Value.slice (some ⟨gA, 0, none⟩) (ds.length + 1) cA).ownBlock = some g → S2.ownBlock ≠ some g := fun g hg e => by
    obtain ⟨cu, bq⟩ := ownsRow_block O3 hg
    obtain ⟨cu', bq'⟩ := ownsRow_block P2 e
    exact tag_ne bq bq' (by decide) rfl
  have n23 : ∀ g, S3.ownBlock = some g → S2.ownBlock ≠ some g := fun g hg e => hR.apart g e hg
  have QA := X4 _ _ _ _ _ O3 (by decide) nA2
  have Q3 := X4 _ _ _ _ _ P3 (by decide) n23
  have sz4 := size_set w4 ⟨y, 1, none⟩ (.slice (some ⟨gB, 0, none⟩) (ds.length + 1) cB)
  have U4 := T4 Z hR.zy hR.z2
  generalize w4.setCell ⟨y, 1, none⟩ (Value.slice (some ⟨gB, 0, none⟩) (ds.length + 1) cB) = W4 at *
  obtain ⟨E5, O5, X5, T5, S5s⟩ := push_gen (j := 2) E4 grC Q3 owC (by decide)
  have nB3 : S3.ownBlock ≠ some gB := fun e => by
    have hlt := (P3.lt gB e).2
    rcases atB with h | h
    · exact hR.apart gB h e
    · omega
  have nA3 : ∀ g, (Value.slice (some ⟨gA, 0, none⟩) (ds.length + 1) cA).ownBlock = some g → S3.ownBlock ≠ some g := fun g hg e => by
    obtain ⟨cu, bq⟩ := ownsRow_block QA hg
    obtain ⟨cu', bq'⟩ := ownsRow_block Q3 e
    exact tag_ne bq bq' (by decide) rfl
  have RA := X5 _ _ _ _ _ QA (by decide) nA3
  have RB := X5 _ _ _ _ _ O4 (by decide) (fun g hg => by simp [Value.ownBlock] at hg; subst hg; exact nB3)
  have sz5 := size_set w5 ⟨y, 2, none⟩ (.slice (some ⟨gC, 0, none⟩) (ds.length + 1) cC)
  have U5 := T5 Z hR.zy hR.z3
  generalize w5.setCell ⟨y, 2, none⟩ (Value.slice (some ⟨gC, 0, none⟩) (ds.length + 1) cC) = W5 at *
  have hTot : Turned Z w W5 := ((hTq.trans U3).trans U4).trans U5
  have hsq : wq.heap.size = w1.heap.size := by rw [hq]
  have hs1 := hw.size
  have hlen : (ds ++ [(key, true)]).length = ds.length + 1 := by simp
  refine ⟨⟨E5, ?_, ?_, ?_, ?_, Or.inl hR.zy, ?_, ?_, ?_, ?_⟩, hTot⟩
  · rw [hlen]; exact RA
  · intro i d hi
    have hxl : xs.length = ds.length * 3 := hR.own1.1
    rw [List.getElem?_append] at hi
    split at hi
    · rename_i hlt
      rw [List.getElem?_append_left (by omega)]
      exact hR.keys i d hi
    · rename_i hge
      have hi0 : i - ds.length = 0 := by
        have := (List.getElem?_eq_some_iff.1 hi).1
        simp at this
        omega
      rw [hi0] at hi
      simp at hi
      subst hi
      have : i = ds.length := by omega
      subst this
      rw [List.getElem?_append_right (by omega), hxl]
      simp
  · rw [hlen, List.map_append]; exact RB
  · rw [hlen, List.map_append]; exact O5
  · intro g hg
    simp [Value.ownBlock] at hg
    subst hg
    rcases atA with h | h
    · exact Or.inl (hR.z1 _ h)
    · exact Or.inr ⟨by omega, by omega⟩
  · intro g hg
    simp [Value.ownBlock] at hg
    subst hg
    rcases atB with h | h
    · exact Or.inl (hR.z2 _ h)
    · exact Or.inr ⟨by omega, by omega⟩
  · intro g hg
    simp [Value.ownBlock] at hg
    subst hg
    rcases atC with h | h
    · exact Or.inl (hR.z3 _ h)
    · exact Or.inr ⟨by omega, by omega⟩
  · intro g hg hg3
    simp [Value.ownBlock] at hg hg3
    subst hg
    subst hg3
    rcases atC with h | h
    · exact nB3 h
    · omega
end Go.Proofs.YtaacjjhmojecnaaGreatDoor
