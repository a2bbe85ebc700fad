/- The walks of kept and pick. -/
import Derived.Test.YtaacjjhmojecnaaGreatDoorLaw2
namespace Go.Proofs.YtaacjjhmojecnaaGreatDoor
open Go.RowKit Go.ScT Go.Proofs Go.Shelf

theorem addDs_len {ds : Docs} {key text : List UInt8} (h : ds.length ≤ 100) : (addDs ds key text).length ≤ 100 := by
  unfold addDs
  split
  · rename_i hr
    obtain ⟨_, _, _, h4⟩ := addRes_zero _ _ _ hr
    rw [List.length_append, killK_len]
    simp
    omega
  · exact h

/-- What a step on a pair leaves. -/
def KeptDone (w : World) (B : Nat) (p : Pr) (en : Ending) (w' : World) : Prop :=
  en = .returned (.bool true) ∧ (∃ p' : Pr, p'.x = p.x ∧ p'.y = p.y ∧ PairOk w' B p' ∧ ∀ b, p'.z b → p.z b ∨ w.heap.size ≤ b) ∧ Turned p.z w w'

theorem pair_step {w w2 w3 w4 : World} {B : Nat} {p : Pr} {ds' : Docs} (h : PairOk w B p) (hBw : B ≤ w.heap.size) (hb2 : Below w.heap.size w w2) (hE : EngOk w3 (grow p.zx w2 w3) p.x ds') (t3 : Turned p.zx w2 w3) (hR : ∃ v1 v2 v3 v4 xs ws, RefOk w4 (grow p.zy w3 w4) p.y ds' v1 v2 v3 v4 xs ws) (t4 : Turned p.zy w3 w4) (hl : ds'.length ≤ 100) :
    KeptDone w B p (.returned (.bool true)) w4 := by
  have s2 := hb2.size
  have s3 := t3.size
  have s4 := t4.size
  refine ⟨rfl, ⟨⟨p.x, p.y, ds', grow p.zx w2 w3, grow p.zy w3 w4⟩, rfl, rfl, ⟨hE.turned t4 ?_, hR, hl, ?_, ?_⟩, ?_⟩, ?_⟩
  · rintro g (hg | ⟨hg1, hg2⟩) hy
    · exact h.apart g hg hy
    · have := (h.lt g (Or.inr hy)).2
      omega
  · rintro b (hx | ⟨hx1, hx2⟩) (hy | ⟨hy1, hy2⟩)
    · exact h.apart b hx hy
    · have := (h.lt b (Or.inl hx)).2
      omega
    · have := (h.lt b (Or.inr hy)).2
      omega
    · omega
  · rintro b ((hx | ⟨hx1, hx2⟩) | (hy | ⟨hy1, hy2⟩))
    · have := h.lt b (Or.inl hx)
      exact ⟨this.1, by omega⟩
    · exact ⟨by omega, by omega⟩
    · have := h.lt b (Or.inr hy)
      exact ⟨this.1, by omega⟩
    · exact ⟨by omega, by omega⟩
  · rintro b ((hx | ⟨hx1, hx2⟩) | (hy | ⟨hy1, hy2⟩))
    · exact Or.inl (Or.inl hx)
    · exact Or.inr (by omega)
    · exact Or.inl (Or.inr hy)
    · exact Or.inr (by omega)
  · exact ((Turned.ofBelow hb2).trans (t3.mono (fun _ _ hx => Or.inl hx))).trans (t4.mono (fun _ _ hy => Or.inr hy))

/-- The step as it lies in a box. -/
abbrev opBox (k : Int) (a b c : Value) (K S : List UInt8) : Obj := .cells #[.int .i64 k, a, b, c, .string ⟨K.toArray⟩, .string ⟨S.toArray⟩] 24
abbrev prBox (p : Pr) : Obj := .cells #[.pointer (some ⟨p.x, 0, none⟩), .pointer (some ⟨p.y, 0, none⟩)] 108
theorem boxes_below (w : World) (p : Pr) (k : Int) (a b c : Value) (K S : List UInt8) : Below w.heap.size w ((w.alloc (prBox p)).alloc (opBox k a b c K S)) := ((Below.refl _ w).alloc (Nat.le_refl _) _).alloc (by simp) _
theorem boxes_cells {w w3 : World} {p : Pr} {k : Int} {a b c : Value} {K S : List UInt8} {Z : Nat → Prop} (hz : ∀ b, Z b → b < w.heap.size) (t : Turned Z ((w.alloc (prBox p)).alloc (opBox k a b c K S)) w3) :
    w3.cell? ⟨w.heap.size, 1, none⟩ = some (.pointer (some ⟨p.y, 0, none⟩)) ∧ w3.cell? ⟨w.heap.size + 1, 4, none⟩ = some (.string ⟨K.toArray⟩) ∧ w3.cell? ⟨w.heap.size + 1, 5, none⟩ = some (.string ⟨S.toArray⟩) := by
  have e1 := t.block w.heap.size (by simp; omega) (fun h => by have := hz _ h; omega)
  have e2 := t.block (w.heap.size + 1) (by simp) (fun h => by have := hz _ h; omega)
  have n1 := heap_alloc_new w (prBox p)
  have n2 := heap_alloc_new (w.alloc (prBox p)) (opBox k a b c K S)
  rw [show (w.alloc (prBox p)).heap.size = w.heap.size + 1 by simp] at n2
  have n1' : ((w.alloc (prBox p)).alloc (opBox k a b c K S)).heap[w.heap.size]? = some (prBox p) := by
    rw [Below.heap_alloc _ _ _ (by simp)]; exact n1
  refine ⟨?_, ?_, ?_⟩
  · rw [World.cell?_of_block (a := ⟨w.heap.size, 1, none⟩) e1]; exact cell_of_row _ _ _ _ _ _ n1'
  · rw [World.cell?_of_block (a := ⟨w.heap.size + 1, 4, none⟩) e2]; exact cell_of_row _ _ _ _ _ _ n2
  · rw [World.cell?_of_block (a := ⟨w.heap.size + 1, 5, none⟩) e2]; exact cell_of_row _ _ _ _ _ _ n2

set_option maxHeartbeats 1000000 in
set_option maxRecDepth 1000000 in
theorem kept_add (a b c : Value) (K S : List UInt8) (w : World) (B : Nat) (p : Pr) (h : PairOk w B p) (hBw : B ≤ w.heap.size) (hK : K.length ≤ maxLen) (hS : S.length ≤ maxLen) :
    Calls Tryz.prog 66 #[.agg #[.pointer (some ⟨p.x, 0, none⟩), .pointer (some ⟨p.y, 0, none⟩)], .agg #[.int .i64 3, a, b, c, .string ⟨K.toArray⟩, .string ⟨S.toArray⟩]] w (KeptDone w B p) := by
  have hzx : ∀ b, p.zx b → b < w.heap.size := fun b hb => (h.lt b (Or.inl hb)).2
  have hbb := boxes_below w p 3 a b c K S
  have h2 := h.turned (Turned.ofBelow (Z := fun _ => False) hbb) (fun _ _ hf => hf)
  have C60 : Hid (Calls Tryz.prog 30 #[.pointer (some ⟨p.x, 0, none⟩), .string ⟨K.toArray⟩, .string ⟨S.toArray⟩] ((w.alloc (prBox p)).alloc (opBox 3 a b c K S)) fun en w' => en = .returned (.int .i64 (addRes K S p.ds.length)) ∧ EngOk w' (grow p.zx ((w.alloc (prBox p)).alloc (opBox 3 a b c K S)) w') p.x (addDs p.ds K S) ∧ Turned p.zx ((w.alloc (prBox p)).alloc (opBox 3 a b c K S)) w') :=
    add_all _ p.zx p.x p.ds h2.eng (fun b hb => (h2.lt b (Or.inl hb)).2) h2.len K S hK hS
  have C61 : Hid (∀ w3, Turned p.zx ((w.alloc (prBox p)).alloc (opBox 3 a b c K S)) w3 → Calls Tryz.prog 119 #[.pointer (some ⟨p.y, 0, none⟩), .string ⟨K.toArray⟩, .string ⟨S.toArray⟩] w3 fun e w' => e = .returned (.int .i64 (addRes K S p.ds.length)) ∧ (∃ v1 v2 v3 v4 xs ws', RefOk w' (grow p.zy w3 w') p.y (addDs p.ds K S) v1 v2 v3 v4 xs ws') ∧ Turned p.zy w3 w') := fun w3 t3 => by
    obtain ⟨v1, v2, v3, v4, xs, ws, hr⟩ := h2.ref
    refine (refAdd_any w3 p.zy p.y p.ds v1 v2 v3 v4 xs ws (hr.turned t3 (fun g hg hx => h.apart g hx hg)) h.len K S hK hS).mono ?_
    rintro e w' ⟨he, ⟨u1, u2, u3, xs', ws', hr'⟩, ht⟩
    exact ⟨he, ⟨u1, u2, u3, v4, xs', ws', hr'⟩, ht⟩
  have CN : Hid (∀ (x : Int) (w : World), Calls Tryz.prog 34 #[.int .i64 x] w fun e w' => e = .returned (.int .i64 x) ∧ w' = w) := num_any
  have HH : Hid (PairOk w B p) := h
  obtain ⟨R, hR⟩ : ∃ R, addRes K S p.ds.length = R := ⟨_, rfl⟩
  rw [hR] at C60 C61
  have hRR : (R == R) = true := by simp
  clear h h2 hK hS hR
  go_enter Tryz.func66, Tryz.ntmps66
  go_wp2_with (first
    | (go_at_call 30; refine C60.out.mono ?_; rintro en w3 ⟨rfl, hE3, ht3⟩; have k := boxes_cells hzx ht3; have k1 := k.1; have k2 := k.2.1; have k3 := k.2.2; clear k)
    | (go_at_call 119; refine (C61.out w3 ht3).mono ?_; rintro en w4 ⟨rfl, hR4, ht4⟩)
    | (go_at_call 34; refine (CN.out _ _).mono ?_; rintro en w5 ⟨rfl, hw5⟩; rw [hw5]; clear hw5 w5))
  go_ret
  exact pair_step HH.out hBw hbb hE3 ht3 hR4 ht4 (addDs_len HH.out.len)

theorem grow_in {Z : Nat → Prop} {w w' : World} : ∀ b, Z b → grow Z w w' b := fun _ hb => Or.inl hb

set_option maxHeartbeats 1000000 in
set_option maxRecDepth 1000000 in
theorem kept_del (a b c : Value) (K S : List UInt8) (w : World) (B : Nat) (p : Pr) (h : PairOk w B p) (hBw : B ≤ w.heap.size) (hK : K.length ≤ maxLen) :
    Calls Tryz.prog 66 #[.agg #[.pointer (some ⟨p.x, 0, none⟩), .pointer (some ⟨p.y, 0, none⟩)], .agg #[.int .i64 4, a, b, c, .string ⟨K.toArray⟩, .string ⟨S.toArray⟩]] w (KeptDone w B p) := by
  have hzx : ∀ b, p.zx b → b < w.heap.size := fun b hb => (h.lt b (Or.inl hb)).2
  have hbb := boxes_below w p 4 a b c K S
  have h2 := h.turned (Turned.ofBelow (Z := fun _ => False) hbb) (fun _ _ hf => hf)
  have C62 : Hid (Calls Tryz.prog 22 #[.pointer (some ⟨p.x, 0, none⟩), .string ⟨K.toArray⟩] ((w.alloc (prBox p)).alloc (opBox 4 a b c K S)) fun en w' => en = .returned (.int .i64 (if keyOk K then (if (findK p.ds K).isSome then 0 else 5) else 1)) ∧ EngOk w' p.zx p.x (if keyOk K then killK p.ds K else p.ds) ∧ Turned p.zx ((w.alloc (prBox p)).alloc (opBox 4 a b c K S)) w') :=
    delete_any _ p.zx p.x p.ds h2.eng h2.len K hK
  have C63 : Hid (∀ w3, Turned p.zx ((w.alloc (prBox p)).alloc (opBox 4 a b c K S)) w3 → Calls Tryz.prog 120 #[.pointer (some ⟨p.y, 0, none⟩), .string ⟨K.toArray⟩] w3 fun e w' => e = .returned (.int .i64 (if keyOk K then (if (findK p.ds K).isSome then 0 else 5) else 1)) ∧ (∃ v1 v2 v3 v4 xs ws', RefOk w' p.zy p.y (if keyOk K then killK p.ds K else p.ds) v1 v2 v3 v4 xs ws') ∧ Turned p.zy w3 w') := fun w3 t3 => by
    obtain ⟨v1, v2, v3, v4, xs, ws, hr⟩ := h2.ref
    refine (refDelete_any w3 p.zy p.y p.ds v1 v2 v3 v4 xs ws (hr.turned t3 (fun g hg hx => h.apart g hx hg)) h.len K hK).mono ?_
    rintro e w' ⟨he, ⟨ws', hr'⟩, ht⟩
    exact ⟨he, ⟨v1, v2, v3, v4, xs, ws', hr'⟩, ht⟩
  have CN : Hid (∀ (x : Int) (w : World), Calls Tryz.prog 34 #[.int .i64 x] w fun e w' => e = .returned (.int .i64 x) ∧ w' = w) := num_any
  have HH : Hid (PairOk w B p) := h
  have HLEN : Hid ((if keyOk K then killK p.ds K else p.ds).length ≤ 100) := show _ ≤ 100 by
    split
    · rw [killK_len]; exact h.len
    · exact h.len
  generalize hR : (if keyOk K then (if (findK p.ds K).isSome then (0 : Int) else 5) else 1) = R at C62 C63
  generalize (if keyOk K then killK p.ds K else p.ds) = D at C62 C63 HLEN
  have hRR : (R == R) = true := by simp
  clear h h2 hK hR
  go_enter Tryz.func66, Tryz.ntmps66
  go_wp2_with (first
    | (go_at_call 22; refine C62.out.mono ?_; rintro en w3 ⟨rfl, hE3, ht3⟩; have k := boxes_cells hzx ht3; have k1 := k.1; have k2 := k.2.1; have k3 := k.2.2; clear k)
    | (go_at_call 120; refine (C63.out w3 ht3).mono ?_; rintro en w4 ⟨rfl, hR4, ht4⟩)
    | (go_at_call 34; refine (CN.out _ _).mono ?_; rintro en w5 ⟨rfl, hw5⟩; rw [hw5]; clear hw5 w5))
  go_ret
  obtain ⟨v1, v2, v3, v4, xs, ws, hr⟩ := hR4
  exact pair_step HH.out hBw hbb (hE3.zone grow_in) ht3 ⟨v1, v2, v3, v4, xs, ws, hr.zone grow_in⟩ ht4 HLEN.out

set_option maxHeartbeats 1000000 in
set_option maxRecDepth 1000000 in
theorem kept_count (a b c : Value) (K S : List UInt8) (w : World) (B : Nat) (p : Pr) (h : PairOk w B p) (hBw : B ≤ w.heap.size) :
    Calls Tryz.prog 66 #[.agg #[.pointer (some ⟨p.x, 0, none⟩), .pointer (some ⟨p.y, 0, none⟩)], .agg #[.int .i64 5, a, b, c, .string ⟨K.toArray⟩, .string ⟨S.toArray⟩]] w (KeptDone w B p) := by
  have hbb := boxes_below w p 5 a b c K S
  have h2 := h.turned (Turned.ofBelow (Z := fun _ => False) hbb) (fun _ _ hf => hf)
  have C64 : Hid (Calls Tryz.prog 19 #[.pointer (some ⟨p.x, 0, none⟩)] ((w.alloc (prBox p)).alloc (opBox 5 a b c K S)) fun en w' => en = .returned (.int .i64 (liveN p.ds : Int)) ∧ w' = ((w.alloc (prBox p)).alloc (opBox 5 a b c K S))) := count_any _ p.zx p.x p.ds h2.eng
  have C65 : Hid (Calls Tryz.prog 121 #[.pointer (some ⟨p.y, 0, none⟩)] ((w.alloc (prBox p)).alloc (opBox 5 a b c K S)) fun e w' => e = .returned (.int .i64 (liveN p.ds : Int)) ∧ ∃ q, w' = ((w.alloc (prBox p)).alloc (opBox 5 a b c K S)).drewN q) := by
    obtain ⟨v1, v2, v3, v4, xs, ws, hr⟩ := h2.ref
    exact refCount_any _ p.zy p.y p.ds v1 v2 v3 v4 xs ws hr h2.len
  have HH : Hid (PairOk w B p) := h
  have H2 : Hid (PairOk ((w.alloc (prBox p)).alloc (opBox 5 a b c K S)) B p) := h2
  generalize hR : (liveN p.ds : Int) = R at C64 C65
  have hRR : (R == R) = true := by simp
  clear h h2 hR
  go_enter Tryz.func66, Tryz.ntmps66
  go_wp2_with (first
    | (go_at_call 19; refine C64.out.mono ?_; rintro en w3 ⟨rfl, hw3⟩; rw [hw3]; clear hw3 w3)
    | (go_at_call 121; refine C65.out.mono ?_; rintro en w4 ⟨rfl, hq⟩; obtain ⟨q, hw4⟩ := hq; rw [hw4]; clear hw4 w4))
  go_ret
  obtain ⟨v1, v2, v3, v4, xs, ws, hr⟩ := H2.out.ref
  exact pair_step HH.out hBw hbb (H2.out.eng.zone grow_in) (Turned.refl _ _) ⟨v1, v2, v3, v4, xs, ws, (RefOk.same (w' := ((w.alloc (prBox p)).alloc (opBox 5 a b c K S)).drewN q) hr rfl).zone grow_in⟩ ((Turned.refl _ _).ofDrew q) HH.out.len

set_option maxHeartbeats 1000000 in
theorem pick_any (c : Int) (n : Nat) (w : World) (h1 : -9223372036854775808 ≤ c) (h2 : c ≤ 9223372036854775807) (hn : 0 < n) (hm : n ≤ maxLen) :
    Calls Tryz.prog 64 #[.int .i64 c, .int .i64 (n : Int)] w fun e w' => (∃ i : Nat, e = .returned (.int .i64 (i : Int)) ∧ i < n) ∧ w' = w := by
  unfold maxLen at hm
  have fin : ∀ x : Int, 0 ≤ x → ∃ i : Nat, x.tmod (n : Int) = (i : Int) ∧ i < n := fun x hx => by
    obtain ⟨m, rfl⟩ := Int.eq_ofNat_of_zero_le hx
    exact ⟨m % n, (Int.ofNat_tmod m n).symm, Nat.mod_lt _ hn⟩
  by_cases hc : c < 0
  · obtain ⟨i, hi1, hi2⟩ := fin (-(c + 1)) (by omega)
    rw [Int.neg_tmod] at hi1
    go_enter Tryz.func64, Tryz.ntmps64
    go_wp2
    go_ret
    exact ⟨⟨i, by rw [← hi1]; rfl, hi2⟩, rfl⟩
  · obtain ⟨i, hi1, hi2⟩ := fin c (by omega)
    go_enter Tryz.func64, Tryz.ntmps64
    go_wp2
    go_ret
    exact ⟨⟨i, by rw [← hi1]; rfl, hi2⟩, rfl⟩
end Go.Proofs.YtaacjjhmojecnaaGreatDoor
