/- The reference's engine: Add, whatever is handed in. -/
import Derived.Test.YtaacjjhmojecnaaGreatDoorRefAddN
import Derived.Test.YtaacjjhmojecnaaGreatDoorRefAddO
namespace Go.ScT
/-- What Add answers, where N documents have been added. -/
def addRes (key text : List UInt8) (N : Nat) : Int := if keyOk key = false then 1 else if 200 < text.length then 2 else if 40 < (toks text).length then 3 else if N = 100 then 4 else 0
end Go.ScT
namespace Go.Proofs.YtaacjjhmojecnaaGreatDoor
open Go.RowKit Go.ScT Go.Proofs

def addDs (ds : List (List UInt8 × Bool)) (key text : List UInt8) : List (List UInt8 × Bool) := if addRes key text ds.length = 0 then killK ds key ++ [(key, true)] else ds

theorem RefOk.zone {w : World} {Z Z' : Nat → Prop} {y : Nat} {ds : List (List UInt8 × Bool)} {v1 v2 v3 v4 : Value} {xs : List Value} {ws : List Bool} (h : RefOk w Z y ds v1 v2 v3 v4 xs ws) (hz : ∀ b, Z b → Z' b) : RefOk w Z' y ds v1 v2 v3 v4 xs ws :=
  ⟨h.eng, h.own1, h.keys, h.own2, h.own3, hz _ h.zy, fun g hg => hz g (h.z1 g hg), fun g hg => hz g (h.z2 g hg), fun g hg => hz g (h.z3 g hg), h.apart⟩

set_option maxHeartbeats 1000000 in
set_option maxRecDepth 1000000 in
theorem refAdd_bad (w : World) (Z : Nat → Prop) (y : Nat) (ds : List (List UInt8 × Bool)) (v1 v2 v3 v4 : Value) (xs : List Value) (ws : List Bool) (hRef : RefOk w Z y ds v1 v2 v3 v4 xs ws) (key text : List UInt8) (hm : key.length ≤ maxLen) (hmt : text.length ≤ maxLen)
    (hr : addRes key text ds.length ≠ 0) :
    Calls Tryz.prog 119 #[.pointer (some ⟨y, 0, none⟩), .string ⟨key.toArray⟩, .string ⟨text.toArray⟩] w fun e w' => e = .returned (.int .i64 (addRes key text ds.length)) ∧ RefOk w' Z y ds v1 v2 v3 v4 xs ws ∧ Turned Z w w' := by
  have CK : Hid (∀ w, Calls Tryz.prog 107 #[.string ⟨key.toArray⟩] w fun e w' => e = .returned (.bool (keyOk key)) ∧ w' = w) := fun w => refIsKey_any ⟨key.toArray⟩ w (by show key.toArray.size ≤ maxLen; simpa using hm)
  clear hm
  unfold addRes at hr ⊢
  unfold maxLen at hmt
  by_cases hk : keyOk key = true
  · rw [hk] at CK
    rw [hk] at hr ⊢
    simp only [Bool.true_eq_false, if_false] at hr ⊢
    clear hk
    by_cases ht : 200 < text.length
    · rw [if_pos ht] at hr ⊢
      clear hr
      go_enter Tryz.func119, Tryz.ntmps119
      go_wp2_with (go_at_call 107; refine (CK.out _).mono ?_; rintro e w' ⟨rfl, hw⟩; rw [hw]; clear hw w')
      go_ret
      exact ⟨rfl, hRef, Turned.refl Z w⟩
    · rw [if_neg ht] at hr ⊢
      have CS : Hid (∀ w, Calls Tryz.prog 57 #[.string ⟨text.toArray⟩] w fun e w' => ∃ v, e = .returned v ∧ w'.ownsRow w.heap.size 9 1 v (toks text).length ((toks text).map strV) ∧ Below w.heap.size w w') := fun w => refSplit_any ⟨text.toArray⟩ w (by show text.toArray.size ≤ 1000000; simp; omega)
      have htl := toks_len_le text
      generalize toks text = T at CS hr htl ⊢
      by_cases h40 : 40 < T.length
      · rw [if_pos h40] at hr ⊢
        clear hr
        go_enter Tryz.func119, Tryz.ntmps119
        go_wp2_with (first
          | (go_at_call 107; refine (CK.out _).mono ?_; rintro e w' ⟨rfl, hw⟩; rw [hw]; clear hw w')
          | (go_at_call 57; refine (CS.out _).mono ?_; rintro e w1 ⟨tv, rfl, htv, hb1⟩; have hR1 := hRef.turned (Turned.ofBelow (Z := fun _ => False) hb1) (fun _ _ h => h); obtain ⟨gt, capt, aot, htve, _, _⟩ := ownsRow_shape htv; rw [htve]))
        go_ret
        exact ⟨rfl, hR1, Turned.ofBelow hb1⟩
      · rw [if_neg h40] at hr ⊢
        have hN : ds.length = 100 := by
          apply Classical.byContradiction
          intro h
          rw [if_neg h] at hr
          exact hr rfl
        rw [if_pos hN]
        clear hr
        obtain ⟨g1, cap1, ao1, rfl, _, hao1⟩ := ownsRow_shape hRef.own1
        have HR : Hid (RefOk w Z y ds (.slice ao1 ds.length cap1) v2 v3 v4 xs ws) := hRef
        have hNb : ((ds.length : Int) == 100) = true := by simp; omega
        clear hRef hN
        go_enter Tryz.func119, Tryz.ntmps119
        go_wp2_with (first
          | (go_at_call 107; refine (CK.out _).mono ?_; rintro e w' ⟨rfl, hw⟩; rw [hw]; clear hw w')
          | (go_at_call 57; refine (CS.out _).mono ?_; rintro e w1 ⟨tv, rfl, htv, hb1⟩; have hR1 := HR.out.turned (Turned.ofBelow (Z := fun _ => False) hb1) (fun _ _ h => h); have d0 := (cell_four hR1.eng).1; obtain ⟨gt, capt, aot, htve, _, _⟩ := ownsRow_shape htv; rw [htve]))
        go_ret
        exact ⟨rfl, hR1, Turned.ofBelow hb1⟩
  · have hkf : keyOk key = false := by simpa using hk
    rw [hkf] at CK
    rw [if_pos hkf]
    clear hk hr
    go_enter Tryz.func119, Tryz.ntmps119
    go_wp2_with (go_at_call 107; refine (CK.out _).mono ?_; rintro e w' ⟨rfl, hw⟩; rw [hw]; clear hw w')
    go_ret
    exact ⟨rfl, hRef, Turned.refl Z w⟩

theorem addRes_zero (key text : List UInt8) (N : Nat) (h : addRes key text N = 0) : keyOk key = true ∧ text.length ≤ 200 ∧ (toks text).length ≤ 40 ∧ N ≠ 100 := by
  unfold addRes at h
  split at h
  · omega
  · split at h
    · omega
    · split at h
      · omega
      · split at h
        · omega
        · rename_i h1 h2 h3 h4
          exact ⟨by simpa using h1, by omega, by omega, h4⟩

theorem refAdd_any (w : World) (Z : Nat → Prop) (y : Nat) (ds : List (List UInt8 × Bool)) (v1 v2 v3 v4 : Value) (xs : List Value) (ws : List Bool) (hRef : RefOk w Z y ds v1 v2 v3 v4 xs ws) (hl : ds.length ≤ 100) (key text : List UInt8) (hm : key.length ≤ maxLen) (hmt : text.length ≤ maxLen) :
    Calls Tryz.prog 119 #[.pointer (some ⟨y, 0, none⟩), .string ⟨key.toArray⟩, .string ⟨text.toArray⟩] w fun e w' => e = .returned (.int .i64 (addRes key text ds.length)) ∧ (∃ v1 v2 v3 xs ws', RefOk w' (grow Z w w') y (addDs ds key text) v1 v2 v3 v4 xs ws') ∧ Turned Z w w' := by
  by_cases hr : addRes key text ds.length = 0
  · obtain ⟨h1, h2, h3, h4⟩ := addRes_zero _ _ _ hr
    have hd : addDs ds key text = killK ds key ++ [(key, true)] := by simp [addDs, hr]
    rw [hr, hd]
    cases hf : findK ds key with
    | none =>
      have : killK ds key = ds := by simp [killK, hf]
      rw [this]
      exact refAdd_new w Z y ds v1 v2 v3 v4 xs ws hRef (by omega) key text h1 hm h2 h3 hf
    | some i =>
      have : killK ds key = killAt ds i := by simp [killK, hf]
      rw [this]
      exact refAdd_old w Z y ds v1 v2 v3 v4 xs ws hRef (by omega) key text h1 hm h2 h3 i hf
  · have hd : addDs ds key text = ds := by simp [addDs, hr]
    rw [hd]
    exact (refAdd_bad w Z y ds v1 v2 v3 v4 xs ws hRef key text hm hmt hr).mono fun e w' ⟨a, b, c⟩ => ⟨a, ⟨_, _, _, _, _, b.zone (fun b hb => Or.inl hb)⟩, c⟩
end Go.Proofs.YtaacjjhmojecnaaGreatDoor
