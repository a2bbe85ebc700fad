/- errnoOf: the number that scout.Open answers for an error of the reader's. -/
import Derived.Test.YtaacjjhmojecnaaGreatDoorErrAs
namespace Go.Proofs.YtaacjjhmojecnaaGreatDoor
open Go.RowKit Go.Extern.Stop Go.Stop Go.Extern Go.Proofs Go.ScT

theorem belowA (w : World) (o : Obj) : Below w.heap.size w (w.alloc o) := (Below.refl _ w).alloc (Nat.le_refl _) o
theorem cell_two {w : World} {y : Nat} {v1 v2 : Value} {t : TypeId} (h : w.heap[y]? = some (.cells #[v1, v2] t (0, 0))) : w.cell? ⟨y, 1, none⟩ = some v2 := by
  simp [World.cell?, h]
/-- errors.Is of a chain at ErrLong. -/
theorem is_chain {w : World} {A : Nat → Addr} {base n : Nat} {v : Value} (hS : Sent w A base) (h : Chain w A n v) (hn : n ≤ 3) :
    Calls Tryz.prog 72 #[v, .iface 404 (.pointer (some (A 0)))] w fun e w' => e = .returned (.bool false) ∧ w' = w := by
  obtain ⟨_, cb, tb, hb⟩ := hS.obj 0 (by simp)
  rcases h.two with ⟨_, _, _, rfl, hq, hk, h0, rfl⟩ | ⟨_, _, _, _, rfl, h1, hv1, rfl⟩
  · obtain ⟨_, ca, ta, ha⟩ := hS.obj _ hk
    exact is_chain0 _ _ _ ca cb ta tb w (cell_two hq) (hS.ne _ hk h0) ha hb
  · rcases hv1.two with ⟨_, _, _, rfl, hq, hk, h0, rfl⟩ | ⟨_, _, _, _, rfl, h2, hv2, rfl⟩
    · obtain ⟨_, ca, ta, ha⟩ := hS.obj _ hk
      exact is_chain1 _ _ _ _ ca cb ta tb w (cell_two h1) (cell_two hq) (hS.ne _ hk h0) ha hb
    · rcases hv2.two with ⟨_, _, _, rfl, hq, hk, h0, rfl⟩ | ⟨_, _, _, _, rfl, h3, hv3, rfl⟩
      · obtain ⟨_, ca, ta, ha⟩ := hS.obj _ hk
        exact is_chain2 _ _ _ _ _ ca cb ta tb w (cell_two h1) (cell_two h2) (cell_two hq) (hS.ne _ hk h0) ha hb
      · rcases hv3.two with ⟨_, _, _, rfl, hq, hk, h0, rfl⟩ | ⟨_, _, _, _, rfl, h4, hv4, rfl⟩
        · obtain ⟨_, ca, ta, ha⟩ := hS.obj _ hk
          exact is_chain3 _ _ _ _ _ _ ca cb ta tb w (cell_two h1) (cell_two h2) (cell_two h3) (cell_two hq) (hS.ne _ hk h0) ha hb
        · omega
theorem as_turned {w : World} {t : Addr} {o1 o2 o3 o4 : Obj} {v : Value} : Turned (fun i => i = t.block) w (((((w.alloc o1).alloc o2).alloc o3).alloc o4).setCell t v) :=
  ((((Turned.ofAlloc _ _).trans (Turned.ofAlloc _ _)).trans (Turned.ofAlloc _ _)).trans (Turned.ofAlloc _ _)).trans (Turned.ofSet _ _ _ rfl)
/-- errors.As of a chain at the variable t. -/
theorem as_chain {w : World} {A : Nat → Addr} {base n : Nat} {v old : Value} {t : Addr} (hS : Sent w A base) (h : Chain w A n v) (hn : n ≤ 3) (ht : w.cell? t = some old) (hf : w.frozen? t = false) :
    Calls Tryz.prog 73 #[v, .iface 119 (.pointer (some t))] w fun e w' => e = .returned (.bool true) ∧ Turned (fun i => i = t.block) w w' := by
  have hg := hS.ety
  rcases h.two with ⟨_, _, _, rfl, hq, hk, h0, rfl⟩ | ⟨_, _, _, _, rfl, h1, hv1, rfl⟩
  · exact (as_chain0 _ t old w hg ht hf).mono fun e w' h => ⟨h.1, h.2 ▸ as_turned⟩
  · rcases hv1.two with ⟨_, _, _, rfl, hq, hk, h0, rfl⟩ | ⟨_, _, _, _, rfl, h2, hv2, rfl⟩
    · exact (as_chain1 _ _ t old w (cell_two h1) hg ht hf).mono fun e w' h => ⟨h.1, h.2 ▸ as_turned⟩
    · rcases hv2.two with ⟨_, _, _, rfl, hq, hk, h0, rfl⟩ | ⟨_, _, _, _, rfl, h3, hv3, rfl⟩
      · exact (as_chain2 _ _ _ t old w (cell_two h1) (cell_two h2) hg ht hf).mono fun e w' h => ⟨h.1, h.2 ▸ as_turned⟩
      · rcases hv3.two with ⟨_, _, _, rfl, hq, hk, h0, rfl⟩ | ⟨_, _, _, _, rfl, h4, hv4, rfl⟩
        · exact (as_chain3 _ _ _ _ t old w (cell_two h1) (cell_two h2) (cell_two h3) hg ht hf).mono fun e w' h => ⟨h.1, h.2 ▸ as_turned⟩
        · omega

set_option maxHeartbeats 1000000 in
set_option maxRecDepth 1000000 in
theorem errno_nil {w : World} {A : Nat → Addr} {base : Nat} (hS : Sent w A base) :
    Calls Tryz.prog 42 #[.nilIface] w fun e w' => e = .returned (.int .i64 0) ∧ Turned (fun _ => False) w w' := by
  have g0 := hS.cell 0 (by simp)
  have hS1 := hS.below (belowA w (.cells #[.pointer none] 116))
  have g1 := hS1.cell 0 (by simp)
  have C1 := hid (is_nil (A 0) (w.alloc (.cells #[.pointer none] 116)))
  have C2 := hid (as_nil (.iface 119 (.pointer (some ⟨w.heap.size, 0, none⟩))) (w.alloc (.cells #[.pointer none] 116)))
  clear hS hS1
  go_enter Tryz.func42, Tryz.ntmps42
  go_wp2_with (first | (go_at_call 72; refine C1.out.mono ?_; rintro e w1 ⟨rfl, rfl⟩) | (go_at_call 73; refine C2.out.mono ?_; rintro e w1 ⟨rfl, rfl⟩))
  go_ret
  exact ⟨rfl, Turned.ofAlloc w _⟩
set_option maxHeartbeats 1000000 in
set_option maxRecDepth 1000000 in
theorem errno_long {w : World} {A : Nat → Addr} {base : Nat} (hS : Sent w A base) :
    Calls Tryz.prog 42 #[.iface 404 (.pointer (some (A 0)))] w fun e w' => e = .returned (.int .i64 2) ∧ Turned (fun _ => False) w w' := by
  have hS1 := hS.below (belowA w (.cells #[.pointer none] 116))
  have g1 := hS1.cell 0 (by simp)
  have C1 := hid (is_same (A 0) (w.alloc (.cells #[.pointer none] 116)))
  clear hS hS1
  go_enter Tryz.func42, Tryz.ntmps42
  go_wp2_with (first | (go_at_call 72; refine C1.out.mono ?_; rintro e w1 ⟨rfl, rfl⟩))
  go_ret
  exact ⟨rfl, Turned.ofAlloc w _⟩
set_option maxHeartbeats 1000000 in
set_option maxRecDepth 1000000 in
theorem errno_chain {w : World} {A : Nat → Addr} {base n : Nat} {v : Value} (hS : Sent w A base) (h : Chain w A n v) (hn : n ≤ 3) :
    Calls Tryz.prog 42 #[v] w fun e w' => e = .returned (.int .i64 8) ∧ Turned (fun _ => False) w w' := by
  have hB := belowA w (.cells #[.pointer none] 116)
  have hS1 := hS.below hB
  have g1 := hS1.cell 0 (by simp)
  have C1 := hid (is_chain hS1 (h.kept hB) hn)
  have C2 := hid (as_chain (t := ⟨w.heap.size, 0, none⟩) (old := .pointer none) hS1 (h.kept hB) hn (by simp) (by simp only [World.frozen?, heap_alloc_new]; rfl))
  obtain ⟨u, x, rfl⟩ := h.iface
  clear hS hS1 h
  go_enter Tryz.func42, Tryz.ntmps42
  go_wp2_with (first | (go_at_call 72; refine C1.out.mono ?_; rintro e w1 ⟨rfl, rfl⟩) | (go_at_call 73; refine C2.out.mono ?_; rintro e w1 ⟨rfl, hT⟩))
  go_ret
  refine ⟨rfl, ?_⟩
  exact ((Turned.ofAlloc (Z := fun i => i = w.heap.size) w _).trans hT).mono (fun i hi (e : i = w.heap.size) => by omega)
end Go.Proofs.YtaacjjhmojecnaaGreatDoor
