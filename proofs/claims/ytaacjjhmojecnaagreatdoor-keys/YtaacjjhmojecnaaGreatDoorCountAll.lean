/- The walk of countOne, whatever the row. -/
import Derived.Test.YtaacjjhmojecnaaGreatDoorCountOne
namespace Go.Proofs.YtaacjjhmojecnaaGreatDoor
open Go.RowKit Go.ScT Go.Proofs

set_option maxHeartbeats 1000000 in
theorem countOne_same (w : World) (T : PT) (m : Nat) (z : Int) (hR : RowsOk w T) (g k cap t : Nat) (hT : T g = some (cap, t)) (hn : k + 1 ≤ t) (hnm : k + 1 ≤ m) (hx : w.cell? ⟨g, k * 2, none⟩ = some (.int .i64 z)) :
    Calls Tryz.prog 181 #[.slice (some ⟨g, 0, none⟩) (k + 1) cap, .int .i64 z] w (Counted w T m) := by
  have hrow := hR g cap t hT
  have hcapm := hrow.cap
  unfold maxLen at hcapm
  have htc := hrow.le
  obtain ⟨c, hc⟩ := hrow.ints (k * 2 + 1) (by omega)
  have hf := hrow.free (k * 2 + 1)
  have fin : Hid (∀ y, Counted w T m (.returned (.slice (some ⟨g, 0, none⟩) (k + 1) cap)) (w.setCell ⟨g, k * 2 + 1, none⟩ (.int .i64 y))) := fun y =>
    ⟨_, T, rfl, hR.setInt _ _ y, placeB_mk hT hn hnm, Ext.refl T, fun g x hg => Or.inl ⟨x, hg⟩, Turned.ofSet w _ _ ⟨_, hT⟩⟩
  clear hrow hR
  have hk1 : (0 : Int) ≤ (k : Int) := by omega
  have hzz : (z == z) = true := by simp
  go_enter Tryz.func181, Tryz.ntmps181
  go_wp2
  go_ret
  exact fin.out _

theorem countOne_any (w : World) (T : PT) (m : Nat) (v : Value) (z : Int) (hR : RowsOk w T) (hv : placeB T m v = true) (hm : m + 1 ≤ 100000) :
    Calls Tryz.prog 181 #[v, .int .i64 z] w (Counted w T (m + 1)) := by
  rcases placeB_inv hv with rfl | ⟨g, n, cap, t, rfl, hT, h1, h2⟩
  · exact countOne_nil w T (m + 1) z hR (by omega)
  · by_cases h0 : n = 0
    · exact countOne_app w T (m + 1) z hR g n cap t hT h1 (by omega) hm (Or.inl h0)
    · obtain ⟨x, hx⟩ := (hR g cap t hT).ints ((n - 1) * 2) (by omega)
      by_cases hxz : x = z
      · subst hxz
        obtain ⟨k, rfl⟩ : ∃ k, n = k + 1 := ⟨n - 1, by omega⟩
        exact countOne_same w T (m + 1) x hR g k cap t hT h1 (by omega) (by simpa using hx)
      · exact countOne_app w T (m + 1) z hR g n cap t hT h1 (by omega) hm (Or.inr ⟨x, hx, by simpa using hxz⟩)
end Go.Proofs.YtaacjjhmojecnaaGreatDoor
