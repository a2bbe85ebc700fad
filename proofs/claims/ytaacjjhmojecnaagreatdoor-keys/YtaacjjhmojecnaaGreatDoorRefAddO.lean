/- The reference's engine: Add. -/
import Derived.Test.YtaacjjhmojecnaaGreatDoorRefPush
import Derived.Deep.DeepMust
import Derived.Deep.AppendLies
import Derived.Deep.RegionLaw
import Derived.Deep.DeepMust
namespace Go.Proofs.YtaacjjhmojecnaaGreatDoor
open Go.RowKit Go.ScT Go.Proofs


set_option maxHeartbeats 4000000 in
set_option maxRecDepth 1000000 in
theorem refAdd_old (w : World) (Z : Nat → Prop) (y : Nat) (ds : List (List UInt8 × Bool)) (v1 v2 v3 v4 : Value) (xs : List Value) (ws : List Bool) (hRef : RefOk w Z y ds v1 v2 v3 v4 xs ws) (hl : ds.length < 100) (key text : List UInt8)
    (hk : keyOk key = true) (hm : key.length ≤ maxLen) (ht : text.length ≤ 200) (h40 : (toks text).length ≤ 40) (i : Nat) (hf : findK ds key = some i) :
    Calls Tryz.prog 119 #[.pointer (some ⟨y, 0, none⟩), .string ⟨key.toArray⟩, .string ⟨text.toArray⟩] w fun e w' => e = .returned (.int .i64 0) ∧ (∃ v1 v2 v3 xs ws', RefOk w' (grow Z w w') y ((killAt ds i) ++ [(key, true)]) v1 v2 v3 v4 xs ws') ∧ Turned Z w w' := by
  have CK : Hid (∀ w, Calls Tryz.prog 107 #[.string ⟨key.toArray⟩] w fun e w' => e = .returned (.bool true) ∧ w' = w) := fun w => hk ▸ refIsKey_any ⟨key.toArray⟩ w (by show key.toArray.size ≤ maxLen; simpa using hm)
  have CS : Hid (∀ w, Calls Tryz.prog 57 #[.string ⟨text.toArray⟩] w fun e w' => ∃ v, e = .returned v ∧ w'.ownsRow w.heap.size 9 1 v (toks text).length ((toks text).map strV) ∧ Below w.heap.size w w') := fun w => refSplit_any ⟨text.toArray⟩ w (by show text.toArray.size ≤ 1000000; simp; omega)
  have CF : Hid (∀ w', RefOk w' Z y ds v1 v2 v3 v4 xs ws → Calls Tryz.prog 189 #[.pointer (some ⟨y, 0, none⟩), .string ⟨key.toArray⟩] w' fun e w'' => e = .returned (.int .i64 (i : Int)) ∧ ∃ q, w'' = w'.drewN q) := fun w' h' => by
    have := refFind_any w' Z y ds v1 v2 v3 v4 xs ws h' (by omega) key
    rw [hf] at this
    refine this.mono fun e w'' ⟨h1, h2⟩ => ⟨?_, h2⟩
    rw [h1]; simp [fInt]
  have hil := findK_lt ds key i hf
  have CD : Hid (∀ w', RefOk w' Z y ds v1 v2 v3 v4 xs ws → Calls Tryz.prog 190 #[.pointer (some ⟨y, 0, none⟩), .int .i64 (i : Int)] w' fun e w'' => e = .returned (.tuple #[]) ∧ (∃ ws', RefOk w'' Z y (killAt ds i) v1 v2 v3 v4 xs ws') ∧ Turned Z w' w'') := fun w' h' => refDrop_any w' Z y ds v1 v2 v3 v4 xs ws h' (by omega) i hil
  have hDl : (killAt ds i).length = ds.length := by simp [killAt]
  obtain ⟨D, hD⟩ : ∃ D, killAt ds i = D := ⟨_, rfl⟩
  rw [hD] at CD hDl ⊢
  clear hD
  obtain ⟨T, hT⟩ : ∃ T, toks text = T := ⟨_, rfl⟩
  rw [hT] at CS h40
  clear hk hm hf hT
  have ht2 : (text.length : Int) ≤ 200 := by omega
  obtain ⟨i77, hi77, ha0, ha1, ha2⟩ := info_parts info77
  obtain ⟨i4, hi4, bz0, bz1, bz2⟩ := info_parts info4
  obtain ⟨g1, cap1, ao1, rfl, _, hao1⟩ := ownsRow_shape hRef.own1
  obtain ⟨g2, cap2, ao2, rfl, _, hao2⟩ := ownsRow_shape hRef.own2
  obtain ⟨g3, cap3, ao3, rfl, _, hao3⟩ := ownsRow_shape hRef.own3
  have HR : Hid (RefOk w Z y ds (.slice ao1 ds.length cap1) (.slice ao2 ds.length cap2) (.slice ao3 ds.length cap3) v4 xs ws) := hRef
  obtain ⟨c0, c1, c2, c3⟩ := cell_four hRef.eng
  clear hRef hao1 hao2 hao3 c1 c2 c3
  generalize hn : ds.length = n at *
  go_enter Tryz.func119, Tryz.ntmps119
  go_wp2_with (first
    | (go_at_call 107; refine (CK.out _).mono ?_; rintro e w' ⟨rfl, hw⟩; rw [hw]; clear hw w')
    | (go_at_call 57; refine (CS.out _).mono ?_; rintro e w1 ⟨tv, rfl, htv, hb1⟩; have hR1 := HR.out.turned (Turned.ofBelow (Z := fun _ => False) hb1) (fun _ _ h => h); have d0 := (cell_four hR1.eng).1; obtain ⟨gt, capt, aot, htve, _, _⟩ := ownsRow_shape htv; rw [htve])
    | (go_at_call 189; refine (CF.out _ hR1).mono ?_; rintro e w' ⟨rfl, q, rfl⟩; have hRq := RefOk.same (w' := w1.drewN q) hR1 rfl)
    | (go_at_call 190; refine (CD.out _ hRq).mono ?_; rintro e w2 ⟨rfl, ⟨ws2, hR2⟩, hT2⟩; have e00 := (cell_four hR2.eng).1))
  have hTw : Turned Z w w2 := (Turned.ofBelow hb1).trans ((Turned.ofDrew (Turned.refl Z w1) q).trans hT2)
  have hy1 : y < w2.heap.size := lt_of_block hR2.eng
  have hO1 := hR2.own1
  have hO2 := hR2.own2
  have hO3 := hR2.own3
  rw [hDl] at hO1 hO2 hO3
  have hne1 : (Value.slice ao1 n cap1).ownBlock ≠ some y := fun e => by
    obtain ⟨cu, bq⟩ := ownsRow_block hO1 e
    exact tag_ne hR2.eng bq (by decide) rfl
  have f0 := frozen_four hR2.eng 0
  have d0' : ∀ o, (w2.drew.alloc o).cell? ⟨y, 0, none⟩ = some (.slice ao1 n cap1) := fun o => by rw [World.cell?_of_block (Below.heap_alloc _ _ _ hy1)]; exact e00
  have f0' : ∀ o, (w2.drew.alloc o).frozen? ⟨y, 0, none⟩ = false := fun o => by rw [World.frozen?_of_block (Below.heap_alloc _ _ _ hy1)]; exact f0
  have d0'' : ∀ o, (w2.alloc o).cell? ⟨y, 0, none⟩ = some (.slice ao1 n cap1) := fun o => by rw [World.cell?_of_block (Below.heap_alloc _ _ _ hy1)]; exact e00
  have f0'' : ∀ o, (w2.alloc o).frozen? ⟨y, 0, none⟩ = false := fun o => by rw [World.frozen?_of_block (Below.heap_alloc _ _ _ hy1)]; exact f0
  go_region_law
    ((refine step_append_lies _ (by rfl) _ _ _ (by rfl) 0 185 i77 _ 3 48 Tryz.underlying100 hi77 ha0 ha1 ha2 rfl (by omega) (.slice ao1 n cap1) n xs (by rfl) (by exact hO1.alloc _)
        ⟨w2.heap.size, 0, none⟩ 1 1 [.string ⟨key.toArray⟩, .int .i64 (IntKind.i64.wrap ((n : Int) + 1)), .slice aot T.length capt] (by rfl) (by rfl) (World.news_of_block (cs := #[.string ⟨key.toArray⟩, .int .i64 (IntKind.i64.wrap ((n : Int) + 1)), .slice aot T.length capt]) (t := 185) (fr := (0, 0)) (heap_alloc_new w2 _)) (by simp [Value.oneCell'])
        (by omega) (by unfold maxLen; omega) (by omega) (by omega) (w2.heap.size + 1) (by simp) ?_; intro gA capA w3 hownA hgrowA hatA hltA; have e0 := (hgrowA.cell_far ⟨y, 0, none⟩ (by simp; omega) (Ne.symm hne1)).trans (d0' _); have e1 := (hgrowA.frozen_far ⟨y, 0, none⟩ (by simp; omega) (Ne.symm hne1)).trans (f0' _)))
  all_goals
    obtain ⟨E3, O3, X3, T3, S3⟩ := push_gen (w := w2.drew) (j := 0) hR2.eng hgrowA hO1 hownA (by decide)
    have n12 : ∀ g, (Value.slice ao2 n cap2).ownBlock = some g → (Value.slice ao1 n cap1).ownBlock ≠ some g := fun g hg e => by
      obtain ⟨cu, bq⟩ := ownsRow_block hO2 hg
      obtain ⟨cu', bq'⟩ := ownsRow_block hO1 e
      exact tag_ne bq bq' (by decide) rfl
    have n13 : ∀ g, (Value.slice ao3 n cap3).ownBlock = some g → (Value.slice ao1 n cap1).ownBlock ≠ some g := fun g hg e => by
      obtain ⟨cu, bq⟩ := ownsRow_block hO3 hg
      obtain ⟨cu', bq'⟩ := ownsRow_block hO1 e
      exact tag_ne bq bq' (by decide) rfl
    have P2 := X3 _ _ _ _ _ hO2 (by decide) n12
    have P3 := X3 _ _ _ _ _ hO3 (by decide) n13
    have HD := @ref_done w w2 w2.drew w3
    generalize hW3 : w3.setCell ⟨y, 0, none⟩ (Value.slice (some ⟨gA, 0, none⟩) (n + 1) capA) = W3 at E3 O3 X3 T3 S3 P2 P3 ⊢
    have HW3 : Hid (w3.setCell ⟨y, 0, none⟩ (Value.slice (some ⟨gA, 0, none⟩) (n + 1) capA) = W3) := hW3
    clear hW3 T3 X3 HD
    have E3' : W3.heap[y]? = some (.cells #[.slice (some ⟨gA, 0, none⟩) (n + 1) capA, .slice ao2 n cap2, .slice ao3 n cap3, v4] 193 (0, 0)) := E3
    have k1 := (cell_four E3').2.1
    have hyW : y < W3.heap.size := lt_of_block E3'
    go_wp2_with (first
      | (at_builtin; refine wpList_append_lies _ rfl _ _ 190 rfl 0 4 i4 (.bool false) 1 1 Tryz.underlying190 hi4 bz0 bz1 bz2 rfl (by omega) (.slice ao2 n cap2) n _ rfl (P2.alloc _) ⟨W3.heap.size, 0, none⟩ 1 1 [.bool true] rfl rfl (cell_one_new _ _ _) (fun x hx => by simp at hx; subst hx; rfl) (by omega) (by unfold maxLen; omega) (by omega) (by omega) (W3.heap.size + 1) (by simp) ?_; intro gB capB w4 hownB hgrowB hatB hltB; have hneB : (Value.slice ao2 n cap2).ownBlock ≠ some y := (fun e => by obtain ⟨cu, bq⟩ := ownsRow_block P2 e; exact tag_ne E3' bq (by decide) rfl); have k4 := (hgrowB.cell_far ⟨y, 1, none⟩ (by simp; omega) (Ne.symm hneB)).trans (World.cell?_of_block (Below.heap_alloc _ _ _ hyW)); rw [k1] at k4; have k5 := ((hgrowB.frozen_far ⟨y, 1, none⟩ (by simp; omega) (Ne.symm hneB)).trans (World.frozen?_of_block (Below.heap_alloc _ _ _ hyW))).trans (frozen_four E3' 1); obtain ⟨E4, O4, X4, T4, S4⟩ := push_gen (j := 1) E3' hgrowB P2 hownB (by decide); have P4 := X4 _ _ _ _ _ P3 (by decide) (fun g hg e => hR2.apart g e hg); have E4' : (w4.setCell ⟨y, 1, none⟩ (Value.slice (some ⟨gB, 0, none⟩) (n + 1) capB)).heap[y]? = some (.cells #[.slice (some ⟨gA, 0, none⟩) (n + 1) capA, .slice (some ⟨gB, 0, none⟩) (n + 1) capB, .slice ao3 n cap3, v4] 193 (0, 0)) := E4; have k6 := (cell_four E4').2.2.1; have hyW4 := lt_of_block E4'; clear X4 T4)
      | (at_builtin; refine wpList_append_lies _ rfl _ _ 190 rfl 0 4 i4 (.bool false) 1 1 Tryz.underlying190 hi4 bz0 bz1 bz2 rfl (by omega) (.slice ao3 n cap3) n _ rfl (P4.alloc _) ⟨w4.heap.size, 0, none⟩ 1 1 [.bool true] rfl rfl (cell_one_set _ _ _ _ _) (fun x hx => by simp at hx; subst hx; rfl) (by omega) (by unfold maxLen; omega) (by omega) (by omega) (w4.heap.size + 1) (by simp) ?_; intro gC capC w5 hownC hgrowC hatC hltC; have hneC : (Value.slice ao3 n cap3).ownBlock ≠ some y := (fun e => by obtain ⟨cu, bq⟩ := ownsRow_block P4 e; exact tag_ne E4' bq (by decide) rfl); have k7 := (hgrowC.cell_far ⟨y, 2, none⟩ (by simp at hyW4 ⊢; omega) (Ne.symm hneC)).trans (World.cell?_of_block (Below.heap_alloc _ _ _ hyW4)); rw [k6] at k7; have k8 := ((hgrowC.frozen_far ⟨y, 2, none⟩ (by simp at hyW4 ⊢; omega) (Ne.symm hneC)).trans (World.frozen?_of_block (Below.heap_alloc _ _ _ hyW4))).trans (frozen_four E4' 2)))
    go_ret
    have hW3 := HW3.out
    subst hW3
    have FIN := ref_done (w := w) (w1 := w2) (wq := w2.drew) (key := key) hDl hR2 hTw rfl rfl rfl rfl hgrowA hownA hatA hltA hgrowB hownB hatB hltB hgrowC hownC (by rw [size_set]; exact hatC) hltC
    exact ⟨rfl, ⟨_, _, _, _, _, FIN.1⟩, FIN.2⟩
end Go.Proofs.YtaacjjhmojecnaaGreatDoor
