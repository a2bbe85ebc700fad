/- The walk of tokens.fromRun: what a run of letters comes to. -/
import Derived.Test.YtaacjjhmojecnaaGreatDoorLeaf
import Derived.Test.YtaacjjhmojecnaaGreatDoorLeaf2
import Derived.Test.YtaacjjhmojecnaaGreatDoorShelf
import Derived.BigCall
namespace Go.Proofs.YtaacjjhmojecnaaGreatDoor
open Go.RowKit Go.ScT Go.Proofs

theorem ret_str {a b : List UInt8} (h : a = b) : Ending.returned (.string ⟨a.toArray⟩) = .returned (.string ⟨b.toArray⟩) := by rw [h]
theorem runF_end (f n : Nat) : runF f [] n = [] := by cases f <;> simp [runF]
theorem runF_ten (f : Nat) (l : List UInt8) : runF f l 10 = [] := by
  cases f with
  | zero => rfl
  | succ f => simp [runF]
theorem runF_step (s : ByteArray) (f pos k : Nat) (hp : pos < s.size) (hk : k ≠ 10) :
    runF (f + 1) (s.data.toList.drop pos) k = Lib.encodeRune (smR (Utf8.decode s pos).1) ++ runF f (s.data.toList.drop (pos + (Utf8.decode s pos).2)) (k + 1) := by
  have hne : s.data.toList.drop pos ≠ [] := by
    intro h
    have := congrArg List.length h
    simp at this
    omega
  simp only [runF, if_neg hne, if_neg hk, Lib.decodeL_drop, List.drop_drop]

set_option maxHeartbeats 1000000 in
set_option maxRecDepth 1000000 in
theorem fromRun_any (s : ByteArray) (w : World) :
    Calls Tryz.prog 96 #[.string s] w fun e w' => e = .returned (.string ⟨(fromRun s.data.toList).toArray⟩) ∧ Below w.heap.size w w' := by
  go_enter Tryz.func96, Tryz.ntmps96
  go_wp2
  go_loopw [4] (fun n wr => ∃ (pos fuel k : Nat) (acc : List UInt8), n = .int .i64 (k : Int) ∧ k ≤ 10 ∧ Lib.IsBuilderF 161 5 w.heap.size w.heap.size (Lib.byteCells acc) wr ∧ wr.heap[w.heap.size + 1]? = some (.stringIter s pos) ∧ Below w.heap.size w wr ∧ Hid (acc ++ runF fuel (s.data.toList.drop pos) k = fromRun s.data.toList) ∧ s.size ≤ pos + fuel ∧ acc.length ≤ 4 * k) (fun _ wr => s.size - wr.iterPos (w.heap.size + 1))
  case atStart =>
    refine ⟨0, s.size, 0, [], rfl, by omega, (Lib.IsBuilderF.of (Lib.fresh_isBuilder 161 5 w)).alloc _, ?_, ((Below.refl _ w).alloc (Nat.le_refl _) _).alloc (by simp) _, ?_, by omega, by simp⟩
    · have := World.iter_heap (w.alloc (.cells #[.pointer none, .slice none 0 0] 161)) s 0
      simpa using this
    · show _ = _
      simp [fromRun]
  case round =>
    obtain ⟨pos, fuel, k, acc, rfl, hk, hI, hit, hbw, hacc, hfu, hal⟩ := hrel
    have hsz : w.heap.size + 1 < wr.heap.size := (Array.getElem?_eq_some_iff.1 hit).1
    by_cases hp : pos < s.size
    · have hnx : ∀ ty, (Instr.next (.pointer (some ⟨w.heap.size + 1, 0, none⟩)) true ty).run Tryz.prog wr = _ := fun ty => Lib.run_next_any_at wr (w.heap.size + 1) s pos ty hit hp
      have hwd := Lib.width_pos s pos
      have hd1 := Lib.rune_le s pos
      have hI2 := hI.iterAt hit (pos + (Utf8.decode s pos).2)
      have hit2 := Lib.iterAt_heap wr (w.heap.size + 1) s pos (pos + (Utf8.decode s pos).2) hit
      have hbw2 := Lib.below_iterAt hbw (k := w.heap.size + 1) (by omega) s (pos + (Utf8.decode s pos).2)
      have hsz2 : w.heap.size ≤ (wr.iterAt (w.heap.size + 1) s (pos + (Utf8.decode s pos).2)).heap.size := by rw [Lib.iterAt_size]; omega
      obtain ⟨f, rfl⟩ : ∃ f, fuel = f + 1 := ⟨fuel - 1, by omega⟩
      by_cases h10 : k = 10
      · subst h10
        have hfin : Hid (acc = fromRun s.data.toList) := by
          have := hacc.out
          rw [runF_ten, List.append_nil] at this
          exact this
        clear hacc
        go_wp2_with (go_at_call 91; refine (Tryz.Builder_String_any_k w.heap.size w.heap.size acc _ hI2 hsz2).mono ?_)
        rintro e W1 ⟨rfl, _, b1, _⟩
        go_wp2
        go_ret
        exact ⟨ret_str hfin.out, hbw2.trans b1⟩
      · have hk9 : k < 10 := by omega
        have hkb : ((k : Int) == 10) = false := beq_eq_false_iff_ne.2 (by omega)
        have hst : Hid (runF (f + 1) (s.data.toList.drop pos) k = _) := runF_step s f pos k hp h10
        clear h10
        go_wp2_with (first
          | (go_at_call 179; refine (small_any _ hd1 _).mono ?_; rintro e w' ⟨rfl, rfl⟩)
          | (go_at_call 178; refine (Tryz.Builder_WriteRune_k w.heap.size w.heap.size _ _ (by omega) (by unfold smR; split <;> omega) _ hI2 (by rw [Lib.byteCells_length]; omega) hsz2).mono ?_; rintro e W1 ⟨rfl, h1, b1, k1⟩))
        go_roundw
        case rel =>
          have hl4 := Lib.runeCells_le (smR (Utf8.decode s pos).1 : Int)
          rw [Lib.runeCells_length] at hl4
          refine ⟨pos + (Utf8.decode s pos).2, f, k + 1, acc ++ Lib.encodeRune (smR (Utf8.decode s pos).1), by go_num, by omega, ?_, k1.iter hit2 (by omega), hbw2.trans b1, ?_, by omega, by simp; omega⟩
          · rw [Lib.byteCells_append, Lib.byteCells_encodeRune]; exact Or.inr h1
          · show _ = _
            rw [← hacc.out, hst.out, List.append_assoc]
        case measure =>
          simp only [World.iterPos, k1.iter hit2 (by omega), hit]
          omega
    · have hnx : ∀ ty, (Instr.next (.pointer (some ⟨w.heap.size + 1, 0, none⟩)) true ty).run Tryz.prog wr = _ := fun ty => Lib.run_next_end_at wr (w.heap.size + 1) s pos ty hit hp
      have hfin : Hid (acc = fromRun s.data.toList) := by
        have := hacc.out
        rw [List.drop_of_length_le (by simp; omega), runF_end, List.append_nil] at this
        exact this
      clear hacc
      go_wp2_with (go_at_call 91; refine (Tryz.Builder_String_any_k w.heap.size w.heap.size acc _ hI (by omega)).mono ?_)
      rintro e W1 ⟨rfl, _, b1, _⟩
      go_wp2
      go_ret
      exact ⟨ret_str hfin.out, hbw.trans b1⟩
end Go.Proofs.YtaacjjhmojecnaaGreatDoor
