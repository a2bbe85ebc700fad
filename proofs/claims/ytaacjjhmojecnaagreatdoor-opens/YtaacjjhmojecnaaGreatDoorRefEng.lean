/- The reference's engine in memory, and the walks of find, drop, Count, Delete. -/
import Derived.Test.YtaacjjhmojecnaaGreatDoorIsKey
import Derived.Test.YtaacjjhmojecnaaGreatDoorRefLoop
namespace Go.ScT
/-- Documents in the order of their numbers: the key; is it live? -/
def findK : List (List UInt8 × Bool) → List UInt8 → Option Nat
  | [], _ => none
  | d :: r, key => if d.2 && d.1 == key then some 0 else (findK r key).map (· + 1)
def liveN (ds : List (List UInt8 × Bool)) : Nat := ds.countP (·.2)
def killAt (ds : List (List UInt8 × Bool)) (i : Nat) : List (List UInt8 × Bool) := ds.modify i fun d => (d.1, false)
def fInt (k : Nat) (o : Option Nat) : Int := match o with | some i => ((k + i : Nat) : Int) | none => -1
theorem fInt_succ (k : Nat) (o : Option Nat) : fInt k (o.map (· + 1)) = fInt (k + 1) o := by
  cases o with
  | none => rfl
  | some i => show ((k + (i + 1) : Nat) : Int) = ((k + 1 + i : Nat) : Int); omega
theorem findK_lt : ∀ (ds : List (List UInt8 × Bool)) (key : List UInt8) (i : Nat), findK ds key = some i → i < ds.length
  | [], _, _, h => by simp [findK] at h
  | d :: r, key, i, h => by
    simp only [findK] at h
    split at h
    · simp at h; subst h; simp
    · obtain ⟨j, hj, rfl⟩ := Option.map_eq_some_iff.1 h
      have := findK_lt r key j hj
      simp; omega
theorem findK_drop (ds : List (List UInt8 × Bool)) (key : List UInt8) (k : Nat) (d : List UInt8 × Bool) (h : ds[k]? = some d) :
    findK (ds.drop k) key = if d.2 && d.1 == key then some 0 else (findK (ds.drop (k + 1)) key).map (· + 1) := by
  obtain ⟨h1, h2⟩ := List.getElem?_eq_some_iff.1 h
  rw [List.drop_eq_getElem_cons h1, h2]
  rfl
end Go.ScT
namespace Go.Proofs.YtaacjjhmojecnaaGreatDoor
open Go.RowKit Go.ScT Go.Proofs

/-- All blocks but those of Z stand as they stood. -/
structure Turned (Z : Nat → Prop) (w w' : World) : Prop where
  os : w'.os = w.os
  tape : w'.tape = w.tape
  output : w'.output = w.output
  size : w.heap.size ≤ w'.heap.size
  block : ∀ b, b < w.heap.size → ¬ Z b → w'.heap[b]? = w.heap[b]?

theorem Turned.refl (Z : Nat → Prop) (w : World) : Turned Z w w := ⟨rfl, rfl, rfl, Nat.le_refl _, fun _ _ _ => rfl⟩
theorem Turned.trans {Z : Nat → Prop} {a b c : World} (h : Turned Z a b) (k : Turned Z b c) : Turned Z a c :=
  ⟨k.os.trans h.os, k.tape.trans h.tape, k.output.trans h.output, Nat.le_trans h.size k.size, fun i hi hz => (k.block i (Nat.lt_of_lt_of_le hi h.size) hz).trans (h.block i hi hz)⟩
theorem Turned.mono {Z Z' : Nat → Prop} {a b : World} (h : Turned Z a b) (hz : ∀ i, i < a.heap.size → Z i → Z' i) : Turned Z' a b :=
  ⟨h.os, h.tape, h.output, h.size, fun i hi hn => h.block i hi (fun hz' => hn (hz i hi hz'))⟩
theorem Turned.ofBelow {Z : Nat → Prop} {a b : World} (h : Below a.heap.size a b) : Turned Z a b := ⟨h.os, h.tape, h.output, h.size, fun i hi _ => h.block i hi⟩
theorem Turned.ofGrown {Z : Nat → Prop} {a b : World} {row : Option Nat} (h : a.grownBy b row) (hr : ∀ k, row = some k → k < a.heap.size → Z k) : Turned Z a b :=
  ⟨h.os, h.tape, h.output, h.size, fun i hi hn => h.block i hi (fun e => hn (hr i e.symm hi))⟩
theorem Turned.ofAlloc {Z : Nat → Prop} (w : World) (o : Obj) : Turned Z w (w.alloc o) := Turned.ofBelow ((Below.refl _ w).alloc (Nat.le_refl _) o)
theorem Turned.ofSet {Z : Nat → Prop} (w : World) (a : Addr) (v : Value) (hz : Z a.block) : Turned Z w (w.setCell a v) :=
  ⟨rfl, rfl, rfl, by simp [World.setCell], fun b _ hb => Below.heap_setCell _ _ _ _ (fun e => hb (e ▸ hz))⟩
theorem Turned.ofDrew {Z : Nat → Prop} {a b : World} (h : Turned Z a b) (q : Nat) : Turned Z a (b.drewN q) := ⟨h.os, h.tape, h.output, h.size, h.block⟩

/-- A row that a slice of ours owns stands while other blocks turn. -/
theorem ownsRow_turned {Z : Nat → Prop} {w w' : World} {base : Nat} {e : TypeId} {size : Nat} {v : Value} {n : Nat} {xs : List Value} (h : w.ownsRow base e size v n xs) (ht : Turned Z w w') (hz : ∀ g, v.ownBlock = some g → ¬ Z g) : w'.ownsRow base e size v n xs := by
  refine ⟨h.1, ?_⟩
  rcases h.2 with h0 | ⟨g, cap, cur, h1, h2, h3, h4⟩
  · exact Or.inl h0
  · refine Or.inr ⟨g, cap, cur, h1, h2, ?_, h4⟩
    rw [ht.block g (lt_of_block h3) (hz g (by rw [h1]; rfl))]
    exact h3

/-- A slice's length and where it lies. -/
theorem ownsRow_shape {w : World} {base : Nat} {e : TypeId} {size : Nat} {v : Value} {n : Nat} {xs : List Value} (h : w.ownsRow base e size v n xs) :
    ∃ (g cap : Nat) (ao : Option Addr), v = .slice ao n cap ∧ v.ownBlock = ao.map (·.block) ∧ (0 < n → ao = some ⟨g, 0, none⟩) := by
  rcases h.2 with ⟨h1, h2⟩ | ⟨g, cap, cur, h1, _⟩
  · exact ⟨0, 0, none, by rw [h1, h2], by rw [h1]; rfl, fun h => by omega⟩
  · exact ⟨g, cap, some ⟨g, 0, none⟩, h1, by rw [h1]; rfl, fun _ => rfl⟩

theorem ret_i64 {a b : Int} (h : a = b) : Ending.returned (.int .i64 a) = .returned (.int .i64 b) := by rw [h]

/-- The reference's engine, in block y: its documents' keys and whether each is live. -/
structure RefOk (w : World) (Z : Nat → Prop) (y : Nat) (ds : List (List UInt8 × Bool)) (v1 v2 v3 v4 : Value) (xs : List Value) (ws : List Bool) : Prop where
  eng : w.heap[y]? = some (.cells #[v1, v2, v3, v4] 193 (0, 0))
  own1 : w.ownsRow 0 185 3 v1 ds.length xs
  keys : ∀ i d, ds[i]? = some d → xs[i * 3]? = some (.string ⟨d.1.toArray⟩)
  own2 : w.ownsRow 0 4 1 v2 ds.length (ds.map fun d => .bool d.2)
  own3 : w.ownsRow 0 4 1 v3 ds.length (ws.map .bool)
  zy : Z y
  z1 : ∀ g, v1.ownBlock = some g → Z g
  z2 : ∀ g, v2.ownBlock = some g → Z g
  z3 : ∀ g, v3.ownBlock = some g → Z g
  apart : ∀ g, v2.ownBlock = some g → v3.ownBlock ≠ some g

theorem cell_four {w : World} {y : Nat} {v1 v2 v3 v4 : Value} {t : TypeId} (h : w.heap[y]? = some (.cells #[v1, v2, v3, v4] t (0, 0))) :
    w.cell? ⟨y, 0, none⟩ = some v1 ∧ w.cell? ⟨y, 1, none⟩ = some v2 ∧ w.cell? ⟨y, 2, none⟩ = some v3 ∧ w.cell? ⟨y, 3, none⟩ = some v4 := by
  simp [World.cell?, h]
theorem frozen_four {w : World} {y : Nat} {v1 v2 v3 v4 : Value} {t : TypeId} (h : w.heap[y]? = some (.cells #[v1, v2, v3, v4] t (0, 0))) (j : Nat) : w.frozen? ⟨y, j, none⟩ = false := by
  simp [World.frozen?, h]

set_option maxHeartbeats 1000000 in
set_option maxRecDepth 1000000 in
theorem refCount_any (w : World) (Z : Nat → Prop) (y : Nat) (ds : List (List UInt8 × Bool)) (v1 v2 v3 v4 : Value) (xs : List Value) (ws : List Bool) (h : RefOk w Z y ds v1 v2 v3 v4 xs ws) (hl : ds.length ≤ 100) :
    Calls Tryz.prog 121 #[.pointer (some ⟨y, 0, none⟩)] w fun e w' => e = .returned (.int .i64 (liveN ds : Int)) ∧ ∃ q, w' = w.drewN q := by
  obtain ⟨c0, c1, c2, c3⟩ := cell_four h.eng
  obtain ⟨g, cap, ao, hv, _, hao⟩ := ownsRow_shape h.own2
  have HC : Hid (∀ (j : Nat) (d : List UInt8 × Bool), ds[j]? = some d → ao = some ⟨g, 0, none⟩ ∧ w.cell? ⟨g, j, none⟩ = some (.bool d.2)) := by
    intro j d hj
    have hlt := (List.getElem?_eq_some_iff.1 hj).1
    have h1 := hao (by omega)
    have ho := h.own2
    rw [hv, h1] at ho
    refine ⟨h1, ?_⟩
    rw [ho.cellAt j (by omega), List.getElem?_map, hj]
    rfl
  rw [hv] at c1
  clear h hv hao c0 c2 c3
  go_enter Tryz.func121, Tryz.ntmps121
  go_wp2
  go_loopw [3, 4] (fun s3 s4 wr => ∃ k : Nat, k ≤ ds.length ∧ s4 = .int .i64 (k : Int) ∧ s3 = .int .i64 (liveN (ds.take k) : Int) ∧ ∃ q, wr = w.drewN q) (fun _ s4 _ => ds.length - (intOf s4).toNat)
  case atStart => exact ⟨0, by omega, rfl, rfl, 0, rfl⟩
  case round =>
    obtain ⟨k, hk, rfl, rfl, q, rfl⟩ := hrel
    by_cases hlt : k < ds.length
    · obtain ⟨d, hd⟩ : ∃ d, ds[k]? = some d := ⟨_, List.getElem?_eq_getElem hlt⟩
      obtain ⟨rfl, hc⟩ := HC.out k d hd
      have hle : liveN (ds.take k) ≤ k := by
        have := List.countP_le_length (p := fun d : List UInt8 × Bool => d.2) (l := ds.take k)
        unfold liveN
        simp at this ⊢
        omega
      have HS : Hid (liveN (ds.take (k + 1)) = liveN (ds.take k) + if d.2 then 1 else 0) := show _ = _ by
        unfold liveN
        rw [List.take_add_one, hd, List.countP_append]
        simp [List.countP_cons]
      clear hd
      by_cases hd2 : d.2 = true
      · go_wp2
        go_roundw
        case rel => exact ⟨k + 1, by omega, by go_num, by rw [HS.out, if_pos hd2]; go_num, _, rfl⟩
        case measure => simp [intOf]; omega
      · have hdf : d.2 = false := by simpa using hd2
        clear hd2
        go_wp2
        go_roundw
        case rel => exact ⟨k + 1, by omega, by go_num, by rw [HS.out, hdf]; rfl, _, rfl⟩
        case measure => simp [intOf]; omega
    · have hkz : ¬ ((k : Int) < (ds.length : Int)) := by omega
      have HE : Hid (liveN (ds.take k) = liveN ds) := show _ = _ by rw [List.take_of_length_le (by omega)]
      go_wp2
      go_ret
      exact ⟨by rw [← HE.out]; rfl, _, rfl⟩

set_option maxHeartbeats 1000000 in
set_option maxRecDepth 1000000 in
theorem refFind_any (w : World) (Z : Nat → Prop) (y : Nat) (ds : List (List UInt8 × Bool)) (v1 v2 v3 v4 : Value) (xs : List Value) (ws : List Bool) (h : RefOk w Z y ds v1 v2 v3 v4 xs ws) (hl : ds.length ≤ 100) (key : List UInt8) :
    Calls Tryz.prog 189 #[.pointer (some ⟨y, 0, none⟩), .string ⟨key.toArray⟩] w fun e w' => e = .returned (.int .i64 (fInt 0 (findK ds key))) ∧ ∃ q, w' = w.drewN q := by
  obtain ⟨c0, c1, c2, c3⟩ := cell_four h.eng
  obtain ⟨g, cap, ao, hv, _, hao⟩ := ownsRow_shape h.own2
  obtain ⟨g1, cap1, ao1, hv1, _, hao1⟩ := ownsRow_shape h.own1
  have HC : Hid (∀ (j : Nat) (d : List UInt8 × Bool), ds[j]? = some d → ao = some ⟨g, 0, none⟩ ∧ w.cell? ⟨g, j, none⟩ = some (.bool d.2) ∧ ao1 = some ⟨g1, 0, none⟩ ∧ w.cell? ⟨g1, j * 3, none⟩ = some (.string ⟨d.1.toArray⟩)) := by
    intro j d hj
    have hlt := (List.getElem?_eq_some_iff.1 hj).1
    have h1 := hao (by omega)
    have h2 := hao1 (by omega)
    have ho := h.own2
    rw [hv, h1] at ho
    have ho1 := h.own1
    rw [hv1, h2] at ho1
    refine ⟨h1, ?_, h2, ?_⟩
    · rw [ho.cellAt j (by omega), List.getElem?_map, hj]
      rfl
    · rw [ho1.cellAt (j * 3) (by omega), h.keys j d hj]
  rw [hv] at c1
  rw [hv1] at c0
  clear h hv hao hv1 hao1 c2 c3
  obtain ⟨R, hR⟩ : ∃ R : Int, (fInt 0 (findK ds key)) = R := ⟨_, rfl⟩
  rw [hR]
  have HR : Hid (fInt 0 (findK (ds.drop 0) key) = R) := by
    show _ = _
    rw [← hR, List.drop_zero]
  clear hR
  go_enter Tryz.func189, Tryz.ntmps189
  go_wp2
  go_loopw [5] (fun s5 wr => ∃ k : Nat, k ≤ ds.length ∧ s5 = .int .i64 (k : Int) ∧ Hid (fInt k (findK (ds.drop k) key) = R) ∧ ∃ q, wr = w.drewN q) (fun s5 _ => ds.length - (intOf s5).toNat)
  case atStart => exact ⟨0, by omega, rfl, HR, 0, rfl⟩
  case round =>
    obtain ⟨k, hk, rfl, HK, q, rfl⟩ := hrel
    by_cases hlt : k < ds.length
    · obtain ⟨d, hd⟩ : ∃ d, ds[k]? = some d := ⟨_, List.getElem?_eq_getElem hlt⟩
      obtain ⟨rfl, hc, rfl, hc1⟩ := HC.out k d hd
      have HS : Hid (findK (ds.drop k) key = if d.2 && d.1 == key then some 0 else (findK (ds.drop (k + 1)) key).map (· + 1)) := findK_drop ds key k d hd
      clear hd
      by_cases hd2 : d.2 = true
      · by_cases hke : d.1 = key
        · have hkb : (d.1 == key) = true := by simp [hke]
          have HE : Hid ((k : Int) = R) := show _ = _ by
            rw [← HK.out, HS.out, hd2, hkb]; rfl
          go_wp2
          go_ret
          exact ⟨ret_i64 HE.out, _, rfl⟩
        · have hkb : (d.1 == key) = false := beq_eq_false_iff_ne.2 hke
          clear hke
          have HE : Hid (fInt (k + 1) (findK (ds.drop (k + 1)) key) = R) := show _ = _ by
            rw [← HK.out, HS.out, hd2, hkb]
            exact (fInt_succ k _).symm
          go_wp2
          go_roundw
          case rel => exact ⟨k + 1, by omega, by go_num, HE, _, rfl⟩
          case measure => simp [intOf]; omega
      · have hdf : d.2 = false := by simpa using hd2
        clear hd2
        have HE : Hid (fInt (k + 1) (findK (ds.drop (k + 1)) key) = R) := show _ = _ by
          rw [← HK.out, HS.out, hdf]
          exact (fInt_succ k _).symm
        go_wp2
        go_roundw
        case rel => exact ⟨k + 1, by omega, by go_num, HE, _, rfl⟩
        case measure => simp [intOf]; omega
    · have hkz : ¬ ((k : Int) < (ds.length : Int)) := by omega
      have HE : Hid ((-1 : Int) = R) := show _ = _ by
        rw [← HK.out, List.drop_of_length_le (by omega)]
        rfl
      go_wp2
      go_ret
      exact ⟨ret_i64 HE.out, _, rfl⟩
end Go.Proofs.YtaacjjhmojecnaaGreatDoor
