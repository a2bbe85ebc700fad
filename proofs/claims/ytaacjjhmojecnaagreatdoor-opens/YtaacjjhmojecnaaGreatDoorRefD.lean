/- Texts joined: RefCould, RefW6, RefW7. -/
import Derived.Test.YtaacjjhmojecnaaGreatDoorRefRead
import Derived.Test.YtaacjjhmojecnaaGreatDoorRefB
import Derived.Test.YtaacjjhmojecnaaGreatDoorRefW5
namespace Go.ScT
/-- A document's place among those ahead of it. -/
def Fits (l : List DocR) (j : Nat) : Prop := ∃ d, l[j]? = some d ∧ DocOk d ∧ ∀ (k : Nat) (e : DocR), k < j → l[k]? = some e → e.1 ≠ d.1 ∧ e.2.1 < d.2.1
theorem could_iff {l : List DocR} : Could l ↔ 1 ≤ l.length ∧ l.length ≤ 100 ∧ ∀ j, j < l.length → Fits l j := by
  constructor
  · intro h
    refine ⟨h.some_, h.most, fun j hj => ⟨l[j], List.getElem?_eq_getElem hj, h.doc _ (List.getElem_mem hj), ?_⟩⟩
    intro k e hk he
    obtain ⟨hk2, rfl⟩ := List.getElem?_eq_some_iff.1 he
    exact List.pairwise_iff_getElem.1 h.apart k j hk2 hj hk
  · rintro ⟨h1, h2, h3⟩
    refine ⟨h1, h2, ?_, ?_⟩
    · intro d hd
      obtain ⟨j, hj⟩ := List.mem_iff_getElem?.1 hd
      obtain ⟨d', hd', ok, _⟩ := h3 j (List.getElem?_eq_some_iff.1 hj).1
      rw [hj] at hd'
      cases hd'
      exact ok
    · rw [List.pairwise_iff_getElem]
      intro i j hi hj hij
      obtain ⟨d', hd', _, h4⟩ := h3 j hj
      rw [List.getElem?_eq_getElem hj] at hd'
      cases hd'
      exact h4 i l[i] hij (List.getElem?_eq_getElem hi)
/-- Keys and tokens of few bytes, numbers that are small. -/
def Small (l : List DocR) : Prop := ∀ d ∈ l, d.1.length ≤ 255 ∧ d.2.1 ≤ 1000000000 ∧ d.2.2.length ≤ 40 ∧ ∀ t ∈ d.2.2, t.length ≤ 255
end Go.ScT
namespace Go.Proofs.YtaacjjhmojecnaaGreatDoor
open Go.RowKit Go.ScT Go.Proofs

set_option maxHeartbeats 1000000 in
set_option maxRecDepth 1000000 in
/-- isToken: as isTok. -/
theorem isTokenR_any (t : Bs) (w : World) (ht : t.length ≤ 1000) : Calls Tryz.prog 108 #[lstV t] w fun e w' => e = .returned (.bool (isTok t)) ∧ Below w.heap.size w w' := by
  have CS := refSplit_any ⟨t.toArray⟩ w (by show t.toArray.size ≤ 1000000; simp; omega)
  have e0 : (⟨t.toArray⟩ : ByteArray).data.toList = t := by simp
  rw [e0] at CS
  obtain ⟨T, hT⟩ : ∃ T, toks t = T := ⟨_, rfl⟩
  have HI : Hid (isTok t = (T == [t])) := show _ = _ by rw [← hT]; rfl
  have hTl : T.length ≤ 1001 := by rw [← hT]; have := toks_len_le t; omega
  rw [hT] at CS
  clear hT e0
  go_enter Tryz.func108, Tryz.ntmps108
  match T, hTl with
  | [], _ =>
    have HF : Hid (isTok t = false) := show _ = _ by rw [HI.out]; rfl
    go_wp2_with (go_at_call 57; refine CS.mono ?_; rintro e w1 ⟨v, rfl, hown, hb1⟩; obtain ⟨g, cap, ao, hve, _, _⟩ := ownsRow_shape hown; rw [hve]; clear hown hve)
    go_ret
    rw [HF.out]
    exact ⟨rfl, hb1⟩
  | [x], _ =>
    by_cases hx : x = t
    · subst hx
      have HF : Hid (isTok x = true) := show _ = _ by rw [HI.out]; simp
      go_wp2_with (go_at_call 57; refine CS.mono ?_; rintro e w1 ⟨v, rfl, hown, hb1⟩; obtain ⟨g, cap, ao, hve, _, hao⟩ := ownsRow_shape hown; have hao1 := hao (by simp); subst hao1; rw [hve] at hown; have hc : w1.cell? ⟨g, 0, none⟩ = some (lstV x) := by { rw [hown.cellAt 0 (by simp)]; rfl }; have hve1 : v = .slice (some ⟨g, 0, none⟩) 1 cap := hve; rw [hve1]; clear hown hve hve1)
      go_ret
      rw [HF.out]
      exact ⟨rfl, hb1⟩
    · have hne : (x == t) = false := beq_eq_false_iff_ne.2 hx
      have HF : Hid (isTok t = false) := show _ = _ by rw [HI.out]; simp [hx]
      go_wp2_with (go_at_call 57; refine CS.mono ?_; rintro e w1 ⟨v, rfl, hown, hb1⟩; obtain ⟨g, cap, ao, hve, _, hao⟩ := ownsRow_shape hown; have hao1 := hao (by simp); subst hao1; rw [hve] at hown; have hc : w1.cell? ⟨g, 0, none⟩ = some (lstV x) := by { rw [hown.cellAt 0 (by simp)]; rfl }; have hve1 : v = .slice (some ⟨g, 0, none⟩) 1 cap := hve; rw [hve1]; clear hown hve hve1)
      go_ret
      rw [HF.out]
      exact ⟨rfl, hb1⟩
  | x :: y :: r, _ =>
    have HF : Hid (isTok t = false) := show _ = _ by rw [HI.out]; simp
    have hl2 : (((x :: y :: r).length : Int) == 1) = false := by simp; omega
    generalize hL : (x :: y :: r).length = L at *
    go_wp2_with (go_at_call 57; refine CS.mono ?_; rintro e w1 ⟨v, rfl, hown, hb1⟩; obtain ⟨g, cap, ao, hve, _, _⟩ := ownsRow_shape hown; rw [hve]; clear hown hve)
    go_ret
    rw [HF.out]
    exact ⟨rfl, hb1⟩
theorem DocsAt.below {w w' : World} {base : Nat} {v : Value} {l : List DocR} {tv : List Value} (h : DocsAt w base v l tv) (hb : Below w.heap.size w w') : DocsAt w' base v l tv := h.turned (Z := fun _ => False) (Turned.ofBelow hb) (fun _ _ e => e)
theorem DocsAt.drewN {w : World} {base : Nat} {v : Value} {l : List DocR} {tv : List Value} (h : DocsAt w base v l tv) (q : Nat) : DocsAt (w.drewN q) base v l tv := ⟨h.row, h.len, h.toks, h.apart⟩

/-- A truth value that says p. -/
def BoolSays (v : Value) (p : Prop) : Prop := ∃ c : Bool, v = .bool c ∧ (c = true ↔ p)
theorem BoolSays.yes {p : Prop} (h : p) : BoolSays (.bool true) p := ⟨true, rfl, by simp [h]⟩
theorem BoolSays.no {p : Prop} (h : ¬ p) : BoolSays (.bool false) p := ⟨false, rfl, by simp [h]⟩

set_option maxHeartbeats 3000000 in
set_option maxRecDepth 1000000 in
/-- could: are there such documents? -/
theorem could_any (w : World) (base g cap n : Nat) (l : List DocR) (tv : List Value) (h : DocsAt w base (.slice (some ⟨g, 0, none⟩) n cap) l tv) (hn : n = l.length) (hl : 1 ≤ l.length) (hh : l.length ≤ 100) (hsm : Small l) :
    Calls Tryz.prog 59 #[.slice (some ⟨g, 0, none⟩) n cap] w fun e w' => ∃ v, e = .returned v ∧ BoolSays v (Could l) ∧ Below w.heap.size w w' := by
  subst hn
  have H0 := hid h
  clear h
  have CK : Hid (∀ (k : Bs) (w1 : World), k.length ≤ 255 → Calls Tryz.prog 107 #[.string ⟨k.toArray⟩] w1 fun e w' => e = .returned (.bool (keyOk k)) ∧ w' = w1) := fun k w1 hk => by
    have := refIsKey_any ⟨k.toArray⟩ w1 (by show k.toArray.size ≤ maxLen; unfold maxLen; simp; omega)
    simpa using this
  have CI : Hid (∀ (k : Bs) (w1 : World), k.length ≤ 255 → Calls Tryz.prog 108 #[lstV k] w1 fun e w' => e = .returned (.bool (isTok k)) ∧ Below w1.heap.size w1 w') := fun k w1 hk => isTokenR_any k w1 (by omega)
  have HC := hid (could_iff (l := l))
  have hl1 : ¬ ((l.length : Int) < 1) := by omega
  have hl100 : ¬ ((100 : Int) < (l.length : Int)) := by omega
  go_enter Tryz.func59, Tryz.ntmps59
  go_wp2
  go_loopw [3] (fun s3 wr => ∃ i : Nat, s3 = .int .i64 (i : Int) ∧ i ≤ l.length ∧ Hid (DocsAt wr base (.slice (some ⟨g, 0, none⟩) l.length cap) l tv) ∧ Hid (Below w.heap.size w wr) ∧ Hid (∀ j, j < i → Fits l j)) (fun s3 _ => l.length - (intOf s3).toNat)
  case atStart => exact ⟨0, rfl, by omega, H0, Below.refl _ _, fun j hj => by omega⟩
  case round =>
    obtain ⟨i, rfl, hi, HD, HB, HF⟩ := hrel
    by_cases hlt : i < l.length
    · have hlti : (i : Int) < (l.length : Int) := by omega
      obtain ⟨d, hd⟩ : ∃ d, l[i]? = some d := ⟨_, List.getElem?_eq_getElem hlt⟩
      obtain ⟨t, ht⟩ := HD.out.tok hd
      obtain ⟨c0, c1, c2, _⟩ := HD.out.cells hd ht
      have hrow := HD.out.toks i d t hd ht
      obtain ⟨gt, tcap, ao, hte, _, hao⟩ := ownsRow_shape hrow
      subst hte
      obtain ⟨hs1, hs2, hs3, hs4⟩ := hsm d (List.mem_of_getElem? hd)
      have hno : ¬ Fits l i → ¬ Could l := fun hf hc => hf ((could_iff.1 hc).2.2 i hlt)
      have hat : Fits l i → DocOk d ∧ ∀ (k : Nat) (e : DocR), k < i → l[k]? = some e → e.1 ≠ d.1 ∧ e.2.1 < d.2.1 := by
        rintro ⟨d', hd', h1, h2⟩
        rw [hd] at hd'
        cases hd'
        exact ⟨h1, h2⟩
      have HNO := hid hno
      have HAT := hid hat
      have HDD := hid hd
      have HTT := hid ht
      clear hno hat hd ht hrow
      have CKD := hid (fun w1 => CK.out d.1 w1 hs1)
      cases hk : keyOk d.1 with
      | false =>
        have hkn : ¬ Could l := HNO.out fun hf => by have := (HAT.out hf).1.key; rw [hk] at this; cases this
        have HKN := hid hkn
        clear hkn
        rw [hk] at CKD
        go_wp2_with (first | (go_at_call 107; refine (CKD.out _).mono ?_; rintro e w1 ⟨rfl, hw1⟩; rw [hw1]; clear hw1 w1))
        go_ret
        exact ⟨_, rfl, BoolSays.no HKN.out, HB.out⟩
      | true =>
        rw [hk] at CKD
        by_cases h1 : d.2.1 < 1
        · have h1i : (d.2.1 : Int) < 1 := by omega
          have HKN : Hid (¬ Could l) := HNO.out fun hf => by have := (HAT.out hf).1.low; omega
          go_wp2_with (first | (go_at_call 107; refine (CKD.out _).mono ?_; rintro e w1 ⟨rfl, hw1⟩; rw [hw1]; clear hw1 w1))
          go_ret
          exact ⟨_, rfl, BoolSays.no HKN.out, HB.out⟩
        · have h1i : ¬ ((d.2.1 : Int) < 1) := by omega
          by_cases h2 : 100 < d.2.1
          · have h2i : (100 : Int) < (d.2.1 : Int) := by omega
            have HKN : Hid (¬ Could l) := HNO.out fun hf => by have := (HAT.out hf).1.high; omega
            go_wp2_with (first | (go_at_call 107; refine (CKD.out _).mono ?_; rintro e w1 ⟨rfl, hw1⟩; rw [hw1]; clear hw1 w1))
            go_ret
            exact ⟨_, rfl, BoolSays.no HKN.out, HB.out⟩
          · have h2i : ¬ ((100 : Int) < (d.2.1 : Int)) := by omega
            have h3i : ¬ ((40 : Int) < (d.2.2.length : Int)) := by omega
            go_wp2_with (first | (go_at_call 107; refine (CKD.out _).mono ?_; rintro e w1 ⟨rfl, hw1⟩; rw [hw1]; clear hw1 w1))
            go_loopw [5] (fun s5 wk => ∃ k : Nat, s5 = .int .i64 (k : Int) ∧ k ≤ i ∧ Hid (DocsAt wk base (.slice (some ⟨g, 0, none⟩) l.length cap) l tv) ∧ Hid (Below w.heap.size w wk) ∧ Hid (∀ (j : Nat) (e : DocR), j < k → l[j]? = some e → e.1 ≠ d.1 ∧ e.2.1 < d.2.1)) (fun s5 _ => i - (intOf s5).toNat)
            case atStart => exact ⟨0, rfl, by omega, HD, HB, fun j e hj => by omega⟩
            case round =>
              obtain ⟨k, rfl, hki, HD2, HB2, HP⟩ := hrel
              clear c0 c1 c2
              obtain ⟨c0, c1, c2, _⟩ := HD2.out.cells HDD.out HTT.out
              by_cases hkl : k < i
              · have hkli : (k : Int) < (i : Int) := by omega
                obtain ⟨e, he⟩ : ∃ e, l[k]? = some e := ⟨_, List.getElem?_eq_getElem (by omega)⟩
                obtain ⟨te, hte⟩ := HD2.out.tok he
                obtain ⟨b0, b1, _, _⟩ := HD2.out.cells he hte
                obtain ⟨_, hse2, _, _⟩ := hsm e (List.mem_of_getElem? he)
                have HEE := hid he
                clear he hte
                by_cases hkey : e.1 = d.1
                · have HKN : Hid (¬ Could l) := HNO.out fun hf => ((HAT.out hf).2 k e hkl HEE.out).1 hkey
                  have hkb : (e.1 == d.1) = true := by simp [hkey]
                  go_wp2
                  go_quiet (fail)
                  go_wp2
                  go_ret
                  exact ⟨_, rfl, BoolSays.no HKN.out, below_drewN HB2.out _⟩
                · have hkb : (e.1 == d.1) = false := beq_eq_false_iff_ne.2 hkey
                  by_cases hnum : d.2.1 ≤ e.2.1
                  · have hnumi : (d.2.1 : Int) ≤ (e.2.1 : Int) := by omega
                    have HKN : Hid (¬ Could l) := HNO.out fun hf => by have := ((HAT.out hf).2 k e hkl HEE.out).2; omega
                    go_wp2
                    go_quiet (fail)
                    go_wp2
                    go_ret
                    exact ⟨_, rfl, BoolSays.no HKN.out, below_drewN HB2.out _⟩
                  · have hnumi : ¬ ((d.2.1 : Int) ≤ (e.2.1 : Int)) := by omega
                    go_wp2
                    go_quiet (fail)
                    go_wp2
                    go_roundw
                    case rel =>
                      refine ⟨k + 1, by go_num, by omega, HD2.out.drewN _, below_drewN HB2.out _, hid ?_⟩
                      intro j e' hj he'
                      by_cases hjk : j < k
                      · exact HP.out j e' hjk he'
                      · obtain rfl : j = k := by omega
                        have := HEE.out
                        rw [this] at he'
                        cases he'
                        exact ⟨hkey, by omega⟩
                    case measure => simp [intOf]; omega
              · have hkli : ¬ ((k : Int) < (i : Int)) := by omega
                obtain rfl : k = i := by omega
                go_wp2
                go_loopw [6] (fun s6 wk => ∃ c : Nat, s6 = .int .i64 (c : Int) ∧ c ≤ d.2.2.length ∧ Hid (DocsAt wk base (.slice (some ⟨g, 0, none⟩) l.length cap) l tv) ∧ Hid (Below w.heap.size w wk) ∧ Hid (∀ (j : Nat) (x : Bs), j < c → d.2.2[j]? = some x → isTok x = true)) (fun s6 _ => d.2.2.length - (intOf s6).toNat)
                case atStart => exact ⟨0, rfl, by omega, HD2, HB2, fun j x hj => by omega⟩
                case round =>
                  obtain ⟨c, rfl, hcl, HD3, HB3, HQ⟩ := hrel
                  clear c0 c1 c2
                  obtain ⟨_, _, c2, _⟩ := HD3.out.cells HDD.out HTT.out
                  have hsz3 := HB3.out.size
                  by_cases hct : c < d.2.2.length
                  · have hcti : (c : Int) < (d.2.2.length : Int) := by omega
                    obtain ⟨x, hx⟩ : ∃ x, d.2.2[c]? = some x := ⟨_, List.getElem?_eq_getElem hct⟩
                    have hrow3 := HD3.out.toks _ d _ HDD.out HTT.out
                    have hao1 := hao (by omega)
                    subst hao1
                    have cx : wr.cell? ⟨gt, c, none⟩ = some (lstV x) := by rw [hrow3.cellAt c (by omega), List.getElem?_map, hx]; rfl
                    have hxl := hs4 x (List.mem_of_getElem? hx)
                    have HXX := hid hx
                    clear hrow3 hx
                    have CX := hid (CI.out x wr hxl)
                    cases hxt : isTok x with
                    | false =>
                      have HKN : Hid (¬ Could l) := HNO.out fun hf => by have := (HAT.out hf).1.toks x (List.mem_of_getElem? HXX.out); rw [hxt] at this; cases this
                      rw [hxt] at CX
                      go_wp2_with (first | (go_at_call 108; refine CX.out.mono ?_; rintro e w5 ⟨rfl, hb5⟩))
                      go_ret
                      exact ⟨_, rfl, BoolSays.no HKN.out, HB3.out.trans (hb5.mono hsz3)⟩
                    | true =>
                      rw [hxt] at CX
                      go_wp2_with (first | (go_at_call 108; refine CX.out.mono ?_; rintro e w5 ⟨rfl, hb5⟩))
                      go_roundw
                      case rel =>
                        refine ⟨c + 1, by go_num, by omega, HD3.out.below hb5, HB3.out.trans (hb5.mono hsz3), hid ?_⟩
                        intro j y hj hy
                        by_cases hjc : j < c
                        · exact HQ.out j y hjc hy
                        · obtain rfl : j = c := by omega
                          have := HXX.out
                          rw [this] at hy
                          cases hy
                          exact hxt
                      case measure => simp [intOf]; omega
                  · have hcti : ¬ ((c : Int) < (d.2.2.length : Int)) := by omega
                    go_wp2
                    go_roundw
                    case rel =>
                      refine ⟨k + 1, by go_num, by omega, HD3, HB3, hid ?_⟩
                      intro j hj
                      by_cases hjk : j < k
                      · exact HF.out j hjk
                      · obtain rfl : j = k := by omega
                        refine ⟨d, HDD.out, ⟨hk, by omega, by omega, hs3, ?_⟩, fun j' e hj' he => HP.out j' e hj' he⟩
                        intro x hx
                        obtain ⟨m, hm⟩ := List.mem_iff_getElem?.1 hx
                        exact HQ.out m x (by have := (List.getElem?_eq_some_iff.1 hm).1; omega) hm
                    case measure => simp [intOf]; omega
    · have hlti : ¬ ((i : Int) < (l.length : Int)) := by omega
      go_wp2
      go_ret
      exact ⟨_, rfl, BoolSays.yes (could_iff.2 ⟨hl, hh, fun j hj => HF.out j (by omega)⟩), HB.out⟩
end Go.Proofs.YtaacjjhmojecnaaGreatDoor

namespace Go.ScT
/-- The words of the first documents, and of the first tokens of the next. -/
def wordsTo (l : List DocR) (i : Nat) (ts : List Bs) : List Bs := (((l.take i).flatMap (·.2.2)) ++ ts).foldl plc []
theorem wordsTo_srt (l : List DocR) (i : Nat) (ts : List Bs) : Srt (wordsTo l i ts) := foldl_plc_srt List.Pairwise.nil
theorem wordsTo_len (l : List DocR) (i : Nat) (ts : List Bs) (h : ∀ d ∈ l, d.2.2.length ≤ 40) (hl : l.length ≤ 100) (ht : ts.length ≤ 40) : (wordsTo l i ts).length ≤ 4040 := by
  have h1 := foldl_plc_len (((l.take i).flatMap (·.2.2)) ++ ts) []
  have h2 := flatMap_len (l := l.take i) (k := 40) fun d hd => h d (List.mem_of_mem_take hd)
  have h3 : (l.take i).length ≤ 100 := by simp; omega
  unfold wordsTo
  simp only [List.length_append, List.length_nil] at h1
  omega
theorem wordsTo_tok {l : List DocR} {i k : Nat} {d : DocR} {x : Bs} (hx : d.2.2[k]? = some x) : wordsTo l i (d.2.2.take (k + 1)) = plc (wordsTo l i (d.2.2.take k)) x := by
  have : d.2.2.take (k + 1) = d.2.2.take k ++ [x] := by rw [List.take_add_one, hx]; rfl
  unfold wordsTo
  rw [this, ← List.append_assoc, List.foldl_append]
  rfl
theorem wordsTo_doc {l : List DocR} {i : Nat} {d : DocR} (hd : l[i]? = some d) : wordsTo l i d.2.2 = wordsTo l (i + 1) [] := by
  have : l.take (i + 1) = l.take i ++ [d] := by rw [List.take_add_one, hd]; rfl
  unfold wordsTo
  rw [this]
  simp
theorem wordsTo_all (l : List DocR) (i : Nat) (h : l.length ≤ i) : wordsTo l i [] = wordsOf l := by
  unfold wordsTo wordsOf
  rw [List.take_of_length_le h]
  simp
end Go.ScT
namespace Go.Proofs.YtaacjjhmojecnaaGreatDoor
open Go.RowKit Go.ScT Go.Proofs

set_option maxHeartbeats 2000000 in
set_option maxRecDepth 1000000 in
/-- words: as wordsOf. -/
theorem wordsR_any (w : World) (base g cap n : Nat) (l : List DocR) (tv : List Value) (h : DocsAt w base (.slice (some ⟨g, 0, none⟩) n cap) l tv) (hn : n = l.length) (hh : l.length ≤ 100) (hsm : Small l) :
    Calls Tryz.prog 111 #[.slice (some ⟨g, 0, none⟩) n cap] w fun e w' => ∃ v, e = .returned v ∧ w'.ownsRow w.heap.size 9 1 v (wordsOf l).length ((wordsOf l).map strV) ∧ Below w.heap.size w w' := by
  subst hn
  have H0 := hid h
  clear h
  have CP : Hid (∀ (w1 : World) (u : Value) (ws : List Bs) (x : Bs), w1.ownsRow w.heap.size 9 1 u ws.length (ws.map strV) → ws.length ≤ 5000 → Srt ws → w.heap.size ≤ w1.heap.size → Calls Tryz.prog 184 #[u, lstV x] w1 fun e w' => ∃ v', e = .returned v' ∧ w'.ownsRow w.heap.size 9 1 v' (plc ws x).length ((plc ws x).map strV) ∧ Below w1.heap.size w1 w') := fun w1 u ws x h1 h2 h3 h4 => placedR_any w1 w.heap.size u ws x h1 (by omega) h3 h4
  go_enter Tryz.func111, Tryz.ntmps111
  go_wp2
  go_loopw [3, 4] (fun s3 s4 wr => ∃ i : Nat, s4 = .int .i64 (i : Int) ∧ i ≤ l.length ∧ Hid (DocsAt wr base (.slice (some ⟨g, 0, none⟩) l.length cap) l tv) ∧ Hid (Below w.heap.size w wr) ∧ Hid (wr.ownsRow w.heap.size 9 1 s3 (wordsTo l i []).length ((wordsTo l i []).map strV))) (fun _ s4 _ => l.length - (intOf s4).toNat)
  case atStart => exact ⟨0, rfl, by omega, H0, Below.refl _ _, hid ⟨rfl, Or.inl ⟨rfl, rfl⟩⟩⟩
  case round =>
    obtain ⟨i, rfl, hi, HD, HB, HO⟩ := hrel
    by_cases hlt : i < l.length
    · have hlti : (i : Int) < (l.length : Int) := by omega
      obtain ⟨d, hd⟩ : ∃ d, l[i]? = some d := ⟨_, List.getElem?_eq_getElem hlt⟩
      obtain ⟨t, ht⟩ := HD.out.tok hd
      have hrow := HD.out.toks i d t hd ht
      obtain ⟨gt, tcap, ao, hte, _, hao⟩ := ownsRow_shape hrow
      subst hte
      obtain ⟨_, _, hs3, _⟩ := hsm d (List.mem_of_getElem? hd)
      have HDD := hid hd
      have HTT := hid ht
      clear hd ht hrow
      go_wp2
      go_loopw [3, 5] (fun s3 s5 wk => ∃ k : Nat, s5 = .int .i64 (k : Int) ∧ k ≤ d.2.2.length ∧ Hid (DocsAt wk base (.slice (some ⟨g, 0, none⟩) l.length cap) l tv) ∧ Hid (Below w.heap.size w wk) ∧ Hid (wk.ownsRow w.heap.size 9 1 s3 (wordsTo l i (d.2.2.take k)).length ((wordsTo l i (d.2.2.take k)).map strV))) (fun _ s5 _ => d.2.2.length - (intOf s5).toNat)
      case atStart => exact ⟨0, rfl, by omega, HD, HB, hid (by simpa using HO.out)⟩
      case round =>
        obtain ⟨k, rfl, hk, HD2, HB2, HO2⟩ := hrel
        obtain ⟨_, _, c2, _⟩ := HD2.out.cells HDD.out HTT.out
        have hsz2 := HB2.out.size
        by_cases hkl : k < d.2.2.length
        · have hkli : (k : Int) < (d.2.2.length : Int) := by omega
          obtain ⟨x, hx⟩ : ∃ x, d.2.2[k]? = some x := ⟨_, List.getElem?_eq_getElem hkl⟩
          have hrow2 := HD2.out.toks _ d _ HDD.out HTT.out
          have hao1 := hao (by omega)
          subst hao1
          have cx : wr.cell? ⟨gt, k, none⟩ = some (lstV x) := by rw [hrow2.cellAt k (by omega), List.getElem?_map, hx]; rfl
          have hwl := wordsTo_len l i (d.2.2.take k) (fun e he => (hsm e he).2.2.1) hh (by simp; omega)
          have CX := hid (CP.out wr u3 (wordsTo l i (d.2.2.take k)) x HO2.out (by omega) (wordsTo_srt _ _ _) hsz2)
          rw [← wordsTo_tok hx] at CX
          clear hrow2 hx
          go_wp2_with (first | (go_at_call 184; refine CX.out.mono ?_; rintro e w5 ⟨v5, rfl, hO5, hb5⟩))
          go_roundw
          case rel => exact ⟨k + 1, by go_num, by omega, HD2.out.below hb5, HB2.out.trans (hb5.mono hsz2), hO5⟩
          case measure => simp [intOf]; omega
        · have hkli : ¬ ((k : Int) < (d.2.2.length : Int)) := by omega
          have HE : Hid (wordsTo l i (d.2.2.take k) = wordsTo l (i + 1) []) := show _ = _ by rw [List.take_of_length_le (by omega)]; exact wordsTo_doc HDD.out
          rw [HE.out] at HO2
          go_wp2
          go_roundw
          case rel => exact ⟨i + 1, by go_num, by omega, HD2, HB2, HO2⟩
          case measure => simp [intOf]; omega
    · have hlti : ¬ ((i : Int) < (l.length : Int)) := by omega
      rw [wordsTo_all l i (by omega)] at HO
      go_wp2
      go_ret
      exact ⟨_, rfl, HO.out, HB.out⟩
end Go.Proofs.YtaacjjhmojecnaaGreatDoor

namespace Go.ScT
/-- Decimal digits. -/
def dec (n : Nat) : Bs := if n ≤ 9 then [byt (48 + n)] else dec (n / 10) ++ [byt (48 + n % 10)]
theorem dec_low {n : Nat} (h : n ≤ 9) : dec n = [byt (48 + n)] := by rw [dec, if_pos h]
theorem dec_high {n : Nat} (h : ¬ n ≤ 9) : dec n = dec (n / 10) ++ [byt (48 + n % 10)] := by rw [dec, if_neg h]
end Go.ScT
namespace Go.Proofs.YtaacjjhmojecnaaGreatDoor
open Go.RowKit Go.ScT Go.Proofs

theorem digit_ext (d : Nat) (h : d ≤ 9) : (⟨#[48, 49, 50, 51, 52, 53, 54, 55, 56, 57]⟩ : ByteArray).extract d (d + 1) = ⟨#[byt (48 + d)]⟩ := by
  have : d = 0 ∨ d = 1 ∨ d = 2 ∨ d = 3 ∨ d = 4 ∨ d = 5 ∨ d = 6 ∨ d = 7 ∨ d = 8 ∨ d = 9 := by omega
  rcases this with rfl | rfl | rfl | rfl | rfl | rfl | rfl | rfl | rfl | rfl <;> rfl
theorem cat_one (a : UInt8) (b : Bs) : ((⟨#[a]⟩ : ByteArray) ++ ⟨b.toArray⟩) = ⟨(a :: b).toArray⟩ := cat_two [a] b

set_option maxHeartbeats 1000000 in
set_option maxRecDepth 1000000 in
/-- Decimal: as dec. -/
theorem decimalR_any (n : Nat) (hn : n ≤ 1000000000) (w : World) : Calls Tryz.prog 115 #[.int .i64 (n : Int)] w fun e w' => e = .returned (lstV (dec n)) ∧ w' = w := by
  go_enter Tryz.func115, Tryz.ntmps115
  go_wp2
  go_loopw [0, 3, 4] (fun s0 s3 s4 wr => ∃ (m : Nat) (J : Bs), s0 = .int .i64 (m : Int) ∧ s3 = lstV J ∧ m ≤ 1000000000 ∧ J.length ≤ 30 ∧ m * 10 ^ J.length ≤ 1000000000 ∧ wr = w ∧ Hid (dec n = dec m ++ J)) (fun s0 _ _ _ => (intOf s0).toNat)
  case atStart => exact ⟨n, [], rfl, rfl, hn, by simp, by simp; exact hn, rfl, hid (by simp)⟩
  case round =>
    obtain ⟨m, J, rfl, rfl, hm, hJ, hmJ, rfl, HE⟩ := hrel
    by_cases h9 : 9 < m
    · have h9i : (9 : Int) < (m : Int) := by omega
      have hext := digit_ext (m % 10) (by omega)
      have HE2 : Hid (dec n = dec (m / 10) ++ (byt (48 + m % 10) :: J)) := show _ = _ by rw [HE.out, dec_high (by omega)]; simp
      have hJ8 : J.length ≤ 8 := by
        apply Classical.byContradiction
        intro hh
        have h1 : 10 ^ 9 ≤ 10 ^ J.length := Nat.pow_le_pow_right (by omega) (by omega)
        have h2 : 10 * 10 ^ 9 ≤ m * 10 ^ J.length := Nat.mul_le_mul (by omega) h1
        omega
      have hstep : m / 10 * 10 ^ (J.length + 1) ≤ 1000000000 := by
        rw [Nat.pow_succ, Nat.mul_comm (10 ^ J.length) 10, ← Nat.mul_assoc]
        exact Nat.le_trans (Nat.mul_le_mul_right _ (by omega)) hmJ
      go_wp2
      go_roundw
      case rel => exact ⟨m / 10, byt (48 + m % 10) :: J, by go_num, congrArg Value.string (cat_one _ _), by omega, by simp; omega, hstep, trivial, HE2⟩
      case measure => simp [intOf]; omega
    · have h9i : ¬ ((9 : Int) < (m : Int)) := by omega
      have hext := digit_ext m (by omega)
      have HE2 : Hid (dec n = byt (48 + m) :: J) := show _ = _ by rw [HE.out, dec_low (by omega)]; rfl
      go_wp2
      go_ret
      rw [HE2.out]
      exact ⟨congrArg Ending.returned (congrArg Value.string (cat_one _ _)), rfl⟩
end Go.Proofs.YtaacjjhmojecnaaGreatDoor
