/- Plain facts on tokens: how long they are together; two texts with a blank between; the tokens of tokens. -/
import Derived.Test.YtaacjjhmojecnaaGreatDoorPlain
namespace Go.ScT
open Go.Lib

def tot (l : List (List UInt8)) : Nat := (l.map fun t => t.length + 1).sum
theorem tot_snoc (l : List (List UInt8)) (t : List UInt8) : tot (l ++ [t]) = tot l + t.length + 1 := by simp [tot]; omega
theorem tot_flush (run : List UInt8) (l : List (List UInt8)) : tot (flush run l) ≤ tot l + run.length + 1 := by
  unfold flush
  split
  · omega
  · rw [tot_snoc]; omega

theorem fin_tot : ∀ (L : List UInt8) (sk : Bool) (run : List UInt8) (n : Nat) (l : List (List UInt8)), tot (fin L sk run n l) ≤ tot l + run.length + 1 + (L.length - sk.toNat)
  | [], sk, run, n, l => by
    have := tot_flush run l
    simp only [fin]
    omega
  | b :: r, true, run, n, l => by
    have := fin_tot r false run n l
    simp only [fin, List.length_cons, Bool.toNat_true, Bool.toNat_false] at this ⊢
    omega
  | b :: r, false, run, n, l => by
    simp only [fin, List.length_cons, Bool.toNat_false]
    rcases head_cases b r with ⟨ha, hl⟩ | ⟨c, r', rfl, rfl, hc, hl⟩ | hl
    · have hb : (b == 195) = false := by
        have := (ascB_iff b).1 ha
        rw [beq_eq_false_iff_ne]; intro e; rw [e] at this; simp at this
      rw [hl, hb, if_neg (by simp)]
      split
      · have := fin_tot r false (run ++ [smA b]) (n + 1) l
        simp at this
        omega
      · have := fin_tot r false run n l
        simp at this
        omega
    · rw [hl, if_neg (by simp)]
      have hb : ((195 : UInt8) == 195) = true := rfl
      rw [hb]
      split
      · have := fin_tot (c :: r') true (run ++ [195, smC c]) (n + 1) l
        simp at this
        simp only [List.length_cons]
        omega
      · have := fin_tot (c :: r') true run n l
        simp at this
        simp only [List.length_cons]
        omega
    · rw [hl, if_pos rfl]
      have h1 := fin_tot r false [] 0 (flush run l)
      have h2 := tot_flush run l
      simp at h1
      omega

theorem join_tot (x : List UInt8) (r : List (List UInt8)) : (join (x :: r) [32]).length + 1 = tot (x :: r) := by
  rw [join_cons, List.length_append]
  have : (joinTail [32] r).length = tot r := by
    induction r with
    | nil => rfl
    | cons y r ih => simp [joinTail, tot] at ih ⊢; omega
  rw [this]
  simp [tot]
  omega

/-- The tokens of a text, blanks between them, are no longer than the text. -/
theorem toks_join_le (L : List UInt8) : (join (toks L) [32]).length ≤ L.length := by
  have h := fin_tot L false [] 0 []
  rw [show fin L false [] 0 [] = toks L from rfl] at h
  simp only [tot, List.map_nil, List.sum_nil, List.length_nil, Bool.toNat_false] at h
  match ht : toks L with
  | [] => simp [join, List.intercalate]
  | x :: r =>
    rw [ht] at h
    have := join_tot x r
    simp only [tot] at this
    omega

theorem toks_len_le (L : List UInt8) : (toks L).length ≤ L.length + 1 := by
  have h := fin_tot L false [] 0 []
  rw [show fin L false [] 0 [] = toks L from rfl] at h
  have h2 : ∀ l : List (List UInt8), l.length ≤ tot l := by
    intro l
    induction l with
    | nil => simp [tot]
    | cons x r ih => simp [tot] at ih ⊢; omega
  have := h2 (toks L)
  simp only [tot, List.map_nil, List.sum_nil, List.length_nil, Bool.toNat_false] at h this
  omega

/-! ### two texts with a blank between -/
theorem flush_acc (run : List UInt8) (l : List (List UInt8)) : flush run l = l ++ flush run [] := by
  unfold flush
  split <;> simp
theorem fin_acc : ∀ (L : List UInt8) (sk : Bool) (run : List UInt8) (n : Nat) (l : List (List UInt8)), fin L sk run n l = l ++ fin L sk run n []
  | [], sk, run, n, l => flush_acc run l
  | b :: r, true, run, n, l => fin_acc r false run n l
  | b :: r, false, run, n, l => by
    simp only [fin]
    split
    · rw [fin_acc r false [] 0 (flush run l), fin_acc r false [] 0 (flush run []), flush_acc run l, List.append_assoc]
    · split
      · exact fin_acc r _ _ _ l
      · exact fin_acc r _ _ _ l

theorem letL_blank (b : UInt8) (r y : List UInt8) : letL b (r ++ 32 :: y) = letL b r := by
  cases r with
  | nil => simp [letL, cntB]
  | cons c r => rfl

theorem fin_blank : ∀ (x y : List UInt8) (sk : Bool) (run : List UInt8) (n : Nat) (l : List (List UInt8)), (sk = true → x ≠ []) →
    fin (x ++ 32 :: y) sk run n l = fin y false [] 0 (fin x sk run n l)
  | [], y, sk, run, n, l, h => by
    have : sk = false := by cases sk <;> simp at h ⊢
    subst this
    have : letL 32 y = [] := by simp [letL, ascB]
    simp [fin, this]
  | b :: r, y, true, run, n, l, _ => fin_blank r y false run n l (by simp)
  | b :: r, y, false, run, n, l, _ => by
    have hb : letL b r ≠ [] → (b == 195) = true → r ≠ [] := by
      intro h1 h2 h3
      rw [beq_iff_eq] at h2
      subst h2
      subst h3
      simp [letL, ascB] at h1
    simp only [List.cons_append, fin, letL_blank]
    split
    · exact fin_blank r y false [] 0 _ (by simp)
    · rename_i hne
      split
      · exact fin_blank r y _ _ _ _ (hb hne)
      · exact fin_blank r y _ _ _ _ (hb hne)

theorem toks_blank (x y : List UInt8) : toks (x ++ 32 :: y) = toks x ++ toks y := by
  unfold toks
  rw [fin_blank x y false [] 0 [] (by simp), fin_acc]

/-! ### the tokens of tokens -/
def SmLet (x : List UInt8) : Prop := (∃ b, x = [b] ∧ ascB b = true ∧ smA b = b) ∨ (∃ c, x = [195, c] ∧ cntB c = true ∧ smC c = c)
def GoodRun (t : List UInt8) (n : Nat) : Prop := ∃ ls : List (List UInt8), t = ls.flatten ∧ ls.length = n ∧ n ≤ 10 ∧ ∀ x ∈ ls, SmLet x
def Good (t : List UInt8) : Prop := stopB t = false ∧ ∃ n, GoodRun t n

theorem smA_id (b : UInt8) (h : ¬ (65 ≤ b.toNat ∧ b.toNat ≤ 90)) : smA b = b := by
  unfold smA
  rw [if_neg (by simp [UInt8.le_iff_toNat_le]; omega)]
theorem smC_id (c : UInt8) (h : ¬ c.toNat ≤ 158) : smC c = c := by
  unfold smC
  rw [if_neg (by simp [UInt8.le_iff_toNat_le]; omega)]
theorem sm_asc (b : UInt8) (h : ascB b = true) : ascB (smA b) = true ∧ smA (smA b) = smA b := by
  have h1 := (ascB_iff b).1 h
  by_cases hc : 65 ≤ b.toNat ∧ b.toNat ≤ 90
  · have e : (smA b).toNat = b.toNat + 32 := by
      unfold smA
      rw [if_pos (by simp [UInt8.le_iff_toNat_le, hc])]
      simp [UInt8.toNat_add]
      omega
    refine ⟨(ascB_iff _).2 (by omega), ?_⟩
    exact smA_id _ (by omega)
  · have e : smA b = b := by
      unfold smA
      rw [if_neg (by simp [UInt8.le_iff_toNat_le]; omega)]
    rw [e, e]
    exact ⟨h, rfl⟩
theorem sm_cnt (c : UInt8) (h : cntB c = true) : cntB (smC c) = true ∧ smC (smC c) = smC c := by
  have h1 := (cntB_iff c).1 h
  by_cases hc : c.toNat ≤ 158
  · have e : (smC c).toNat = c.toNat + 32 := by
      unfold smC
      rw [if_pos (by simp [UInt8.le_iff_toNat_le, hc])]
      simp [UInt8.toNat_add]
      omega
    refine ⟨(cntB_iff _).2 (by omega), ?_⟩
    exact smC_id _ (by omega)
  · have e : smC c = c := by
      unfold smC
      rw [if_neg (by simp [UInt8.le_iff_toNat_le]; omega)]
    rw [e, e]
    exact ⟨h, rfl⟩

theorem letL_sm (b : UInt8) (r : List UInt8) (h : letL b r ≠ []) : SmLet (letL b r) := by
  rcases head_cases b r with ⟨ha, hl⟩ | ⟨c, r', rfl, rfl, hc, hl⟩ | hl
  · rw [hl]; exact Or.inl ⟨smA b, rfl, (sm_asc b ha).1, (sm_asc b ha).2⟩
  · rw [hl]; exact Or.inr ⟨smC c, rfl, (sm_cnt c hc).1, (sm_cnt c hc).2⟩
  · exact absurd hl h

theorem flush_good (run : List UInt8) (n : Nat) (l : List (List UInt8)) (hr : GoodRun run n) (hl : ∀ t ∈ l, Good t) : ∀ t ∈ flush run l, Good t := by
  unfold flush
  split
  · exact hl
  · rename_i hs
    intro t ht
    rcases List.mem_append.1 ht with h1 | h1
    · exact hl t h1
    · simp at h1; subst h1; exact ⟨by simpa using hs, n, hr⟩

theorem fin_good : ∀ (L : List UInt8) (sk : Bool) (run : List UInt8) (n : Nat) (l : List (List UInt8)), GoodRun run n → (∀ t ∈ l, Good t) → ∀ t ∈ fin L sk run n l, Good t
  | [], sk, run, n, l, hr, hl => flush_good run n l hr hl
  | b :: r, true, run, n, l, hr, hl => fin_good r false run n l hr hl
  | b :: r, false, run, n, l, hr, hl => by
    simp only [fin]
    split
    · exact fin_good r false [] 0 _ ⟨[], rfl, rfl, by omega, by simp⟩ (flush_good run n l hr hl)
    · rename_i hne
      split
      · rename_i hn
        obtain ⟨ls, h1, h2, h3, h4⟩ := hr
        refine fin_good r _ _ _ l ⟨ls ++ [letL b r], by simp [h1], by simp [h2], by omega, fun x hx => ?_⟩ hl
        rcases List.mem_append.1 hx with h5 | h5
        · exact h4 x h5
        · simp at h5; subst h5; exact letL_sm b r hne
      · exact fin_good r _ _ _ l hr hl

theorem toks_good (L : List UInt8) : ∀ t ∈ toks L, Good t := fin_good L false [] 0 [] ⟨[], rfl, rfl, by omega, by simp⟩ (by simp)

theorem fin_lets : ∀ (ls : List (List UInt8)) (run : List UInt8) (n : Nat) (l : List (List UInt8)), (∀ x ∈ ls, SmLet x) → n + ls.length ≤ 10 →
    fin ls.flatten false run n l = flush (run ++ ls.flatten) l
  | [], run, n, l, _, _ => by simp [fin]
  | x :: ls, run, n, l, h, hn => by
    have ih := fin_lets ls (run ++ x) (n + 1) l (fun y hy => h y (by simp [hy])) (by simp at hn; omega)
    have hn10 : n < 10 := by simp at hn; omega
    rcases h x (by simp) with ⟨b, rfl, hb, hs⟩ | ⟨c, rfl, hc, hs⟩
    · have hl : letL b ls.flatten = [b] := by simp [letL, hb, hs]
      have hb' : (b == 195) = false := by
        have := (ascB_iff b).1 hb
        rw [beq_eq_false_iff_ne]; intro e; rw [e] at this; simp at this
      simp only [List.flatten_cons, List.cons_append, List.nil_append, fin, hl, hb', if_pos hn10]
      rw [if_neg (by simp), ih]
      simp
    · have ha : ascB 195 = false := rfl
      have hl : letL 195 (c :: ls.flatten) = [195, c] := by simp [letL, hc, hs, ha]
      simp only [List.flatten_cons, List.cons_append, List.nil_append, fin, hl, if_pos hn10]
      rw [if_neg (by simp)]
      show fin (c :: ls.flatten) true (run ++ [195, c]) (n + 1) l = _
      simp only [fin]
      rw [ih]
      simp

theorem good_toks (t : List UInt8) (h : Good t) : toks t = [t] := by
  obtain ⟨hs, n, ls, h1, h2, h3, h4⟩ := h
  unfold toks
  rw [h1, fin_lets ls [] 0 [] h4 (by omega)]
  rw [← h1, List.nil_append]
  simp [flush, hs]

theorem toks_join : ∀ (l : List (List UInt8)), (∀ t ∈ l, Good t) → toks (join l [32]) = l
  | [], _ => by simp [join, List.intercalate, toks, fin, flush, stopB]
  | [t], h => by rw [join_one]; exact good_toks t (h t (by simp))
  | t :: u :: r, h => by
    have ih := toks_join (u :: r) (fun x hx => h x (List.mem_cons_of_mem _ hx))
    have e : join (t :: u :: r) [32] = t ++ 32 :: join (u :: r) [32] := by
      rw [join_cons, join_cons]
      simp [joinTail]
    rw [e, toks_blank, ih, good_toks t (h t (by simp))]
    rfl

/-- The tokens of a text's tokens are these. -/
theorem toks_again (L : List UInt8) : toks (join (toks L) [32]) = toks L := toks_join _ (toks_good L)

theorem join_append (a b : List (List UInt8)) (ha : a ≠ []) (hb : b ≠ []) : join (a ++ b) [32] = join a [32] ++ 32 :: join b [32] := by
  match a, ha, b, hb with
  | x :: a, _, y :: b, _ =>
    rw [List.cons_append, join_cons, join_cons, join_cons]
    simp [joinTail]
theorem join_empty (L : List UInt8) : join (toks L) [32] = [] ↔ toks L = [] := by
  constructor
  · intro h
    have := toks_again L
    rw [h] at this
    rw [← this]
    simp [toks, fin, flush, stopB]
  · intro h
    rw [h]
    simp [join, List.intercalate]
end Go.ScT
