/- Texts joined: Seg1, Seg2, Seg3, Seg4, Seg5, Seg6, Seg7. -/
import Derived.Test.YtaacjjhmojecnaaGreatDoorPlain2
import Derived.Test.YtaacjjhmojecnaaGreatDoorIsKey
namespace Go.ScT

abbrev Bs := List UInt8
def byt (n : Nat) : UInt8 := UInt8.ofNat n
theorem byt_toNat (n : Nat) : (byt n).toNat = n % 256 := by simp [byt]
theorem byt_lt (n : Nat) (h : n < 256) : (byt n).toNat = n := by rw [byt_toNat]; omega
theorem byt_of (b : UInt8) : byt b.toNat = b := by apply UInt8.toNat_inj.1; rw [byt_toNat]; have := b.toNat_lt; omega
theorem byt_eq {b : UInt8} {n : Nat} (h : b.toNat = n) : byt n = b := by rw [← h, byt_of]

/-! ### varints, names -/
def vi (n : Nat) : Bs := if n < 128 then [byt n] else [byt (n % 128 + 128), byt (n / 128)]
def nm (k : Bs) : Bs := byt k.length :: k

def pByte (r : Bs) : Option (Nat × Bs) := match r with | [] => none | b :: t => some (b.toNat, t)
def pTake (k : Nat) (r : Bs) : Option (Bs × Bs) := if k ≤ r.length then some (r.take k, r.drop k) else none
def pNum (lo hi : Nat) (r : Bs) : Option (Nat × Bs) := match r with
  | [] => none
  | b :: t => if b.toNat < 128 then (if lo ≤ b.toNat ∧ b.toNat ≤ hi then some (b.toNat, t) else none)
    else match t with
      | [] => none
      | c :: t' => if c.toNat < 128 ∧ c.toNat ≠ 0 ∧ lo ≤ b.toNat % 128 + 128 * c.toNat ∧ b.toNat % 128 + 128 * c.toNat ≤ hi then some (b.toNat % 128 + 128 * c.toNat, t') else none

theorem pByte_iff {r t : Bs} {n : Nat} : pByte r = some (n, t) ↔ r = byt n :: t ∧ n < 256 := by
  cases r with
  | nil => simp [pByte]
  | cons b u =>
    simp only [pByte, Option.some.injEq, Prod.mk.injEq, List.cons.injEq]
    constructor
    · rintro ⟨rfl, rfl⟩; exact ⟨⟨(byt_of b).symm, rfl⟩, b.toNat_lt⟩
    · rintro ⟨⟨rfl, rfl⟩, h⟩; exact ⟨byt_lt n h, rfl⟩
theorem pTake_iff {r x t : Bs} {k : Nat} : pTake k r = some (x, t) ↔ r = x ++ t ∧ x.length = k := by
  unfold pTake
  split
  · rename_i h
    simp only [Option.some.injEq, Prod.mk.injEq]
    constructor
    · rintro ⟨rfl, rfl⟩; exact ⟨(List.take_append_drop k r).symm, by simp; omega⟩
    · rintro ⟨rfl, rfl⟩; simp
  · rename_i h
    constructor
    · intro e; cases e
    · rintro ⟨rfl, rfl⟩; simp at h
theorem pNum_iff {lo hi n : Nat} {r t : Bs} (hh : hi < 16384) : pNum lo hi r = some (n, t) ↔ r = vi n ++ t ∧ lo ≤ n ∧ n ≤ hi := by
  constructor
  · intro h
    unfold pNum at h
    split at h
    · cases h
    · rename_i b u
      split at h
      · rename_i hb
        split at h
        · rename_i hr
          simp only [Option.some.injEq, Prod.mk.injEq] at h
          obtain ⟨rfl, rfl⟩ := h
          refine ⟨?_, hr⟩
          simp [vi, hb, byt_of]
        · cases h
      · rename_i hb
        split at h
        · cases h
        · rename_i c v
          split at h
          · rename_i hc
            simp only [Option.some.injEq, Prod.mk.injEq] at h
            obtain ⟨rfl, rfl⟩ := h
            refine ⟨?_, hc.2.2⟩
            have hbl := b.toNat_lt
            have h0 : ¬ (b.toNat % 128 + 128 * c.toNat < 128) := by omega
            have e1 : byt ((b.toNat % 128 + 128 * c.toNat) % 128 + 128) = b := byt_eq (by omega)
            have e2 : byt ((b.toNat % 128 + 128 * c.toNat) / 128) = c := byt_eq (by omega)
            simp only [vi, if_neg h0, e1, e2, List.cons_append, List.nil_append]
          · cases h
  · rintro ⟨rfl, h1, h2⟩
    by_cases hn : n < 128
    · have : (byt n).toNat = n := byt_lt n (by omega)
      simp [vi, hn, pNum, this, h1, h2]
    · have e1 : (byt (n % 128 + 128)).toNat = n % 128 + 128 := byt_lt _ (by omega)
      have e2 : (byt (n / 128)).toNat = n / 128 := byt_lt _ (by omega)
      have h3 : ¬ (n % 128 + 128 < 128) := by omega
      have h4 : (n % 128 + 128) % 128 + 128 * (n / 128) = n := by omega
      simp only [vi, if_neg hn, List.cons_append, List.nil_append, pNum, e1, e2, if_neg h3, h4]
      rw [if_pos ⟨by omega, by omega, h1, h2⟩]
theorem vi_len (n : Nat) : (vi n).length = if n < 128 then 1 else 2 := by unfold vi; split <;> simp
theorem vi_ne (n : Nat) : vi n ≠ [] := by unfold vi; split <;> simp

def pName (r : Bs) : Option (Bs × Bs) := (pByte r).bind fun x => pTake x.1 x.2
theorem pName_iff {r k t : Bs} : pName r = some (k, t) ↔ r = nm k ++ t ∧ k.length < 256 := by
  unfold pName
  rw [Option.bind_eq_some_iff]
  constructor
  · rintro ⟨⟨n, u⟩, h1, h2⟩
    rw [pByte_iff] at h1
    rw [pTake_iff] at h2
    obtain ⟨rfl, hn⟩ := h1
    obtain ⟨h2, h3⟩ := h2
    simp only at h2 h3
    subst h2 h3
    exact ⟨by simp [nm], hn⟩
  · rintro ⟨rfl, h⟩
    refine ⟨(k.length, k ++ t), ?_, ?_⟩
    · rw [pByte_iff]; exact ⟨by simp [nm], h⟩
    · rw [pTake_iff]; exact ⟨rfl, rfl⟩

/-! ### packed numbers -/
def leB : Nat → Nat → Bs
  | 0, _ => []
  | k + 1, x => byt x :: leB k (x / 256)
def leV : Bs → Nat
  | [] => 0
  | b :: r => b.toNat + 256 * leV r
theorem leB_len : ∀ k x, (leB k x).length = k
  | 0, _ => rfl
  | k + 1, x => by simp [leB, leB_len k]
theorem leV_leB : ∀ k x, leV (leB k x) = x % 256 ^ k
  | 0, x => by simp [leB, leV, Nat.mod_one]
  | k + 1, x => by
    simp only [leB, leV, leV_leB k, byt_toNat]
    rw [show 256 ^ (k + 1) = 256 * 256 ^ k by rw [Nat.pow_succ, Nat.mul_comm], Nat.mod_mul]
theorem leB_leV : ∀ l, leB l.length (leV l) = l
  | [] => rfl
  | b :: r => by
    have hb := b.toNat_lt
    have e1 : byt (b.toNat + 256 * leV r) = b := by
      apply UInt8.toNat_inj.1; rw [byt_toNat]; omega
    have e2 : (b.toNat + 256 * leV r) / 256 = leV r := by omega
    simp [leB, leV, e1, e2, leB_leV r]
theorem leV_lt : ∀ l, leV l < 256 ^ l.length
  | [] => by simp [leV]
  | b :: r => by
    have := leV_lt r
    have hb := b.toNat_lt
    simp only [leV, List.length_cons, Nat.pow_succ]
    omega

def wrd (w : Nat) : List Nat → Nat
  | [] => 0
  | n :: r => n + 2 ^ w * wrd w r
def unp (w : Nat) : Nat → Nat → List Nat
  | 0, _ => []
  | k + 1, x => x % 2 ^ w :: unp w k (x / 2 ^ w)
theorem unp_len (w : Nat) : ∀ k x, (unp w k x).length = k
  | 0, _ => rfl
  | k + 1, x => by simp [unp, unp_len w k]
theorem unp_lt (w : Nat) : ∀ k x, ∀ n ∈ unp w k x, n < 2 ^ w
  | 0, _ => by simp [unp]
  | k + 1, x => by
    intro n hn
    simp only [unp, List.mem_cons] at hn
    rcases hn with rfl | hn
    · exact Nat.mod_lt _ (Nat.two_pow_pos w)
    · exact unp_lt w k _ n hn
theorem unp_wrd (w : Nat) : ∀ ns : List Nat, (∀ n ∈ ns, n < 2 ^ w) → unp w ns.length (wrd w ns) = ns
  | [], _ => rfl
  | n :: r, h => by
    have hn := h n (by simp)
    have e1 : (n + 2 ^ w * wrd w r) % 2 ^ w = n := by rw [Nat.add_mul_mod_self_left, Nat.mod_eq_of_lt hn]
    have e2 : (n + 2 ^ w * wrd w r) / 2 ^ w = wrd w r := by
      rw [Nat.add_mul_div_left _ _ (Nat.two_pow_pos w), Nat.div_eq_of_lt hn, Nat.zero_add]
    simp only [List.length_cons, unp, wrd, e1, e2, unp_wrd w r (fun m hm => h m (by simp [hm]))]
theorem wrd_unp (w : Nat) : ∀ k x, wrd w (unp w k x) = x % 2 ^ (w * k)
  | 0, x => by simp [unp, wrd, Nat.mod_one]
  | k + 1, x => by
    simp only [unp, wrd, wrd_unp w k]
    rw [show w * (k + 1) = w + w * k by rw [Nat.mul_succ, Nat.add_comm], Nat.pow_add, Nat.mod_mul]
theorem wrd_lt (w : Nat) : ∀ ns : List Nat, (∀ n ∈ ns, n < 2 ^ w) → wrd w ns < 2 ^ (w * ns.length)
  | [], _ => by simp [wrd]
  | n :: r, h => by
    have := wrd_lt w r (fun m hm => h m (by simp [hm]))
    have hn := h n (by simp)
    simp only [wrd, List.length_cons]
    rw [show w * (r.length + 1) = w + w * r.length by rw [Nat.mul_succ, Nat.add_comm], Nat.pow_add]
    have h2 : 2 ^ w * wrd w r + 2 ^ w ≤ 2 ^ w * 2 ^ (w * r.length) := by
      rw [← Nat.mul_succ]; exact Nat.mul_le_mul_left _ this
    omega

/-- How many bits a number has. -/
def bl (n : Nat) : Nat := if n = 0 then 0 else n.log2 + 1
theorem bl_le {n w : Nat} : bl n ≤ w ↔ n < 2 ^ w := by
  unfold bl
  split
  · rename_i h; subst h; simp [Nat.two_pow_pos]
  · rename_i h
    rw [Nat.succ_le_iff, Nat.log2_lt h]
def mx (l : List Nat) : Nat := l.foldr max 0
theorem mx_le {l : List Nat} {k : Nat} : mx l ≤ k ↔ ∀ n ∈ l, n ≤ k := by
  induction l with
  | nil => simp [mx]
  | cons a r ih =>
    have : mx (a :: r) = max a (mx r) := rfl
    rw [this]
    simp only [List.mem_cons, forall_eq_or_imp, ← ih]
    omega
theorem mx_lt {l : List Nat} {k : Nat} (hk : 0 < k) : mx l < k ↔ ∀ n ∈ l, n < k := by
  have := @mx_le l (k - 1)
  constructor
  · intro h n hn
    have := this.1 (by omega) n hn
    omega
  · intro h
    have := this.2 (fun n hn => by have := h n hn; omega)
    omega
def wd (l : List Nat) : Nat := bl (mx l)
theorem wd_le {l : List Nat} {w : Nat} : wd l ≤ w ↔ ∀ n ∈ l, n < 2 ^ w := by
  rw [wd, bl_le, mx_lt (Nat.two_pow_pos w)]
theorem wd_lt (l : List Nat) : ∀ n ∈ l, n < 2 ^ wd l := wd_le.1 (Nat.le_refl _)

def psz (w : Nat) : Nat := (4 * w + 7) / 8
def pk (w : Nat) (ns : List Nat) : Bs := leB (psz w) (wrd w ns)
def pPack (w : Nat) (r : Bs) : Option (List Nat × Bs) := (pTake (psz w) r).bind fun x =>
  if leV x.1 / 2 ^ (w * 4) = 0 ∧ wd (unp w 4 (leV x.1)) = w then some (unp w 4 (leV x.1), x.2) else none
theorem pow_psz (w : Nat) : 2 ^ (w * 4) ≤ 256 ^ psz w := by
  rw [show (256 : Nat) = 2 ^ 8 by rfl, ← Nat.pow_mul]
  exact Nat.pow_le_pow_right (by omega) (by unfold psz; omega)
theorem pPack_iff {w : Nat} {r t : Bs} {ns : List Nat} : pPack w r = some (ns, t) ↔ r = pk w ns ++ t ∧ ns.length = 4 ∧ wd ns = w := by
  unfold pPack
  rw [Option.bind_eq_some_iff]
  constructor
  · rintro ⟨⟨x, u⟩, h1, h2⟩
    rw [pTake_iff] at h1
    obtain ⟨rfl, hx⟩ := h1
    split at h2
    · rename_i hc
      simp only [Option.some.injEq, Prod.mk.injEq] at h2 hc
      obtain ⟨rfl, rfl⟩ := h2
      refine ⟨?_, unp_len _ _ _, hc.2⟩
      have hl : leV x < 2 ^ (w * 4) := by
        have := hc.1
        rw [Nat.div_eq_zero_iff] at this
        have hp := Nat.two_pow_pos (w * 4)
        omega
      rw [pk, wrd_unp, Nat.mod_eq_of_lt hl, ← hx, leB_leV]
    · cases h2
  · rintro ⟨rfl, h4, hw⟩
    have hlt : ∀ n ∈ ns, n < 2 ^ w := wd_le.1 (Nat.le_of_eq hw)
    have hb := wrd_lt w ns hlt
    rw [h4] at hb
    refine ⟨(pk w ns, t), pTake_iff.2 ⟨rfl, leB_len _ _⟩, ?_⟩
    have e : leV (pk w ns) = wrd w ns := by
      rw [pk, leV_leB, Nat.mod_eq_of_lt (Nat.lt_of_lt_of_le hb (pow_psz w))]
    have u := unp_wrd w ns hlt
    rw [h4] at u
    simp only [e, u]
    rw [if_pos ⟨Nat.div_eq_of_lt hb, hw⟩]
end Go.ScT

namespace Go.ScT

/-- Places: ordinal, count. -/
abbrev Pls := List (Nat × Nat)
def stp : Nat → Pls → List Nat
  | _, [] => []
  | next, p :: r => (p.1 - next) :: stp (p.1 + 1) r
def rep (b : Pls) : List Nat := b.map fun p => p.2 - 1
def lastO : Pls → Nat
  | [] => 0
  | [p] => p.1
  | _ :: q :: r => lastO (q :: r)
def mxC (b : Pls) : Nat := mx (b.map (·.2))
def mnL (lens : List Nat) (b : Pls) : Nat := (b.map fun p => lens.getD p.1 0).foldr min 40
def pairB : List Nat → List Nat → Bs
  | s :: ss, r :: rr => vi s ++ vi r ++ pairB ss rr
  | _, _ => []
def body (ss rr : List Nat) : Bs := if ss.length = 4 then [byt (wd ss), byt (wd rr)] ++ pk (wd ss) ss ++ pk (wd rr) rr else pairB ss rr
def encBlk (lens : List Nat) (next : Nat) (b : Pls) : Bs := vi (lastO b) ++ vi (mxC b) ++ vi (mnL lens b) ++ body (stp next b) (rep b)

/-- Places that may be: rising, of documents that are there, with counts and lengths in their bounds. -/
def LV (lens : List Nat) : Nat → Pls → Prop
  | _, [] => True
  | next, p :: r => next ≤ p.1 ∧ p.1 < lens.length ∧ 1 ≤ p.2 ∧ p.2 ≤ 40 ∧ 1 ≤ lens.getD p.1 0 ∧ LV lens (p.1 + 1) r

def pPairs : Nat → Bs → Option ((List Nat × List Nat) × Bs)
  | 0, r => some (([], []), r)
  | k + 1, r => (pNum 0 99 r).bind fun x => (pNum 0 39 x.2).bind fun y => (pPairs k y.2).bind fun z => some ((x.1 :: z.1.1, y.1 :: z.1.2), z.2)
def pWid (r : Bs) : Option (Nat × Bs) := (pByte r).bind fun x => if x.1 ≤ 8 then some x else none
def pBody (size : Nat) (r : Bs) : Option ((List Nat × List Nat) × Bs) :=
  if size < 4 then pPairs size r
  else (pWid r).bind fun a => (pWid a.2).bind fun b => (pPack a.1 b.2).bind fun x => (pPack b.1 x.2).bind fun y => some ((x.1, y.1), y.2)
def mkB (n : Nat) : Nat → List Nat → List Nat → Option Pls
  | _, [], _ => some []
  | next, s :: ss, rr => if next + s < n then (mkB n (next + s + 1) ss rr.tail).map fun l => (next + s, rr.headD 0 + 1) :: l else none
def pHead (n : Nat) (r : Bs) : Option ((Nat × Nat × Nat) × Bs) := (pNum 0 (n - 1) r).bind fun a => (pNum 1 40 a.2).bind fun b => (pNum 1 40 b.2).bind fun c => some ((a.1, b.1, c.1), c.2)
def pBlk (lens : List Nat) (size next : Nat) (r : Bs) : Option (Pls × Bs) :=
  (pHead lens.length r).bind fun h => (pBody size h.2).bind fun x => (mkB lens.length next x.1.1 x.1.2).bind fun b =>
    if h.1 = (lastO b, mxC b, mnL lens b) then some (b, x.2) else none

theorem pPairs_iff : ∀ {k : Nat} {r t : Bs} {ss rr : List Nat}, pPairs k r = some ((ss, rr), t) ↔ r = pairB ss rr ++ t ∧ ss.length = k ∧ rr.length = k ∧ (∀ n ∈ ss, n ≤ 99) ∧ (∀ n ∈ rr, n ≤ 39)
  | 0, r, t, ss, rr => by
    simp only [pPairs, Option.some.injEq, Prod.mk.injEq]
    constructor
    · rintro ⟨⟨rfl, rfl⟩, rfl⟩; simp [pairB]
    · rintro ⟨rfl, h1, h2, _⟩
      rw [List.length_eq_zero_iff] at h1 h2
      subst h1 h2
      simp [pairB]
  | k + 1, r, t, ss, rr => by
    simp only [pPairs, Option.bind_eq_some_iff, Option.some.injEq, Prod.mk.injEq]
    constructor
    · rintro ⟨⟨x, u⟩, h1, ⟨y, v⟩, h2, ⟨⟨zs, zr⟩, z⟩, h3, ⟨rfl, rfl⟩, rfl⟩
      rw [pNum_iff (by omega)] at h1 h2
      rw [pPairs_iff] at h3
      obtain ⟨rfl, _, h1⟩ := h1
      obtain ⟨h2a, _, h2⟩ := h2
      obtain ⟨h3a, h3b, h3c, h3d, h3e⟩ := h3
      simp only at h2a h3a
      subst h2a h3a
      refine ⟨by simp [pairB], by simp [h3b], by simp [h3c], ?_, ?_⟩
      · intro n hn
        rcases List.mem_cons.1 hn with rfl | hn
        · exact h1
        · exact h3d n hn
      · intro n hn
        rcases List.mem_cons.1 hn with rfl | hn
        · exact h2
        · exact h3e n hn
    · rintro ⟨rfl, h1, h2, h3, h4⟩
      match ss, rr, h1, h2, h3, h4 with
      | s :: ss, q :: rr, h1, h2, h3, h4 =>
        refine ⟨(s, vi q ++ (pairB ss rr ++ t)), (pNum_iff (by omega)).2 ⟨by simp [pairB], by omega, h3 s (by simp)⟩, (q, pairB ss rr ++ t), (pNum_iff (by omega)).2 ⟨rfl, by omega, h4 q (by simp)⟩, ((ss, rr), t), ?_, ⟨rfl, rfl⟩, rfl⟩
        exact pPairs_iff.2 ⟨rfl, by simpa using h1, by simpa using h2, fun n hn => h3 n (by simp [hn]), fun n hn => h4 n (by simp [hn])⟩
theorem pWid_iff {r t : Bs} {n : Nat} : pWid r = some (n, t) ↔ r = byt n :: t ∧ n ≤ 8 := by
  unfold pWid
  rw [Option.bind_eq_some_iff]
  constructor
  · rintro ⟨x, h1, h2⟩
    split at h2
    · rename_i h
      simp only [Option.some.injEq] at h2
      subst h2
      exact ⟨(pByte_iff.1 h1).1, h⟩
    · cases h2
  · rintro ⟨rfl, h⟩
    exact ⟨(n, t), pByte_iff.2 ⟨rfl, by omega⟩, by simp [h]⟩
theorem pBody_iff {size : Nat} {r t : Bs} {ss rr : List Nat} (hs : size ≤ 4) : pBody size r = some ((ss, rr), t) ↔
    r = body ss rr ++ t ∧ ss.length = size ∧ rr.length = size ∧ (size < 4 → (∀ n ∈ ss, n ≤ 99) ∧ (∀ n ∈ rr, n ≤ 39)) ∧ (size = 4 → wd ss ≤ 8 ∧ wd rr ≤ 8) := by
  unfold pBody
  split
  · rename_i h
    rw [pPairs_iff]
    constructor
    · rintro ⟨rfl, h1, h2, h3, h4⟩
      exact ⟨by rw [body, if_neg (by omega)], h1, h2, fun _ => ⟨h3, h4⟩, fun e => by omega⟩
    · rintro ⟨rfl, h1, h2, h3, h4⟩
      exact ⟨by rw [body, if_neg (by omega)], h1, h2, (h3 h).1, (h3 h).2⟩
  · rename_i h
    obtain rfl : size = 4 := by omega
    simp only [Option.bind_eq_some_iff, Option.some.injEq, Prod.mk.injEq]
    constructor
    · rintro ⟨⟨a, u⟩, h1, ⟨b, v⟩, h2, ⟨x, p⟩, h3, ⟨y, q⟩, h4, ⟨rfl, rfl⟩, rfl⟩
      rw [pWid_iff] at h1 h2
      rw [pPack_iff] at h3 h4
      obtain ⟨rfl, h1⟩ := h1
      obtain ⟨h2a, h2⟩ := h2
      obtain ⟨h3a, h3, h3b⟩ := h3
      obtain ⟨h4a, h4, h4b⟩ := h4
      simp only at h1 h2a h2 h3a h3 h3b h4a h4 h4b
      subst h2a h3a h4a h3b h4b
      refine ⟨by rw [body, if_pos h3]; simp, h3, h4, fun e => by omega, fun _ => ⟨h1, h2⟩⟩
    · rintro ⟨rfl, h1, h2, _, h4⟩
      rw [body, if_pos h1]
      refine ⟨(wd ss, byt (wd rr) :: (pk (wd ss) ss ++ (pk (wd rr) rr ++ t))), pWid_iff.2 ⟨by simp, (h4 trivial).1⟩, (wd rr, pk (wd ss) ss ++ (pk (wd rr) rr ++ t)), pWid_iff.2 ⟨rfl, (h4 trivial).2⟩,
        (ss, pk (wd rr) rr ++ t), pPack_iff.2 ⟨rfl, h1, rfl⟩, (rr, t), pPack_iff.2 ⟨rfl, h2, rfl⟩, ⟨rfl, rfl⟩, rfl⟩
theorem stp_len : ∀ (next : Nat) (b : Pls), (stp next b).length = b.length
  | _, [] => rfl
  | next, p :: r => by simp [stp, stp_len (p.1 + 1) r]
theorem rep_len (b : Pls) : (rep b).length = b.length := by simp [rep]

/-- Rising ordinals of documents that are there, counts of 1 or more. -/
def Ris (n : Nat) : Nat → Pls → Prop
  | _, [] => True
  | next, p :: r => next ≤ p.1 ∧ p.1 < n ∧ 1 ≤ p.2 ∧ Ris n (p.1 + 1) r
/-- What mkB makes. -/
theorem mkB_iff {n : Nat} : ∀ {ss rr : List Nat} {next : Nat} {b : Pls}, rr.length = ss.length → (mkB n next ss rr = some b ↔ stp next b = ss ∧ rep b = rr ∧ Ris n next b)
  | [], rr, next, b, h => by
    have : rr = [] := by simpa using h
    subst this
    simp only [mkB, Option.some.injEq]
    constructor
    · rintro rfl; simp [stp, rep, Ris]
    · rintro ⟨h1, _⟩
      cases b with
      | nil => rfl
      | cons p r => simp [stp] at h1
  | s :: ss, [], next, b, h => by simp at h
  | s :: ss, q :: rr, next, b, h => by
    simp only [List.length_cons, Nat.add_right_cancel_iff] at h
    simp only [mkB]
    split
    · rename_i hl
      simp only [List.tail_cons, List.headD_cons, Option.map_eq_some_iff]
      constructor
      · rintro ⟨l, h1, rfl⟩
        rw [mkB_iff h] at h1
        obtain ⟨h1, h2, h3⟩ := h1
        exact ⟨by simp [stp, h1], by simp [rep] at h2 ⊢; exact h2, by omega, hl, by simp, h3⟩
      · rintro ⟨h1, h2, h3⟩
        cases b with
        | nil => simp [stp] at h1
        | cons p l =>
          simp only [stp, List.cons.injEq] at h1
          simp only [rep, List.map_cons, List.cons.injEq] at h2
          obtain ⟨g1, g2, g3, g4⟩ := h3
          have e1 : p.1 = next + s := by omega
          refine ⟨l, (mkB_iff h).2 ⟨by rw [← e1]; exact h1.2, h2.2, by rw [← e1]; exact g4⟩, ?_⟩
          obtain ⟨a, c⟩ := p
          simp only at e1 h2 g3 ⊢
          rw [e1]
          congr 2
          omega
    · rename_i hl
      constructor
      · intro e; cases e
      · rintro ⟨h1, h2, h3⟩
        cases b with
        | nil => simp [stp] at h1
        | cons p l =>
          simp only [stp, List.cons.injEq] at h1
          obtain ⟨g1, g2, g3, g4⟩ := h3
          omega
theorem LV.ris {lens : List Nat} : ∀ {next : Nat} {b : Pls}, LV lens next b → Ris lens.length next b
  | _, [], _ => trivial
  | _, _ :: _, ⟨h1, h2, h3, _, _, h6⟩ => ⟨h1, h2, h3, LV.ris h6⟩
theorem LV.of {lens : List Nat} : ∀ {next : Nat} {b : Pls}, Ris lens.length next b → (∀ p ∈ b, p.2 ≤ 40 ∧ 1 ≤ lens.getD p.1 0) → LV lens next b
  | _, [], _, _ => trivial
  | _, p :: _, ⟨h1, h2, h3, h6⟩, h => ⟨h1, h2, h3, (h p (by simp)).1, (h p (by simp)).2, LV.of h6 fun q hq => h q (by simp [hq])⟩
theorem LV.mem {lens : List Nat} : ∀ {next : Nat} {b : Pls}, LV lens next b → ∀ p ∈ b, next ≤ p.1 ∧ p.1 < lens.length ∧ 1 ≤ p.2 ∧ p.2 ≤ 40 ∧ 1 ≤ lens.getD p.1 0
  | _, [], _, p, hp => by simp at hp
  | _, q :: r, ⟨h1, h2, h3, h4, h5, h6⟩, p, hp => by
    rcases List.mem_cons.1 hp with rfl | hp
    · exact ⟨h1, h2, h3, h4, h5⟩
    · have := LV.mem h6 p hp
      exact ⟨by omega, this.2⟩
theorem mnL_le (lens : List Nat) : ∀ b : Pls, mnL lens b ≤ 40
  | [] => by simp [mnL]
  | p :: r => by
    have := mnL_le lens r
    simp only [mnL, List.map_cons, List.foldr_cons] at this ⊢
    omega
theorem mnL_ge {lens : List Nat} : ∀ {b : Pls}, 1 ≤ mnL lens b ↔ ∀ p ∈ b, 1 ≤ lens.getD p.1 0
  | [] => by simp [mnL]
  | p :: r => by
    have := @mnL_ge lens r
    simp only [mnL, List.map_cons, List.foldr_cons, List.mem_cons, forall_eq_or_imp] at this ⊢
    rw [← this]
    omega
theorem mxC_le {b : Pls} {k : Nat} : mxC b ≤ k ↔ ∀ p ∈ b, p.2 ≤ k := by
  unfold mxC; rw [mx_le]
  constructor
  · intro h p hp; exact h p.2 (List.mem_map.2 ⟨p, hp, rfl⟩)
  · intro h n hn; obtain ⟨p, hp, rfl⟩ := List.mem_map.1 hn; exact h p hp
theorem lastO_mem : ∀ {b : Pls}, b ≠ [] → ∃ p ∈ b, lastO b = p.1
  | [], h => absurd rfl h
  | [p], _ => ⟨p, by simp, rfl⟩
  | p :: q :: r, _ => by
    obtain ⟨x, hx, e⟩ := lastO_mem (b := q :: r) (by simp)
    exact ⟨x, List.mem_cons_of_mem _ hx, e⟩
theorem Ris.mem {n : Nat} : ∀ {next : Nat} {b : Pls}, Ris n next b → ∀ p ∈ b, next ≤ p.1 ∧ p.1 < n ∧ 1 ≤ p.2
  | _, [], _, p, hp => by simp at hp
  | _, q :: r, ⟨h1, h2, h3, h6⟩, p, hp => by
    rcases List.mem_cons.1 hp with rfl | hp
    · exact ⟨h1, h2, h3⟩
    · have := Ris.mem h6 p hp
      exact ⟨by omega, this.2⟩
theorem mxC_ge {b : Pls} (hb : b ≠ []) (h : ∀ p ∈ b, 1 ≤ p.2) : 1 ≤ mxC b := by
  cases b with
  | nil => exact absurd rfl hb
  | cons p r =>
    have := h p (by simp)
    have h2 := (mxC_le (b := p :: r) (k := mxC (p :: r))).1 (Nat.le_refl _) p (by simp)
    omega
theorem stp_le {n : Nat} : ∀ {next : Nat} {b : Pls}, Ris n next b → ∀ s ∈ stp next b, s < n
  | _, [], _, s, hs => by simp [stp] at hs
  | _, p :: r, ⟨h1, h2, h3, h4⟩, s, hs => by
    simp only [stp, List.mem_cons] at hs
    rcases hs with rfl | hs
    · omega
    · exact stp_le h4 s hs

theorem pHead_iff {n a b c : Nat} {r t : Bs} (hn : n ≤ 100) : pHead n r = some ((a, b, c), t) ↔ r = vi a ++ vi b ++ vi c ++ t ∧ a ≤ n - 1 ∧ 1 ≤ b ∧ b ≤ 40 ∧ 1 ≤ c ∧ c ≤ 40 := by
  unfold pHead
  simp only [Option.bind_eq_some_iff, Option.some.injEq, Prod.mk.injEq]
  constructor
  · rintro ⟨⟨x, u⟩, h1, ⟨y, v⟩, h2, ⟨z, q⟩, h3, ⟨rfl, rfl, rfl⟩, rfl⟩
    rw [pNum_iff (by omega)] at h1 h2 h3
    obtain ⟨rfl, _, h1⟩ := h1
    obtain ⟨e2, h2a, h2b⟩ := h2
    obtain ⟨e3, h3a, h3b⟩ := h3
    simp only at e2 e3
    subst e2 e3
    exact ⟨by simp, h1, h2a, h2b, h3a, h3b⟩
  · rintro ⟨rfl, h1, h2, h3, h4, h5⟩
    exact ⟨(a, vi b ++ (vi c ++ t)), (pNum_iff (by omega)).2 ⟨by simp, by omega, h1⟩, (b, vi c ++ t), (pNum_iff (by omega)).2 ⟨rfl, h2, h3⟩, (c, t), (pNum_iff (by omega)).2 ⟨rfl, h4, h5⟩, ⟨rfl, rfl, rfl⟩, rfl⟩

/-- A block is read as it is written, and nothing else is. -/
theorem pBlk_iff {lens : List Nat} {size next : Nat} {r t : Bs} {b : Pls} (hs : 1 ≤ size) (h4 : size ≤ 4) (hn : lens.length ≤ 100) :
    pBlk lens size next r = some (b, t) ↔ r = encBlk lens next b ++ t ∧ b.length = size ∧ LV lens next b := by
  unfold pBlk
  simp only [Option.bind_eq_some_iff]
  constructor
  · rintro ⟨⟨⟨x, y, z⟩, u⟩, h1, ⟨⟨ss, rr⟩, v⟩, h2, l, h3, h5⟩
    rw [pHead_iff hn] at h1
    rw [pBody_iff h4] at h2
    obtain ⟨rfl, h1a, h1b, h1c, h1d, h1e⟩ := h1
    obtain ⟨e2, hl1, hl2, _, _⟩ := h2
    simp only at e2 h3 h5
    subst e2
    rw [mkB_iff (by omega)] at h3
    obtain ⟨e3, e4, hr⟩ := h3
    split at h5
    · rename_i he
      simp only [Option.some.injEq, Prod.mk.injEq] at h5 he
      obtain ⟨rfl, rfl⟩ := h5
      obtain ⟨rfl, rfl, rfl⟩ := he
      subst e3 e4
      refine ⟨by simp [encBlk], by rw [← hl2, rep_len], LV.of hr fun p hp => ⟨mxC_le.1 h1c p hp, mnL_ge.1 h1d p hp⟩⟩
    · cases h5
  · rintro ⟨rfl, rfl, hv⟩
    have hr := hv.ris
    have hne : b ≠ [] := by intro e; subst e; simp at hs
    have hm := hv.mem
    refine ⟨((lastO b, mxC b, mnL lens b), body (stp next b) (rep b) ++ t), (pHead_iff hn).2 ⟨by simp [encBlk], ?_, mxC_ge hne (fun p hp => (hm p hp).2.2.1), mxC_le.2 fun p hp => (hm p hp).2.2.2.1, mnL_ge.2 fun p hp => (hm p hp).2.2.2.2, mnL_le _ _⟩,
      ((stp next b, rep b), t), (pBody_iff h4).2 ⟨rfl, stp_len _ _, rep_len _, fun _ => ⟨fun s hs => ?_, fun s hs => ?_⟩, fun _ => ⟨wd_le.2 fun s hs => ?_, wd_le.2 fun s hs => ?_⟩⟩, b, (mkB_iff (by rw [stp_len, rep_len])).2 ⟨rfl, rfl, hr⟩, by simp⟩
    · obtain ⟨p, hp, e⟩ := lastO_mem hne
      have := hm p hp
      omega
    · have := stp_le hr s hs; omega
    · simp only [rep, List.mem_map] at hs
      obtain ⟨p, hp, rfl⟩ := hs
      have := hm p hp
      omega
    · have := stp_le hr s hs; omega
    · simp only [rep, List.mem_map] at hs
      obtain ⟨p, hp, rfl⟩ := hs
      have := hm p hp
      omega

/-! ### all blocks of a token -/
def encPls (lens : List Nat) : Nat → Nat → Pls → Bs
  | 0, _, _ => []
  | f + 1, next, b => if b = [] then [] else encBlk lens next (b.take 4) ++ encPls lens f (lastO (b.take 4) + 1) (b.drop 4)
def pPls (lens : List Nat) : Nat → Nat → Nat → Bs → Option (Pls × Bs)
  | 0, _, _, r => some ([], r)
  | f + 1, k, next, r => if k = 0 then some ([], r) else (pBlk lens (min 4 k) next r).bind fun x => (pPls lens f (k - min 4 k) (lastO x.1 + 1) x.2).bind fun y => some (x.1 ++ y.1, y.2)
theorem LV_append {lens : List Nat} : ∀ {next : Nat} {a b : Pls}, a ≠ [] → (LV lens next (a ++ b) ↔ LV lens next a ∧ LV lens (lastO a + 1) b)
  | _, [], _, h => absurd rfl h
  | next, [p], b, _ => by simp [LV, lastO, and_assoc]
  | next, p :: q :: r, b, _ => by
    have := @LV_append lens (p.1 + 1) (q :: r) b (by simp)
    simp only [List.cons_append] at this ⊢
    have e : LV lens next (p :: q :: r) ↔ next ≤ p.1 ∧ p.1 < lens.length ∧ 1 ≤ p.2 ∧ p.2 ≤ 40 ∧ 1 ≤ lens.getD p.1 0 ∧ LV lens (p.1 + 1) (q :: r) := Iff.rfl
    have e2 : LV lens next (p :: q :: (r ++ b)) ↔ next ≤ p.1 ∧ p.1 < lens.length ∧ 1 ≤ p.2 ∧ p.2 ≤ 40 ∧ 1 ≤ lens.getD p.1 0 ∧ LV lens (p.1 + 1) (q :: (r ++ b)) := Iff.rfl
    rw [e, e2, this, lastO]
    simp only [and_assoc]
theorem pPls_iff {lens : List Nat} (hn : lens.length ≤ 100) : ∀ {f k next : Nat} {r t : Bs} {b : Pls}, k ≤ f → (pPls lens f k next r = some (b, t) ↔ r = encPls lens f next b ++ t ∧ b.length = k ∧ LV lens next b)
  | 0, k, next, r, t, b, hk => by
    simp only [pPls, encPls, Option.some.injEq, Prod.mk.injEq, List.nil_append]
    constructor
    · rintro ⟨rfl, rfl⟩; exact ⟨rfl, by simp; omega, trivial⟩
    · rintro ⟨rfl, h, _⟩
      have : b = [] := List.length_eq_zero_iff.1 (by omega)
      exact ⟨this.symm, rfl⟩
  | f + 1, k, next, r, t, b, hk => by
    simp only [pPls, encPls]
    by_cases h0 : k = 0
    · subst h0
      simp only [if_true, Option.some.injEq, Prod.mk.injEq]
      constructor
      · rintro ⟨rfl, rfl⟩; simp [LV]
      · rintro ⟨rfl, h, _⟩
        have : b = [] := List.length_eq_zero_iff.1 (by omega)
        subst this
        simp
    · simp only [if_neg h0, Option.bind_eq_some_iff, Option.some.injEq, Prod.mk.injEq]
      constructor
      · rintro ⟨⟨x, u⟩, h1, ⟨y, v⟩, h2, rfl, rfl⟩
        rw [pBlk_iff (by omega) (by omega) hn] at h1
        obtain ⟨rfl, hx, hv⟩ := h1
        rw [pPls_iff hn (by omega)] at h2
        obtain ⟨e2, hy, hw⟩ := h2
        simp only at e2 hw
        subst e2
        have hne : x ≠ [] := by intro e; subst e; simp at hx; omega
        have ht : (x ++ y).take 4 = x ∧ (x ++ y).drop 4 = y := by
          by_cases h4 : 4 ≤ k
          · have : x.length = 4 := by omega
            rw [← this]; simp
          · have : y = [] := List.length_eq_zero_iff.1 (by omega)
            subst this
            simp only [List.append_nil]
            exact ⟨List.take_of_length_le (by omega), List.drop_eq_nil_of_le (by omega)⟩
        refine ⟨?_, by simp [hx, hy]; omega, (LV_append hne).2 ⟨hv, hw⟩⟩
        rw [if_neg (by simp [hne]), ht.1, ht.2]
        simp
      · rintro ⟨rfl, rfl, hv⟩
        have hne : b ≠ [] := by intro e; subst e; simp at h0
        rw [if_neg hne]
        have htn : b.take 4 ≠ [] := by simp [hne]
        rw [← List.take_append_drop 4 b, LV_append htn] at hv
        refine ⟨(b.take 4, encPls lens f (lastO (b.take 4) + 1) (b.drop 4) ++ t), (pBlk_iff (by omega) (by omega) hn).2 ⟨by simp, by simp, hv.1⟩,
          (b.drop 4, t), (pPls_iff hn (by omega)).2 ⟨rfl, by simp; omega, hv.2⟩, by simp, rfl⟩
/-- More fuel writes the same. -/
theorem encPls_fuel (lens : List Nat) : ∀ {f g next : Nat} {b : Pls}, b.length ≤ f → b.length ≤ g → encPls lens f next b = encPls lens g next b
  | 0, g, next, b, h, _ => by
    have : b = [] := List.length_eq_zero_iff.1 (by omega)
    subst this
    cases g <;> simp [encPls]
  | f + 1, 0, next, b, _, h => by
    have : b = [] := List.length_eq_zero_iff.1 (by omega)
    subst this
    simp [encPls]
  | f + 1, g + 1, next, b, h1, h2 => by
    simp only [encPls]
    by_cases hb : b = []
    · simp [hb]
    · have : 0 < b.length := List.length_pos_iff.2 hb
      rw [if_neg hb, if_neg hb, encPls_fuel lens (f := f) (g := g) (by simp; omega) (by simp; omega)]
end Go.ScT

namespace Go.ScT

/-- A document as a segment tells it: number, key, length. -/
abbrev DocP := Nat × Bs × Nat
def encDocs : Nat → List DocP → Bs
  | _, [] => []
  | before, d :: r => vi (d.1 - before) ++ vi d.2.2 ++ nm d.2.1 ++ encDocs d.1 r
def OkDocs : Nat → List Bs → List DocP → Prop
  | _, _, [] => True
  | before, seen, d :: r => before < d.1 ∧ d.1 ≤ 100 ∧ d.2.2 ≤ 40 ∧ keyOk d.2.1 = true ∧ d.2.1 ∉ seen ∧ OkDocs d.1 (seen ++ [d.2.1]) r
def pKey (seen : List Bs) (r : Bs) : Option (Bs × Bs) := (pName r).bind fun k => if keyOk k.1 = true ∧ k.1 ∉ seen then some k else none
def pDoc (before : Nat) (seen : List Bs) (r : Bs) : Option (DocP × Bs) :=
  (pNum 1 (100 - before) r).bind fun a => (pNum 0 40 a.2).bind fun l => (pKey seen l.2).bind fun k => some ((before + a.1, k.1, l.1), k.2)
def pDocs : Nat → Nat → List Bs → Bs → Option (List DocP × Bs)
  | 0, _, _, r => some ([], r)
  | k + 1, before, seen, r => (pDoc before seen r).bind fun d => (pDocs k d.1.1 (seen ++ [d.1.2.1]) d.2).bind fun x => some (d.1 :: x.1, x.2)

theorem keyOk_len {k : Bs} (h : keyOk k = true) : 1 ≤ k.length ∧ k.length ≤ 8 := by
  simp [keyOk] at h
  exact ⟨by omega, h.1.2⟩
theorem pKey_iff {seen : List Bs} {r k t : Bs} : pKey seen r = some (k, t) ↔ r = nm k ++ t ∧ keyOk k = true ∧ k ∉ seen := by
  unfold pKey
  rw [Option.bind_eq_some_iff]
  constructor
  · rintro ⟨x, h1, h2⟩
    split at h2
    · rename_i h
      simp only [Option.some.injEq] at h2
      subst h2
      exact ⟨(pName_iff.1 h1).1, h⟩
    · cases h2
  · rintro ⟨rfl, h1, h2⟩
    exact ⟨(k, t), pName_iff.2 ⟨rfl, by have := keyOk_len h1; omega⟩, by simp [h1, h2]⟩
theorem pDoc_iff {before : Nat} {seen : List Bs} {r t : Bs} {d : DocP} : pDoc before seen r = some (d, t) ↔
    r = vi (d.1 - before) ++ vi d.2.2 ++ nm d.2.1 ++ t ∧ before < d.1 ∧ d.1 ≤ 100 ∧ d.2.2 ≤ 40 ∧ keyOk d.2.1 = true ∧ d.2.1 ∉ seen := by
  obtain ⟨n, k, l⟩ := d
  unfold pDoc
  simp only [Option.bind_eq_some_iff, Option.some.injEq, Prod.mk.injEq]
  constructor
  · rintro ⟨⟨a, u⟩, h1, ⟨b, v⟩, h2, ⟨c, z⟩, h3, ⟨rfl, rfl, rfl⟩, rfl⟩
    rw [pNum_iff (by omega)] at h1 h2
    rw [pKey_iff] at h3
    obtain ⟨rfl, h1a, h1b⟩ := h1
    obtain ⟨e2, _, h2⟩ := h2
    obtain ⟨e3, h3a, h3b⟩ := h3
    simp only at e2 e3
    subst e2 e3
    exact ⟨by simp, by omega, by omega, h2, h3a, h3b⟩
  · rintro ⟨rfl, h1, h2, h3, h4, h5⟩
    exact ⟨(n - before, vi l ++ (nm k ++ t)), (pNum_iff (by omega)).2 ⟨by simp, by omega, by omega⟩, (l, nm k ++ t), (pNum_iff (by omega)).2 ⟨rfl, by omega, h3⟩, (k, t), pKey_iff.2 ⟨rfl, h4, h5⟩, ⟨by simp; omega, rfl, rfl⟩, rfl⟩
theorem pDocs_iff : ∀ {k before : Nat} {seen : List Bs} {r t : Bs} {ds : List DocP}, pDocs k before seen r = some (ds, t) ↔ r = encDocs before ds ++ t ∧ ds.length = k ∧ OkDocs before seen ds
  | 0, before, seen, r, t, ds => by
    simp only [pDocs, Option.some.injEq, Prod.mk.injEq]
    constructor
    · rintro ⟨rfl, rfl⟩; simp [encDocs, OkDocs]
    · rintro ⟨rfl, h, _⟩
      have : ds = [] := List.length_eq_zero_iff.1 h
      subst this
      simp [encDocs]
  | k + 1, before, seen, r, t, ds => by
    simp only [pDocs, Option.bind_eq_some_iff, Option.some.injEq, Prod.mk.injEq]
    constructor
    · rintro ⟨⟨d, u⟩, h1, ⟨x, v⟩, h2, rfl, rfl⟩
      rw [pDoc_iff] at h1
      rw [pDocs_iff] at h2
      obtain ⟨rfl, h1⟩ := h1
      obtain ⟨e2, h2a, h2b⟩ := h2
      simp only at e2 h2a h2b
      subst e2
      exact ⟨by simp [encDocs], by simp [h2a], h1.1, h1.2.1, h1.2.2.1, h1.2.2.2.1, h1.2.2.2.2, h2b⟩
    · rintro ⟨rfl, h1, h2⟩
      cases ds with
      | nil => simp at h1
      | cons d x =>
        obtain ⟨g1, g2, g3, g4, g5, g6⟩ := h2
        exact ⟨(d, encDocs d.1 x ++ t), pDoc_iff.2 ⟨by simp [encDocs], g1, g2, g3, g4, g5⟩, (x, t), pDocs_iff.2 ⟨rfl, by simpa using h1, g6⟩, rfl, rfl⟩

/-! ### tokens and their lists -/
def ltB : Bs → Bs → Bool
  | _, [] => false
  | [], _ :: _ => true
  | a :: x, b :: y => decide (a.toNat < b.toNat) || (a == b && ltB x y)
def isTok (t : Bs) : Bool := toks t == [t]
theorem smLet_len {x : Bs} (h : SmLet x) : x.length ≤ 2 := by rcases h with ⟨b, rfl, _⟩ | ⟨c, rfl, _⟩ <;> simp
theorem goodRun_len {t : Bs} {n : Nat} (h : GoodRun t n) : t.length ≤ 20 := by
  obtain ⟨ls, rfl, hl, hn, hs⟩ := h
  have : ∀ (l : List Bs), (∀ x ∈ l, SmLet x) → l.flatten.length ≤ 2 * l.length := by
    intro l
    induction l with
    | nil => simp
    | cons a r ih =>
      intro h
      have h1 := smLet_len (h a (by simp))
      have h2 := ih fun x hx => h x (by simp [hx])
      simp only [List.flatten_cons, List.length_append, List.length_cons]
      omega
  have := this ls hs
  omega
theorem isTok_good {t : Bs} (h : isTok t = true) : Good t := by
  simp [isTok] at h
  exact toks_good t t (by rw [h]; simp)
theorem isTok_len {t : Bs} (h : isTok t = true) : 1 ≤ t.length ∧ t.length ≤ 20 := by
  have hg := isTok_good h
  obtain ⟨h1, n, h2⟩ := hg
  refine ⟨?_, goodRun_len h2⟩
  cases t with
  | nil => simp [stopB] at h1
  | cons a r => simp
theorem isTok_of {t : Bs} (h : Good t) : isTok t = true := by simp [isTok, good_toks t h]
abbrev Lst := Bs × Pls
def encList (lens : List Nat) (l : Lst) : Bs := nm l.1 ++ vi l.2.length ++ encPls lens l.2.length 0 l.2
def encLists (lens : List Nat) : List Lst → Bs
  | [] => []
  | l :: r => encList lens l ++ encLists lens r
def OkLists (lens : List Nat) : Bs → List Lst → Prop
  | _, [] => True
  | before, l :: r => isTok l.1 = true ∧ ltB before l.1 = true ∧ 1 ≤ l.2.length ∧ l.2.length ≤ lens.length ∧ LV lens 0 l.2 ∧ OkLists lens l.1 r
def pTok (before r : Bs) : Option (Bs × Bs) := (pName r).bind fun k => if isTok k.1 = true ∧ ltB before k.1 = true then some k else none
def pList (lens : List Nat) (before r : Bs) : Option (Lst × Bs) :=
  (pTok before r).bind fun k => (pNum 1 lens.length k.2).bind fun c => (pPls lens c.1 c.1 0 c.2).bind fun b => some ((k.1, b.1), b.2)
def pLists (lens : List Nat) : Nat → Bs → Bs → Option (List Lst × Bs)
  | 0, _, r => some ([], r)
  | k + 1, before, r => (pList lens before r).bind fun l => (pLists lens k l.1.1 l.2).bind fun x => some (l.1 :: x.1, x.2)
theorem pTok_iff {before r k t : Bs} : pTok before r = some (k, t) ↔ r = nm k ++ t ∧ isTok k = true ∧ ltB before k = true := by
  unfold pTok
  rw [Option.bind_eq_some_iff]
  constructor
  · rintro ⟨x, h1, h2⟩
    split at h2
    · rename_i h
      simp only [Option.some.injEq] at h2
      subst h2
      exact ⟨(pName_iff.1 h1).1, h⟩
    · cases h2
  · rintro ⟨rfl, h1, h2⟩
    exact ⟨(k, t), pName_iff.2 ⟨rfl, by have := isTok_len h1; omega⟩, by simp [h1, h2]⟩
theorem pList_iff {lens : List Nat} {before r t : Bs} {l : Lst} (hn : lens.length ≤ 100) : pList lens before r = some (l, t) ↔
    r = encList lens l ++ t ∧ isTok l.1 = true ∧ ltB before l.1 = true ∧ 1 ≤ l.2.length ∧ l.2.length ≤ lens.length ∧ LV lens 0 l.2 := by
  obtain ⟨tok, b⟩ := l
  unfold pList
  simp only [Option.bind_eq_some_iff, Option.some.injEq, Prod.mk.injEq]
  constructor
  · rintro ⟨⟨k, u⟩, h1, ⟨c, v⟩, h2, ⟨x, z⟩, h3, ⟨rfl, rfl⟩, rfl⟩
    rw [pTok_iff] at h1
    rw [pNum_iff (by omega)] at h2
    rw [pPls_iff hn (Nat.le_refl _)] at h3
    obtain ⟨rfl, h1⟩ := h1
    obtain ⟨e2, h2⟩ := h2
    obtain ⟨e3, h3a, h3b⟩ := h3
    simp only at e2 e3 h3a h3b h2
    subst e2 e3 h3a
    exact ⟨by simp [encList], h1.1, h1.2, h2.1, h2.2, h3b⟩
  · rintro ⟨rfl, h1, h2, h3, h4, h5⟩
    exact ⟨(tok, vi b.length ++ (encPls lens b.length 0 b ++ t)), pTok_iff.2 ⟨by simp [encList], h1, h2⟩, (b.length, encPls lens b.length 0 b ++ t), (pNum_iff (by omega)).2 ⟨rfl, h3, h4⟩, (b, t), (pPls_iff hn (Nat.le_refl _)).2 ⟨rfl, rfl, h5⟩, ⟨rfl, rfl⟩, rfl⟩
theorem pLists_iff {lens : List Nat} (hn : lens.length ≤ 100) : ∀ {k : Nat} {before r t : Bs} {ls : List Lst}, pLists lens k before r = some (ls, t) ↔ r = encLists lens ls ++ t ∧ ls.length = k ∧ OkLists lens before ls
  | 0, before, r, t, ls => by
    simp only [pLists, Option.some.injEq, Prod.mk.injEq]
    constructor
    · rintro ⟨rfl, rfl⟩; simp [encLists, OkLists]
    · rintro ⟨rfl, h, _⟩
      have : ls = [] := List.length_eq_zero_iff.1 h
      subst this
      simp [encLists]
  | k + 1, before, r, t, ls => by
    simp only [pLists, Option.bind_eq_some_iff, Option.some.injEq, Prod.mk.injEq]
    constructor
    · rintro ⟨⟨l, u⟩, h1, ⟨x, v⟩, h2, rfl, rfl⟩
      rw [pList_iff hn] at h1
      rw [pLists_iff hn] at h2
      obtain ⟨rfl, h1⟩ := h1
      obtain ⟨e2, h2a, h2b⟩ := h2
      simp only at e2 h2a h2b
      subst e2
      exact ⟨by simp [encLists], by simp [h2a], h1.1, h1.2.1, h1.2.2.1, h1.2.2.2.1, h1.2.2.2.2, h2b⟩
    · rintro ⟨rfl, h1, h2⟩
      cases ls with
      | nil => simp at h1
      | cons l x =>
        obtain ⟨g1, g2, g3, g4, g5, g6⟩ := h2
        exact ⟨(l, encLists lens x ++ t), (pList_iff hn).2 ⟨by simp [encLists], g1, g2, g3, g4, g5⟩, (x, t), (pLists_iff hn).2 ⟨rfl, by simpa using h1, g6⟩, rfl, rfl⟩

/-! ### the whole -/
abbrev Cont := List DocP × List Lst
def lensOf (ds : List DocP) : List Nat := ds.map (·.2.2)
def sumAt (ls : List Lst) (i : Nat) : Nat := (((ls.flatMap (·.2)).filter (·.1 == i)).map (·.2)).sum
def sumsOk (ds : List DocP) (ls : List Lst) : Bool := (List.range ds.length).all fun i => sumAt ls i == (lensOf ds).getD i 0
def fnv (bs : Bs) : Nat := bs.foldl (fun h b => (h ^^^ b.toNat) * 16777619 % 4294967296) 2166136261
def chk (bs : Bs) : Bs := leB 4 (fnv bs)
def encC (c : Cont) : Bs := [83, 71] ++ vi c.1.length ++ encDocs 0 c.1 ++ vi c.2.length ++ encLists (lensOf c.1) c.2
def wrt (c : Cont) : Bs := encC c ++ chk (encC c)
structure VC (c : Cont) : Prop where
  some_ : 1 ≤ c.1.length
  most : c.1.length ≤ 100
  docs : OkDocs 0 [] c.1
  few : c.2.length ≤ 4000
  lists : OkLists (lensOf c.1) [] c.2
  sums : sumsOk c.1 c.2 = true
def pBodyC (s : Bs) : Option (Cont × Bs) :=
  (pTake 2 s).bind fun m => if m.1 = [83, 71] then (pNum 1 100 m.2).bind fun n => (pDocs n.1 0 [] n.2).bind fun d => (pNum 0 4000 d.2).bind fun k => (pLists (lensOf d.1) k.1 [] k.2).bind fun l => some ((d.1, l.1), l.2) else none
def pRead (s : Bs) : Option Cont := (pBodyC s).bind fun x =>
  if sumsOk x.1.1 x.1.2 = true then (pTake 4 x.2).bind fun c => if c.1 = chk (s.take (s.length - x.2.length)) then (if c.2 = [] then some x.1 else none) else none else none
theorem lensOf_len (ds : List DocP) : (lensOf ds).length = ds.length := by simp [lensOf]
theorem pBodyC_iff {s t : Bs} {c : Cont} : pBodyC s = some (c, t) ↔ s = encC c ++ t ∧ 1 ≤ c.1.length ∧ c.1.length ≤ 100 ∧ OkDocs 0 [] c.1 ∧ c.2.length ≤ 4000 ∧ OkLists (lensOf c.1) [] c.2 := by
  obtain ⟨ds, ls⟩ := c
  unfold pBodyC
  rw [Option.bind_eq_some_iff]
  constructor
  · rintro ⟨⟨m, u⟩, h0, h⟩
    rw [pTake_iff] at h0
    obtain ⟨rfl, h0⟩ := h0
    split at h
    · rename_i hm
      simp only at hm
      subst hm
      simp only [Option.bind_eq_some_iff, Option.some.injEq, Prod.mk.injEq] at h
      obtain ⟨⟨n, v⟩, h1, ⟨d, z⟩, h2, ⟨k, y⟩, h3, ⟨l, x⟩, h4, ⟨rfl, rfl⟩, rfl⟩ := h
      rw [pNum_iff (by omega)] at h1 h3
      rw [pDocs_iff] at h2
      obtain ⟨e1, h1a, h1b⟩ := h1
      obtain ⟨e2, h2a, h2b⟩ := h2
      simp only at e1 e2 h2a
      subst e1 e2 h2a
      rw [pLists_iff (by rw [lensOf_len]; exact h1b)] at h4
      obtain ⟨e3, _, h3⟩ := h3
      obtain ⟨e4, h4a, h4b⟩ := h4
      simp only at e3 e4 h4a h3
      subst e3 e4 h4a
      exact ⟨by simp [encC], h1a, h1b, h2b, h3, h4b⟩
    · cases h
  · rintro ⟨rfl, h1, h2, h3, h4, h5⟩
    refine ⟨([83, 71], vi ds.length ++ (encDocs 0 ds ++ (vi ls.length ++ (encLists (lensOf ds) ls ++ t)))), pTake_iff.2 ⟨by simp [encC], rfl⟩, ?_⟩
    simp only [if_true, Option.bind_eq_some_iff, Option.some.injEq, Prod.mk.injEq]
    exact ⟨(ds.length, encDocs 0 ds ++ (vi ls.length ++ (encLists (lensOf ds) ls ++ t))), (pNum_iff (by omega)).2 ⟨rfl, h1, h2⟩, (ds, vi ls.length ++ (encLists (lensOf ds) ls ++ t)), pDocs_iff.2 ⟨rfl, rfl, h3⟩,
      (ls.length, encLists (lensOf ds) ls ++ t), (pNum_iff (by omega)).2 ⟨rfl, by omega, h4⟩, (ls, t), (pLists_iff (by rw [lensOf_len]; exact h2)).2 ⟨rfl, rfl, h5⟩, ⟨rfl, rfl⟩, rfl⟩
/-- A text is read if it is the segment of what may be, and as that. -/
theorem pRead_iff {s : Bs} {c : Cont} : pRead s = some c ↔ s = wrt c ∧ VC c := by
  unfold pRead
  rw [Option.bind_eq_some_iff]
  constructor
  · rintro ⟨⟨x, u⟩, h0, h⟩
    rw [pBodyC_iff] at h0
    obtain ⟨rfl, h1, h2, h3, h4, h5⟩ := h0
    split at h
    · rename_i hs
      rw [Option.bind_eq_some_iff] at h
      obtain ⟨⟨y, v⟩, h6, h⟩ := h
      rw [pTake_iff] at h6
      obtain ⟨e6, h6⟩ := h6
      simp only at e6
      subst e6
      split at h
      · rename_i hc
        split at h
        · rename_i hv
          simp only [Option.some.injEq] at h
          simp only at hv hc
          subst h hv
          have : (encC x ++ (y ++ [])).take ((encC x ++ (y ++ [])).length - (y ++ []).length) = encC x := by simp
          rw [this] at hc
          subst hc
          exact ⟨by simp [wrt], h1, h2, h3, h4, h5, hs⟩
        · cases h
      · cases h
    · cases h
  · rintro ⟨rfl, h⟩
    refine ⟨(c, chk (encC c)), pBodyC_iff.2 ⟨rfl, h.some_, h.most, h.docs, h.few, h.lists⟩, ?_⟩
    rw [if_pos h.sums, Option.bind_eq_some_iff]
    refine ⟨(chk (encC c), []), pTake_iff.2 ⟨by simp, leB_len _ _⟩, ?_⟩
    have : (wrt c).take ((wrt c).length - (chk (encC c)).length) = encC c := by simp [wrt]
    simp only [this]
    simp
end Go.ScT

namespace Go.ScT

/-- A document: key, number, tokens. -/
abbrev DocR := Bs × Nat × List Bs

/-! ### rising words -/
theorem ltB_irrefl : ∀ a : Bs, ltB a a = false
  | [] => rfl
  | a :: r => by simp [ltB, ltB_irrefl r]
theorem ltB_trans : ∀ {a b c : Bs}, ltB a b = true → ltB b c = true → ltB a c = true
  | _, _, [], _, h => by simp [ltB] at h
  | _, [], _ :: _, h, _ => by simp [ltB] at h
  | [], _ :: _, _ :: _, _, _ => by simp [ltB]
  | a :: x, b :: y, c :: z, h1, h2 => by
    simp only [ltB, Bool.or_eq_true, decide_eq_true_eq, Bool.and_eq_true, beq_iff_eq] at h1 h2 ⊢
    rcases h1 with h1 | ⟨rfl, h1⟩
    · rcases h2 with h2 | ⟨rfl, h2⟩
      · exact Or.inl (by omega)
      · exact Or.inl h1
    · rcases h2 with h2 | ⟨rfl, h2⟩
      · exact Or.inl h2
      · exact Or.inr ⟨rfl, ltB_trans h1 h2⟩
theorem ltB_total : ∀ {a b : Bs}, a ≠ b → ltB a b = false → ltB b a = true
  | [], [], h, _ => absurd rfl h
  | _ :: _, [], _, _ => by simp [ltB]
  | [], _ :: _, _, h => by simp [ltB] at h
  | a :: x, b :: y, h, h2 => by
    simp only [ltB, Bool.or_eq_false_iff, decide_eq_false_iff_not, Bool.and_eq_false_iff, beq_eq_false_iff_ne, Bool.or_eq_true, decide_eq_true_eq, Bool.and_eq_true, beq_iff_eq] at h2 ⊢
    by_cases e : a = b
    · subst e
      refine Or.inr ⟨rfl, ltB_total (fun e => h (by rw [e])) ?_⟩
      rcases h2.2 with h3 | h3
      · exact absurd rfl h3
      · exact h3
    · refine Or.inl ?_
      have : a.toNat ≠ b.toNat := fun h' => e (UInt8.toNat_inj.1 h')
      omega
theorem ltB_asymm {a b : Bs} (h : ltB a b = true) : ltB b a = false := by
  cases e : ltB b a with
  | false => rfl
  | true => have := ltB_trans h e; rw [ltB_irrefl] at this; cases this
abbrev Srt (l : List Bs) : Prop := l.Pairwise fun a b => ltB a b = true
theorem srt_cons {a : Bs} {r : List Bs} : Srt (a :: r) ↔ (∀ x ∈ r, ltB a x = true) ∧ Srt r := List.pairwise_cons
def plc : List Bs → Bs → List Bs
  | [], s => [s]
  | a :: r, s => if a = s then a :: r else if ltB s a = true then s :: a :: r else a :: plc r s
theorem plc_mem : ∀ {l : List Bs} {s x : Bs}, x ∈ plc l s ↔ x = s ∨ x ∈ l
  | [], s, x => by simp [plc]
  | a :: r, s, x => by
    simp only [plc]
    split
    · rename_i h; subst h; simp
    · split
      · simp
      · simp only [List.mem_cons, plc_mem (l := r)]
        constructor
        · rintro (h | h | h) <;> simp [h]
        · rintro (h | h | h) <;> simp [h]
theorem plc_srt : ∀ {l : List Bs} {s : Bs}, Srt l → Srt (plc l s)
  | [], s, _ => by simp [plc]
  | a :: r, s, h => by
    simp only [plc]
    split
    · exact h
    · rename_i hne
      have h := srt_cons.1 h
      split
      · rename_i hl
        refine srt_cons.2 ⟨fun x hx => ?_, srt_cons.2 h⟩
        rcases List.mem_cons.1 hx with rfl | hx
        · exact hl
        · exact ltB_trans hl (h.1 x hx)
      · rename_i hl
        refine srt_cons.2 ⟨fun x hx => ?_, plc_srt h.2⟩
        rcases plc_mem.1 hx with rfl | hx
        · exact ltB_total (fun e => hne e.symm) (by simpa using hl)
        · exact h.1 x hx
theorem plc_len : ∀ (l : List Bs) (s : Bs), (plc l s).length ≤ l.length + 1
  | [], s => by simp [plc]
  | a :: r, s => by
    simp only [plc]
    split
    · simp
    · split
      · simp
      · have := plc_len r s; simp; omega
theorem srt_unique : ∀ {a b : List Bs}, Srt a → Srt b → (∀ x, x ∈ a ↔ x ∈ b) → a = b
  | [], [], _, _, _ => rfl
  | [], y :: b, _, _, h => by have := (h y).2 (by simp); simp at this
  | x :: a, [], _, _, h => by have := (h x).1 (by simp); simp at this
  | x :: a, y :: b, ha, hb, h => by
    have ha := srt_cons.1 ha
    have hb := srt_cons.1 hb
    have hxy : x = y := by
      rcases List.mem_cons.1 ((h x).1 (by simp)) with e | hx
      · exact e
      · rcases List.mem_cons.1 ((h y).2 (by simp)) with e | hy
        · exact e.symm
        · have h1 := hb.1 x hx
          have h2 := ha.1 y hy
          rw [ltB_asymm h1] at h2
          cases h2
    subst hxy
    congr 1
    refine srt_unique ha.2 hb.2 fun z => ?_
    have hz := h z
    simp only [List.mem_cons] at hz
    constructor
    · intro hz1
      rcases hz.1 (Or.inr hz1) with e | e
      · subst e; have := ha.1 z hz1; rw [ltB_irrefl] at this; cases this
      · exact e
    · intro hz1
      rcases hz.2 (Or.inr hz1) with e | e
      · subst e; have := hb.1 z hz1; rw [ltB_irrefl] at this; cases this
      · exact e
def wordsOf (l : List DocR) : List Bs := (l.flatMap (·.2.2)).foldl plc []
theorem foldl_plc_mem : ∀ {ts l : List Bs} {x : Bs}, x ∈ ts.foldl plc l ↔ x ∈ ts ∨ x ∈ l
  | [], l, x => by simp
  | t :: ts, l, x => by
    simp only [List.foldl_cons, foldl_plc_mem (ts := ts), plc_mem, List.mem_cons]
    constructor
    · rintro (h | h | h) <;> simp [h]
    · rintro ((h | h) | h) <;> simp [h]
theorem foldl_plc_srt : ∀ {ts l : List Bs}, Srt l → Srt (ts.foldl plc l)
  | [], _, h => h
  | _ :: ts, _, h => foldl_plc_srt (ts := ts) (plc_srt h)
theorem foldl_plc_len : ∀ (ts l : List Bs), (ts.foldl plc l).length ≤ ts.length + l.length
  | [], _ => by simp
  | t :: ts, l => by
    have h1 := foldl_plc_len ts (plc l t)
    have h2 := plc_len l t
    simp only [List.foldl_cons, List.length_cons]
    omega
theorem wordsOf_srt (l : List DocR) : Srt (wordsOf l) := foldl_plc_srt List.Pairwise.nil
theorem wordsOf_mem {l : List DocR} {x : Bs} : x ∈ wordsOf l ↔ ∃ d ∈ l, x ∈ d.2.2 := by
  unfold wordsOf; rw [foldl_plc_mem]; simp
theorem srt_nodup {l : List Bs} (h : Srt l) : l.Nodup := by
  refine List.Pairwise.imp ?_ h
  rintro a b hab rfl
  rw [ltB_irrefl] at hab
  cases hab

/-! ### what a segment holds of documents -/
def plsFrom : Nat → List DocR → Bs → Pls
  | _, [], _ => []
  | i, d :: r, w => if 0 < d.2.2.count w then (i, d.2.2.count w) :: plsFrom (i + 1) r w else plsFrom (i + 1) r w
def docsP (l : List DocR) : List DocP := l.map fun d => (d.2.1, d.1, d.2.2.length)
def listsP (l : List DocR) : List Lst := (wordsOf l).map fun w => (w, plsFrom 0 l w)
def cont (l : List DocR) : Cont := (docsP l, listsP l)

structure DocOk (d : DocR) : Prop where
  key : keyOk d.1 = true
  low : 1 ≤ d.2.1
  high : d.2.1 ≤ 100
  len : d.2.2.length ≤ 40
  toks : ∀ t ∈ d.2.2, isTok t = true
structure Could (l : List DocR) : Prop where
  some_ : 1 ≤ l.length
  most : l.length ≤ 100
  doc : ∀ d ∈ l, DocOk d
  apart : l.Pairwise fun a b => a.1 ≠ b.1 ∧ a.2.1 < b.2.1

theorem okDocs_of : ∀ {l : List DocR} {before : Nat} {seen : List Bs}, (∀ d ∈ l, DocOk d) → (l.Pairwise fun a b => a.1 ≠ b.1 ∧ a.2.1 < b.2.1) → (∀ d ∈ l, before < d.2.1 ∧ d.1 ∉ seen) → OkDocs before seen (docsP l)
  | [], _, _, _, _, _ => trivial
  | d :: r, before, seen, h1, h2, h3 => by
    rw [List.pairwise_cons] at h2
    have hd := h1 d (by simp)
    refine ⟨(h3 d (by simp)).1, hd.high, hd.len, hd.key, (h3 d (by simp)).2, ?_⟩
    refine okDocs_of (l := r) (fun x hx => h1 x (by simp [hx])) h2.2 fun x hx => ⟨(h2.1 x hx).2, ?_⟩
    simp only [List.mem_append, List.mem_singleton, not_or]
    exact ⟨(h3 x (by simp [hx])).2, fun e => (h2.1 x hx).1 e.symm⟩
theorem flatMap_len {l : List DocR} {k : Nat} : (∀ d ∈ l, d.2.2.length ≤ k) → (l.flatMap (·.2.2)).length ≤ k * l.length := by
  induction l with
  | nil => simp
  | cons d r ih =>
    intro h
    have h1 := h d (by simp)
    have h2 := ih fun x hx => h x (by simp [hx])
    simp only [List.flatMap_cons, List.length_append, List.length_cons, Nat.mul_succ]
    omega
theorem plsFrom_len : ∀ (i : Nat) (l : List DocR) (w : Bs), (plsFrom i l w).length ≤ l.length
  | _, [], _ => by simp [plsFrom]
  | i, d :: r, w => by
    have := plsFrom_len (i + 1) r w
    simp only [plsFrom]
    split <;> simp <;> omega
theorem plsFrom_some : ∀ {i : Nat} {l : List DocR} {w : Bs} {d : DocR}, d ∈ l → w ∈ d.2.2 → 1 ≤ (plsFrom i l w).length
  | i, d :: r, w, e, h1, h2 => by
    simp only [plsFrom]
    split
    · simp
    · rename_i hn
      rcases List.mem_cons.1 h1 with rfl | h1
      · exact absurd (List.count_pos_iff.2 h2) hn
      · exact plsFrom_some h1 h2
theorem plsFrom_LV {lens : List Nat} {w : Bs} : ∀ {l : List DocR} {i next : Nat}, next ≤ i → lens.drop i = l.map (fun d => d.2.2.length) → (∀ d ∈ l, d.2.2.length ≤ 40) → LV lens next (plsFrom i l w)
  | [], _, _, _, _, _ => trivial
  | d :: r, i, next, hi, hd, hl => by
    have hlen : i < lens.length := by
      have := congrArg List.length hd
      simp at this
      omega
    have hg : lens.getD i 0 = d.2.2.length := by
      have := congrArg (fun x => x[0]?) hd
      simp at this
      rw [List.getD_eq_getElem?_getD, this]
      rfl
    have hd' : lens.drop (i + 1) = r.map (fun d => d.2.2.length) := by
      have := congrArg List.tail hd
      simpa using this
    simp only [plsFrom]
    split
    · rename_i hc
      have hle := List.count_le_length (a := w) (l := d.2.2)
      have := hl d (by simp)
      exact ⟨hi, hlen, hc, by omega, by rw [hg]; omega, plsFrom_LV (l := r) (Nat.le_refl _) hd' fun x hx => hl x (by simp [hx])⟩
    · exact plsFrom_LV (l := r) (by omega) hd' fun x hx => hl x (by simp [hx])
theorem plsFrom_sum {w : Bs} : ∀ {l : List DocR} {j i : Nat}, (((plsFrom j l w).filter (·.1 == i)).map (·.2)).sum = if j ≤ i then ((l[i - j]?).map fun d => d.2.2.count w).getD 0 else 0
  | [], j, i => by simp [plsFrom]
  | d :: r, j, i => by
    have ih := @plsFrom_sum w r (j + 1) i
    have key : (((plsFrom (j + 1) r w).filter (·.1 == i)).map (·.2)).sum + (if j = i then d.2.2.count w else 0) = if j ≤ i then (((d :: r)[i - j]?).map fun d => d.2.2.count w).getD 0 else 0 := by
      rw [ih]
      by_cases h1 : j = i
      · subst h1; rw [if_neg (by omega)]; simp
      · by_cases h2 : j ≤ i
        · have : i - j = (i - (j + 1)) + 1 := by omega
          rw [if_pos (by omega), if_neg h1, if_pos h2, this]
          simp
        · rw [if_neg (by omega), if_neg h1, if_neg h2]
    simp only [plsFrom]
    split
    · rename_i hc
      rw [← key]
      by_cases h1 : j = i
      · subst h1; simp; omega
      · simp [h1]
    · rename_i hc
      rw [← key]
      have : d.2.2.count w = 0 := by omega
      simp [this]
theorem ind_sum {a : Bs} : ∀ {ws : List Bs}, ws.Nodup → (ws.map fun w => if a = w then 1 else 0).sum = if a ∈ ws then 1 else 0
  | [], _ => by simp
  | w :: ws, h => by
    rw [List.nodup_cons] at h
    simp only [List.map_cons, List.sum_cons, ind_sum h.2, List.mem_cons]
    by_cases e : a = w
    · subst e; simp [h.1]
    · simp [e]
theorem sum_add (f g : Bs → Nat) : ∀ ws : List Bs, (ws.map fun w => f w + g w).sum = (ws.map f).sum + (ws.map g).sum
  | [] => by simp
  | w :: ws => by simp only [List.map_cons, List.sum_cons, sum_add f g ws]; omega
theorem count_sum {ws : List Bs} (h : ws.Nodup) : ∀ {ts : List Bs}, (∀ t ∈ ts, t ∈ ws) → (ws.map fun w => ts.count w).sum = ts.length
  | [], _ => by
    have : (ws.map fun w => ([] : List Bs).count w) = ws.map fun _ => 0 := by simp
    rw [this]
    induction ws with
    | nil => simp
    | cons a r ih => simp only [List.map_cons, List.sum_cons, Nat.zero_add]; rw [ih (List.nodup_cons.1 h).2 (by simp)]; rfl
  | t :: ts, ht => by
    have ih := count_sum h (ts := ts) fun x hx => ht x (by simp [hx])
    have e : (ws.map fun w => (t :: ts).count w) = ws.map fun w => ts.count w + (if t = w then 1 else 0) := by
      apply List.map_congr_left
      intro w _
      rw [List.count_cons]
      simp
    rw [e, sum_add, ih, ind_sum h, if_pos (ht t (by simp))]
    simp
theorem sumAt_lists (l : List DocR) (i : Nat) : ∀ ws : List Bs, sumAt (ws.map fun w => (w, plsFrom 0 l w)) i = (ws.map fun w => ((l[i]?).map fun d => d.2.2.count w).getD 0).sum
  | [] => by simp [sumAt]
  | w :: ws => by
    have ih := sumAt_lists l i ws
    have h1 := @plsFrom_sum w l 0 i
    simp only [Nat.zero_le, if_true, Nat.sub_zero] at h1
    unfold sumAt at ih ⊢
    simp only [List.map_cons, List.flatMap_cons, List.filter_append, List.map_append, List.sum_append, List.sum_cons]
    rw [h1, ih]
theorem okLists_of {lens : List Nat} {l : List DocR} : ∀ {ws : List Bs} {before : Bs}, Srt ws → (∀ w ∈ ws, ltB before w = true ∧ isTok w = true ∧ 1 ≤ (plsFrom 0 l w).length ∧ (plsFrom 0 l w).length ≤ lens.length ∧ LV lens 0 (plsFrom 0 l w)) → OkLists lens before (ws.map fun w => (w, plsFrom 0 l w))
  | [], _, _, _ => trivial
  | w :: ws, before, hs, h => by
    have hs := srt_cons.1 hs
    obtain ⟨h1, h2, h3, h4, h5⟩ := h w (by simp)
    exact ⟨h2, h1, h3, h4, h5, okLists_of hs.2 fun x hx => ⟨hs.1 x hx, (h x (by simp [hx])).2⟩⟩
/-- Of documents that could be, a segment may be written. -/
theorem vc_cont {l : List DocR} (h : Could l) : VC (cont l) := by
  have hlen : ∀ d ∈ l, d.2.2.length ≤ 40 := fun d hd => (h.doc d hd).len
  have hdp : (docsP l).length = l.length := by simp [docsP]
  have hlp : lensOf (docsP l) = l.map fun d => d.2.2.length := by simp [lensOf, docsP]
  refine ⟨by rw [cont, hdp]; exact h.some_, by rw [cont, hdp]; exact h.most, okDocs_of h.doc h.apart fun d hd => ⟨(h.doc d hd).low, by simp⟩, ?_, ?_, ?_⟩
  · have h1 := foldl_plc_len (l.flatMap (·.2.2)) []
    have h2 := flatMap_len hlen
    have h3 := h.most
    simp only [cont, listsP, List.length_map, wordsOf]
    simp only [List.length_nil] at h1
    omega
  · refine okLists_of (wordsOf_srt l) fun w hw => ?_
    obtain ⟨d, hd, hwd⟩ := wordsOf_mem.1 hw
    have ht := (h.doc d hd).toks w hwd
    refine ⟨?_, ht, plsFrom_some hd hwd, ?_, ?_⟩
    · have := (isTok_len ht).1
      cases w with
      | nil => simp at this
      | cons a r => rfl
    · rw [lensOf_len, cont, hdp]; exact plsFrom_len _ _ _
    · exact plsFrom_LV (Nat.le_refl _) (by rw [cont, hlp]; simp) hlen
  · unfold sumsOk
    rw [List.all_eq_true]
    intro i hi
    rw [List.mem_range, cont, hdp] at hi
    rw [beq_iff_eq, cont, listsP, sumAt_lists, hlp]
    have e : l[i]? = some l[i] := List.getElem?_eq_getElem hi
    simp only [e, Option.map_some, Option.getD_some]
    rw [count_sum (srt_nodup (wordsOf_srt l)) fun t ht => wordsOf_mem.2 ⟨l[i], List.getElem_mem hi, ht⟩]
    simp [List.getD_eq_getElem?_getD, e]
end Go.ScT

namespace Go.ScT

def cntAt (b : Pls) (i : Nat) : Nat := ((b.filter (·.1 == i)).map (·.2)).sum
def toksAt (ls : List Lst) (i : Nat) : List Bs := ls.flatMap fun l => List.replicate (cntAt l.2 i) l.1
def docsFrom (ls : List Lst) : Nat → List DocP → List DocR
  | _, [] => []
  | i, d :: r => (d.2.1, d.1, toksAt ls i) :: docsFrom ls (i + 1) r
def docsOf (c : Cont) : List DocR := docsFrom c.2 0 c.1

theorem cntAt_cons (p : Nat × Nat) (r : Pls) (i : Nat) : cntAt (p :: r) i = (if p.1 = i then p.2 else 0) + cntAt r i := by
  unfold cntAt
  by_cases h : p.1 = i <;> simp [h]
theorem sumAt_cons (l : Lst) (ls : List Lst) (i : Nat) : sumAt (l :: ls) i = cntAt l.2 i + sumAt ls i := by
  simp [sumAt, cntAt]
theorem toksAt_len (i : Nat) : ∀ ls : List Lst, (toksAt ls i).length = sumAt ls i
  | [] => by simp [toksAt, sumAt]
  | l :: ls => by
    have := toksAt_len i ls
    rw [sumAt_cons, ← this]
    simp [toksAt]
theorem cntAt_low {n : Nat} : ∀ {next : Nat} {b : Pls} {i : Nat}, Ris n next b → i < next → cntAt b i = 0
  | _, [], i, _, _ => by simp [cntAt]
  | next, p :: r, i, ⟨h1, h2, h3, h4⟩, hi => by
    rw [cntAt_cons, if_neg (by omega), cntAt_low h4 (by omega)]
theorem cntAt_mem {n : Nat} : ∀ {next : Nat} {b : Pls} {p : Nat × Nat}, Ris n next b → p ∈ b → cntAt b p.1 = p.2
  | _, [], p, _, h => by simp at h
  | next, q :: r, p, ⟨h1, h2, h3, h4⟩, hp => by
    rw [cntAt_cons]
    rcases List.mem_cons.1 hp with rfl | hp
    · rw [if_pos rfl, cntAt_low h4 (by omega)]; rfl
    · have := (h4.mem p hp).1
      rw [if_neg (by omega), cntAt_mem h4 hp]; omega
def plsC : Nat → Nat → (Nat → Nat) → Pls
  | _, 0, _ => []
  | i, k + 1, f => if 0 < f i then (i, f i) :: plsC (i + 1) k f else plsC (i + 1) k f
theorem plsC_ris : ∀ {k i : Nat} {b : Pls} {f : Nat → Nat}, Ris (i + k) i b → (∀ j, i ≤ j → f j = cntAt b j) → plsC i k f = b
  | 0, i, b, f, h, _ => by
    cases b with
    | nil => rfl
    | cons p r => have := h.1; have := h.2.1; omega
  | k + 1, i, b, f, h, hf => by
    simp only [plsC]
    cases b with
    | nil =>
      have : f i = 0 := by rw [hf i (Nat.le_refl _)]; simp [cntAt]
      rw [this, if_neg (by omega)]
      exact plsC_ris trivial fun j hj => hf j (by omega)
    | cons p r =>
      obtain ⟨h1, h2, h3, h4⟩ := h
      by_cases e : p.1 = i
      · have hfi : f i = p.2 := by
          rw [hf i (Nat.le_refl _), cntAt_cons, if_pos e, cntAt_low h4 (by omega)]; rfl
        rw [hfi, if_pos (by omega)]
        have : plsC (i + 1) k f = r := by
          refine plsC_ris (by rw [← e, show p.1 + 1 + k = i + (k + 1) by omega]; exact h4) fun j hj => ?_
          rw [hf j (by omega), cntAt_cons, if_neg (by omega)]; omega
        rw [this, ← e]
      · have hfi : f i = 0 := by
          rw [hf i (Nat.le_refl _), cntAt_cons, if_neg e, cntAt_low h4 (by omega)]
        rw [hfi, if_neg (by omega)]
        refine plsC_ris (b := p :: r) ⟨by omega, by omega, h3, by rw [show i + 1 + k = i + (k + 1) by omega]; exact h4⟩ fun j hj => hf j (by omega)
theorem plsFrom_docs (ls : List Lst) (w : Bs) : ∀ (ds : List DocP) (i : Nat), plsFrom i (docsFrom ls i ds) w = plsC i ds.length fun j => (toksAt ls j).count w
  | [], _ => rfl
  | d :: r, i => by
    simp only [docsFrom, plsFrom, List.length_cons, plsC, plsFrom_docs ls w r (i + 1)]
theorem count_toks_none {i : Nat} {w : Bs} : ∀ {ls : List Lst}, (∀ l ∈ ls, l.1 ≠ w) → (toksAt ls i).count w = 0
  | [], _ => by simp [toksAt]
  | l :: ls, h => by
    have h1 := h l (by simp)
    have h2 := count_toks_none (i := i) (ls := ls) fun x hx => h x (by simp [hx])
    simp only [toksAt, List.flatMap_cons, List.count_append, List.count_replicate] at h2 ⊢
    rw [h2]
    simp [h1]
theorem count_toks {i : Nat} : ∀ {ls : List Lst} {l : Lst}, (ls.map (·.1)).Nodup → l ∈ ls → (toksAt ls i).count l.1 = cntAt l.2 i
  | [], _, _, h => by simp at h
  | a :: ls, l, hn, hl => by
    simp only [List.map_cons, List.nodup_cons, List.mem_map, not_exists, not_and] at hn
    simp only [toksAt, List.flatMap_cons, List.count_append, List.count_replicate]
    rcases List.mem_cons.1 hl with rfl | hl
    · have := count_toks_none (i := i) (w := l.1) (ls := ls) fun x hx => hn.1 x hx
      unfold toksAt at this
      rw [this]
      simp
    · have := count_toks (i := i) hn.2 hl
      unfold toksAt at this
      rw [this]
      have hne : a.1 ≠ l.1 := fun e => hn.1 l hl e.symm
      simp [hne]
theorem okLists_srt {lens : List Nat} : ∀ {ls : List Lst} {before : Bs}, OkLists lens before ls → Srt (ls.map (·.1)) ∧ ∀ l ∈ ls, ltB before l.1 = true
  | [], _, _ => by simp
  | l :: ls, before, ⟨_, h2, _, _, _, h6⟩ => by
    have ih := okLists_srt h6
    refine ⟨?_, ?_⟩
    · rw [List.map_cons]
      refine srt_cons.2 ⟨fun x hx => ?_, ih.1⟩
      obtain ⟨y, hy, rfl⟩ := List.mem_map.1 hx
      exact ih.2 y hy
    · intro x hx
      rcases List.mem_cons.1 hx with rfl | hx
      · exact h2
      · exact ltB_trans h2 (ih.2 x hx)
theorem okLists_mem {lens : List Nat} : ∀ {ls : List Lst} {before : Bs}, OkLists lens before ls → ∀ l ∈ ls, isTok l.1 = true ∧ 1 ≤ l.2.length ∧ l.2.length ≤ lens.length ∧ LV lens 0 l.2
  | [], _, _, _, h => by simp at h
  | l :: ls, before, ⟨h1, _, h3, h4, h5, h6⟩, x, hx => by
    rcases List.mem_cons.1 hx with rfl | hx
    · exact ⟨h1, h3, h4, h5⟩
    · exact okLists_mem h6 x hx
theorem docsFrom_get (ls : List Lst) : ∀ (ds : List DocP) (i j : Nat), (docsFrom ls i ds)[j]? = (ds[j]?).map fun d => (d.2.1, d.1, toksAt ls (i + j))
  | [], _, _ => by simp [docsFrom]
  | d :: r, i, 0 => by simp [docsFrom]
  | d :: r, i, j + 1 => by
    simp only [docsFrom, List.getElem?_cons_succ, docsFrom_get ls r (i + 1) j]
    rw [show i + 1 + j = i + (j + 1) by omega]
theorem docsFrom_len (ls : List Lst) : ∀ (ds : List DocP) (i : Nat), (docsFrom ls i ds).length = ds.length
  | [], _ => rfl
  | d :: r, i => by simp [docsFrom, docsFrom_len ls r]
theorem docsFrom_mem {ls : List Lst} {ds : List DocP} {x : DocR} (h : x ∈ docsFrom ls 0 ds) : ∃ (i : Nat) (d : DocP), ds[i]? = some d ∧ x = (d.2.1, d.1, toksAt ls i) := by
  obtain ⟨i, hi⟩ := List.mem_iff_getElem?.1 h
  rw [docsFrom_get] at hi
  cases hd : ds[i]? with
  | none => rw [hd] at hi; simp at hi
  | some d =>
    rw [hd] at hi
    simp at hi
    exact ⟨i, d, hd, hi.symm⟩
theorem okDocs_mem : ∀ {ds : List DocP} {before : Nat} {seen : List Bs}, OkDocs before seen ds → ∀ d ∈ ds, before < d.1 ∧ d.1 ≤ 100 ∧ d.2.2 ≤ 40 ∧ keyOk d.2.1 = true ∧ d.2.1 ∉ seen
  | [], _, _, _, _, h => by simp at h
  | a :: r, before, seen, ⟨h1, h2, h3, h4, h5, h6⟩, d, hd => by
    rcases List.mem_cons.1 hd with rfl | hd
    · exact ⟨h1, h2, h3, h4, h5⟩
    · have := okDocs_mem h6 d hd
      exact ⟨by omega, this.2.1, this.2.2.1, this.2.2.2.1, fun e => this.2.2.2.2 (by simp [e])⟩
theorem okDocs_apart (ls : List Lst) : ∀ {ds : List DocP} {before : Nat} {seen : List Bs} (i : Nat), OkDocs before seen ds → (docsFrom ls i ds).Pairwise fun a b => a.1 ≠ b.1 ∧ a.2.1 < b.2.1
  | [], _, _, _, _ => List.Pairwise.nil
  | a :: r, before, seen, i, ⟨h1, h2, h3, h4, h5, h6⟩ => by
    simp only [docsFrom]
    refine List.pairwise_cons.2 ⟨fun x hx => ?_, okDocs_apart ls (i + 1) h6⟩
    obtain ⟨j, hj⟩ := List.mem_iff_getElem?.1 hx
    rw [docsFrom_get] at hj
    cases hd : r[j]? with
    | none => rw [hd] at hj; simp at hj
    | some d =>
      rw [hd] at hj
      simp at hj
      subst hj
      have := okDocs_mem h6 d (List.mem_of_getElem? hd)
      exact ⟨fun e => this.2.2.2.2 (by simp at e; simp [e]), this.1⟩
theorem vc_lens {c : Cont} (h : VC c) {i : Nat} {d : DocP} (hd : c.1[i]? = some d) : (toksAt c.2 i).length = d.2.2 := by
  have hs := h.sums
  unfold sumsOk at hs
  rw [List.all_eq_true] at hs
  have hi : i < c.1.length := (List.getElem?_eq_some_iff.1 hd).1
  have := hs i (List.mem_range.2 hi)
  rw [beq_iff_eq] at this
  rw [toksAt_len, this, List.getD_eq_getElem?_getD, lensOf, List.getElem?_map, hd]
  rfl
theorem could_docsOf {c : Cont} (h : VC c) : Could (docsOf c) := by
  refine ⟨by rw [docsOf, docsFrom_len]; exact h.some_, by rw [docsOf, docsFrom_len]; exact h.most, fun x hx => ?_, okDocs_apart _ 0 h.docs⟩
  obtain ⟨i, d, hd, rfl⟩ := docsFrom_mem hx
  have hm := okDocs_mem h.docs d (List.mem_of_getElem? hd)
  refine ⟨hm.2.2.2.1, hm.1, hm.2.1, by simp only; rw [vc_lens h hd]; exact hm.2.2.1, fun t ht => ?_⟩
  simp only [toksAt, List.mem_flatMap, List.mem_replicate] at ht
  obtain ⟨l, hl, _, rfl⟩ := ht
  exact (okLists_mem h.lists l hl).1
theorem words_docsOf {c : Cont} (h : VC c) : wordsOf (docsOf c) = c.2.map (·.1) := by
  have hs := okLists_srt h.lists
  refine srt_unique (wordsOf_srt _) hs.1 fun x => ?_
  rw [wordsOf_mem]
  constructor
  · rintro ⟨d, hd, hx⟩
    obtain ⟨i, d', hd', rfl⟩ := docsFrom_mem hd
    simp only [toksAt, List.mem_flatMap, List.mem_replicate] at hx
    obtain ⟨l, hl, _, rfl⟩ := hx
    exact List.mem_map.2 ⟨l, hl, rfl⟩
  · intro hx
    obtain ⟨l, hl, rfl⟩ := List.mem_map.1 hx
    obtain ⟨h1, h2, h3, h4⟩ := okLists_mem h.lists l hl
    have hne : l.2 ≠ [] := by intro e; rw [e] at h2; simp at h2
    obtain ⟨p, hp⟩ := List.exists_mem_of_ne_nil _ hne
    have hpm := h4.mem p hp
    rw [lensOf_len] at hpm
    have hc := cntAt_mem h4.ris hp
    refine ⟨(docsFrom c.2 0 c.1)[p.1]'(by rw [docsFrom_len]; exact hpm.2.1), List.getElem_mem _, ?_⟩
    have hg := docsFrom_get c.2 c.1 0 p.1
    rw [List.getElem?_eq_getElem (by rw [docsFrom_len]; exact hpm.2.1), List.getElem?_eq_getElem hpm.2.1] at hg
    simp at hg
    rw [hg]
    simp only [toksAt, List.mem_flatMap, List.mem_replicate]
    exact ⟨l, hl, by omega, rfl⟩
/-- The documents' own content is what was told. -/
theorem cont_docsOf {c : Cont} (h : VC c) : cont (docsOf c) = c := by
  have hw := words_docsOf h
  have hs := okLists_srt h.lists
  have e1 : docsP (docsOf c) = c.1 := by
    apply List.ext_getElem?
    intro i
    rw [docsP, List.getElem?_map, docsOf, docsFrom_get]
    cases hd : c.1[i]? with
    | none => rfl
    | some d =>
      have := vc_lens h hd
      simp [this]
  have e2 : listsP (docsOf c) = c.2 := by
    rw [listsP, hw, List.map_map]
    have : ∀ l ∈ c.2, ((fun w => (w, plsFrom 0 (docsOf c) w)) ∘ fun x => x.1) l = l := by
      intro l hl
      obtain ⟨h1, h2, h3, h4⟩ := okLists_mem h.lists l hl
      have hp : plsFrom 0 (docsOf c) l.1 = l.2 := by
        rw [docsOf, plsFrom_docs]
        refine plsC_ris (by rw [Nat.zero_add, ← lensOf_len]; exact h4.ris) fun j _ => ?_
        exact count_toks (srt_nodup hs.1) hl
      simp [hp]
    rw [List.map_congr_left this]
    simp
  simp only [cont, e1, e2]
end Go.ScT

namespace Go.ScT

abbrev RSt := Bs × Bool
def rByte (st : RSt) : Nat × RSt := match st with
  | (b :: t, false) => (b.toNat, (t, false))
  | (r, _) => (0, (r, true))
def rFin (most n : Nat) (st : RSt) : Nat × RSt := (n, (st.1, st.2 || decide (most < n)))
def rVar (most : Nat) (st : RSt) : Nat × RSt :=
  if (rByte st).1 < 128 then rFin most (rByte st).1 (rByte st).2
  else if (rByte (rByte st).2).1 < 128 then rFin most ((rByte st).1 % 128 + (rByte (rByte st).2).1 * 128) (rByte (rByte st).2).2
  else rFin most ((rByte st).1 % 128 + (rByte (rByte st).2).1 % 128 * 128 + (rByte (rByte (rByte st).2).2).1 % 128 * 16384) (rByte (rByte (rByte st).2).2).2
def rText (st : RSt) : Bs × RSt :=
  if (rByte st).2.2 = true ∨ (rByte st).2.1.length < (rByte st).1 then ([], ((rByte st).2.1, true))
  else ((rByte st).2.1.take (rByte st).1, ((rByte st).2.1.drop (rByte st).1, false))
/-- Bits: what is left of a byte, how many bits of it, the reader. -/
abbrev RBt := Nat × Nat × RSt
def rFill (x : RBt) : RBt := if x.2.1 = 0 then ((rByte x.2.2).1, 8, (rByte x.2.2).2) else x
def rBit (x : RBt) : Nat × RBt := ((rFill x).1 % 2, ((rFill x).1 / 2, (rFill x).2.1 - 1, (rFill x).2.2))
def rNum : Nat → Nat → Nat → RBt → Nat × RBt
  | _, 0, n, x => (n, x)
  | k, m + 1, n, x => rNum (k + 1) m (n + (rBit x).1 * 2 ^ k) (rBit x).2
def rNums (w : Nat) : Nat → RBt → List Nat × RBt
  | 0, x => ([], x)
  | k + 1, x => ((rNum 0 w 0 x).1 :: (rNums w k (rNum 0 w 0 x).2).1, (rNums w k (rNum 0 w 0 x).2).2)
def rBits (count w : Nat) (st : RSt) : List Nat × RSt := ((rNums w count (0, 0, st)).1, (rNums w count (0, 0, st)).2.2.2)
def rPairs : Nat → RSt → (List Nat × List Nat) × RSt
  | 0, st => (([], []), st)
  | k + 1, st => (((rVar 100 st).1 :: (rPairs k (rVar 40 (rVar 100 st).2).2).1.1, (rVar 40 (rVar 100 st).2).1 :: (rPairs k (rVar 40 (rVar 100 st).2).2).1.2), (rPairs k (rVar 40 (rVar 100 st).2).2).2)
def addT (l : List DocR) (i n : Nat) (t : Bs) : List DocR := l.modify i fun d => (d.1, d.2.1, d.2.2 ++ List.replicate n t)
def toksL (l : List DocR) (i : Nat) : Nat := ((l[i]?).map fun d => d.2.2.length).getD 0
def rPut (t : Bs) : List Nat → List Nat → Nat → List DocR → Bool × Nat × List DocR
  | s :: ss, q :: qq, next, l => if l.length ≤ next + s ∨ 40 ≤ toksL l (next + s) + q then (true, next, l) else rPut t ss qq (next + s + 1) (addT l (next + s) (q + 1) t)
  | _, _, next, l => (false, next, l)
def rHead (st : RSt) : RSt := (rVar 40 (rVar 40 (rVar 100 st).2).2).2
/-- The steps and the counts less 1 of a block; nothing: its widths cannot be. -/
def rSteps (n : Nat) (st : RSt) : Option (List Nat × List Nat) × RSt :=
  if n = 4 then
    if 8 < (rByte st).1 ∨ 8 < (rByte (rByte st).2).1 then (none, ((rByte (rByte st).2).2.1, true))
    else (some ((rBits 4 (rByte st).1 (rByte (rByte st).2).2).1, (rBits 4 (rByte (rByte st).2).1 (rBits 4 (rByte st).1 (rByte (rByte st).2).2).2).1), (rBits 4 (rByte (rByte st).2).1 (rBits 4 (rByte st).1 (rByte (rByte st).2).2).2).2)
  else (some (rPairs n st).1, (rPairs n st).2)
def rBlks (t : Bs) : Nat → Nat → Nat → List DocR → RSt → List DocR × RSt
  | 0, _, _, l, st => (l, st)
  | f + 1, left, next, l, st => if left = 0 ∨ st.2 = true then (l, st) else
    match rSteps (min 4 left) (rHead st) with
    | (none, st') => (l, st')
    | (some x, st') => if st'.2 = true then (l, st') else
      if (rPut t x.1 x.2 next l).1 = true then ((rPut t x.1 x.2 next l).2.2, (st'.1, true))
      else rBlks t f (left - min 4 left) (rPut t x.1 x.2 next l).2.1 (rPut t x.1 x.2 next l).2.2 st'
def rTok (l : List DocR) (st : RSt) : List DocR × RSt := rBlks (rText st).1 (rVar l.length (rText st).2).1 (rVar l.length (rText st).2).1 0 l (rVar l.length (rText st).2).2
def rDocs : Nat → Nat → RSt → List DocR × RSt
  | 0, _, st => ([], st)
  | k + 1, num, st => if st.2 = true then ([], st) else
    (((rText (rVar 40 (rVar 100 st).2).2).1, num + (rVar 100 st).1, []) :: (rDocs k (num + (rVar 100 st).1) (rText (rVar 40 (rVar 100 st).2).2).2).1, (rDocs k (num + (rVar 100 st).1) (rText (rVar 40 (rVar 100 st).2).2).2).2)
def rLists : Nat → List DocR → RSt → List DocR × RSt
  | 0, l, st => (l, st)
  | k + 1, l, st => if st.2 = true then (l, st) else rLists k (rTok l st).1 (rTok l st).2
def rRead (s : Bs) : Option (List DocR) :=
  if (rByte (s, false)).1 ≠ 83 then none
  else if (rByte (rByte (s, false)).2).1 ≠ 71 then none
  else
    let n := rVar 100 (rByte (rByte (s, false)).2).2
    let d := rDocs n.1 0 n.2
    let t := rVar 4000 d.2
    let l := rLists t.1 d.1 t.2
    if l.2.2 = true then none else some l.1

/-! ### what is written is read -/
theorem rByte_ok (n : Nat) (t : Bs) (h : n < 256) : rByte (byt n :: t, false) = (n, (t, false)) := by simp [rByte, byt_lt n h]
theorem rVar_ok {most n : Nat} (t : Bs) (h : n ≤ most) (hm : most < 16384) : rVar most (vi n ++ t, false) = (n, (t, false)) := by
  have hd : ¬ most < n := by omega
  by_cases hn : n < 128
  · have e : rByte (vi n ++ t, false) = (n, (t, false)) := by simp only [vi, if_pos hn, List.cons_append, List.nil_append]; exact rByte_ok n t (by omega)
    simp [rVar, e, hn, rFin, hd]
  · have e : rByte (vi n ++ t, false) = (n % 128 + 128, (byt (n / 128) :: t, false)) := by
      simp only [vi, if_neg hn, List.cons_append, List.nil_append]; exact rByte_ok _ _ (by omega)
    have e2 := rByte_ok (n / 128) t (by omega)
    have h1 : ¬ (n % 128 + 128 < 128) := by omega
    have h2 : n / 128 < 128 := by omega
    have h3 : (n % 128 + 128) % 128 + n / 128 * 128 = n := by omega
    simp only [rVar, e, e2, if_neg h1, if_pos h2, rFin, h3, hd, decide_false, Bool.or_false]
theorem rText_ok {k : Bs} (t : Bs) (h : k.length < 256) : rText (nm k ++ t, false) = (k, (t, false)) := by
  have e : rByte (nm k ++ t, false) = (k.length, (k ++ t, false)) := by simp only [nm, List.cons_append]; exact rByte_ok _ _ h
  simp [rText, e]
theorem rBit_ok {m b have_ y : Nat} {t : Bs} (hh : have_ ≤ 7) (hb : b < 2 ^ have_) :
    ∃ b' h' y', rBit (b, have_, (leB ((m + 1 + 7 - have_) / 8) y ++ t, false)) = ((b + 2 ^ have_ * y) % 2, (b', h', (leB ((m + 7 - h') / 8) y' ++ t, false))) ∧ h' ≤ 7 ∧ b' < 2 ^ h' ∧ b' + 2 ^ h' * y' = (b + 2 ^ have_ * y) / 2 := by
  by_cases h0 : have_ = 0
  · subst h0
    have hb0 : b = 0 := by simpa using hb
    subst hb0
    refine ⟨y % 256 / 2, 7, y / 256, ?_, by omega, by omega, ?_⟩
    · have e : (m + 1 + 7 - 0) / 8 = (m + 7 - 7) / 8 + 1 := by omega
      rw [e]
      simp only [leB, List.cons_append, rBit, rFill, if_true, rByte, byt_toNat]
      simp only [Nat.pow_zero, Nat.one_mul, Nat.zero_add]
      rw [Nat.mod_mod_of_dvd _ (by decide)]
    · simp only [Nat.pow_zero, Nat.one_mul, Nat.zero_add]
      omega
  · obtain ⟨h1, rfl⟩ : ∃ h1, have_ = h1 + 1 := ⟨have_ - 1, by omega⟩
    refine ⟨b / 2, h1, y, ?_, by omega, ?_, ?_⟩
    · have e : (m + 1 + 7 - (h1 + 1)) / 8 = (m + 7 - h1) / 8 := by omega
      rw [e]
      have e2 : (b + 2 ^ (h1 + 1) * y) % 2 = b % 2 := by
        rw [Nat.pow_succ, Nat.mul_assoc, Nat.mul_comm, Nat.mul_assoc]
        rw [show b + 2 * (y * 2 ^ h1) = b + 2 * (y * 2 ^ h1) from rfl]
        omega
      simp [rBit, rFill, e2]
    · rw [Nat.pow_succ] at hb; omega
    · rw [Nat.pow_succ, show 2 ^ h1 * 2 * y = 2 * (2 ^ h1 * y) by rw [Nat.mul_right_comm, Nat.mul_comm]]
      omega
theorem rNum_ok {t : Bs} : ∀ {w k m n b h y : Nat}, h ≤ 7 → b < 2 ^ h →
    ∃ b' h' y', rNum k w n (b, h, (leB ((m + w + 7 - h) / 8) y ++ t, false)) = (n + (b + 2 ^ h * y) % 2 ^ w * 2 ^ k, (b', h', (leB ((m + 7 - h') / 8) y' ++ t, false))) ∧ h' ≤ 7 ∧ b' < 2 ^ h' ∧ b' + 2 ^ h' * y' = (b + 2 ^ h * y) / 2 ^ w
  | 0, k, m, n, b, h, y, hh, hb => ⟨b, h, y, by simp [rNum, Nat.mod_one], hh, hb, by simp⟩
  | w + 1, k, m, n, b, h, y, hh, hb => by
    obtain ⟨b1, h1, y1, e1, hh1, hb1, ev1⟩ := @rBit_ok (m + w) b h y t hh hb
    obtain ⟨b2, h2, y2, e2, hh2, hb2, ev2⟩ := @rNum_ok t w (k + 1) m (n + (b + 2 ^ h * y) % 2 * 2 ^ k) b1 h1 y1 hh1 hb1
    refine ⟨b2, h2, y2, ?_, hh2, hb2, ?_⟩
    · have e0 : m + (w + 1) + 7 - h = m + w + 1 + 7 - h := by omega
      rw [e0]
      simp only [rNum, e1]
      rw [e2, ev1]
      congr 1
      rw [Nat.pow_succ 2 k, show 2 ^ (w + 1) = 2 * 2 ^ w by rw [Nat.pow_succ, Nat.mul_comm], Nat.mod_mul]
      generalize (b + 2 ^ h * y) % 2 = u
      generalize (b + 2 ^ h * y) / 2 % 2 ^ w = v
      rw [Nat.add_mul, show v * (2 ^ k * 2) = 2 * v * 2 ^ k by rw [Nat.mul_comm 2 v, Nat.mul_assoc, Nat.mul_comm 2]]
      omega
    · rw [ev2, ev1, Nat.div_div_eq_div_mul, show 2 * 2 ^ w = 2 ^ (w + 1) by rw [Nat.pow_succ, Nat.mul_comm]]
theorem rNums_ok {w : Nat} {t : Bs} : ∀ {k m b h y : Nat}, h ≤ 7 → b < 2 ^ h →
    ∃ b' h' y', rNums w k (b, h, (leB ((m + k * w + 7 - h) / 8) y ++ t, false)) = (unp w k (b + 2 ^ h * y), (b', h', (leB ((m + 7 - h') / 8) y' ++ t, false))) ∧ h' ≤ 7 ∧ b' < 2 ^ h'
  | 0, m, b, h, y, hh, hb => ⟨b, h, y, by simp [rNums, unp], hh, hb⟩
  | k + 1, m, b, h, y, hh, hb => by
    obtain ⟨b1, h1, y1, e1, hh1, hb1, ev1⟩ := @rNum_ok t w 0 (m + k * w) 0 b h y hh hb
    obtain ⟨b2, h2, y2, e2, hh2, hb2⟩ := @rNums_ok w t k m b1 h1 y1 hh1 hb1
    refine ⟨b2, h2, y2, ?_, hh2, hb2⟩
    have e0 : m + (k + 1) * w + 7 - h = m + k * w + w + 7 - h := by rw [Nat.succ_mul]; omega
    rw [e0]
    simp only [rNums, e1, e2, unp, ev1]
    simp
theorem rBits_ok {ns : List Nat} {w : Nat} (t : Bs) (h4 : ns.length = 4) (hw : wd ns = w) : rBits 4 w (pk w ns ++ t, false) = (ns, (t, false)) := by
  have hlt : ∀ n ∈ ns, n < 2 ^ w := wd_le.1 (Nat.le_of_eq hw)
  obtain ⟨b', h', y', e, hh, hb⟩ := @rNums_ok w t 4 0 0 0 (wrd w ns) (by omega) (by simp)
  have e0 : (0 + 4 * w + 7 - 0) / 8 = psz w := by unfold psz; omega
  rw [e0] at e
  have hl : (0 + 7 - h') / 8 = 0 := by omega
  have u := unp_wrd w ns hlt
  rw [h4] at u
  unfold rBits pk
  rw [e, hl]
  simp [leB, u]
theorem rPairs_ok : ∀ {ss rr : List Nat} {k : Nat} (t : Bs), ss.length = k → rr.length = k → (∀ n ∈ ss, n ≤ 99) → (∀ n ∈ rr, n ≤ 39) → rPairs k (pairB ss rr ++ t, false) = ((ss, rr), (t, false))
  | [], [], k, t, h1, _, _, _ => by
    simp only [List.length_nil] at h1
    subst h1
    simp [rPairs, pairB]
  | s :: ss, q :: rr, k, t, h1, h2, h3, h4 => by
    obtain ⟨k, rfl⟩ : ∃ j, k = j + 1 := ⟨k - 1, by simp at h1; omega⟩
    have e1 : rVar 100 (pairB (s :: ss) (q :: rr) ++ t, false) = (s, (vi q ++ (pairB ss rr ++ t), false)) := by
      rw [show pairB (s :: ss) (q :: rr) ++ t = vi s ++ (vi q ++ (pairB ss rr ++ t)) by simp [pairB]]
      exact rVar_ok _ (by have := h3 s (by simp); omega) (by omega)
    have e2 : rVar 40 (vi q ++ (pairB ss rr ++ t), false) = (q, (pairB ss rr ++ t, false)) := rVar_ok _ (by have := h4 q (by simp); omega) (by omega)
    have ih := rPairs_ok (k := k) t (ss := ss) (rr := rr) (by simpa using h1) (by simpa using h2) (fun n hn => h3 n (by simp [hn])) (fun n hn => h4 n (by simp [hn]))
    simp only [rPairs, e1, e2, ih]
  | [], _ :: _, k, t, h1, h2, _, _ => by simp at h1 h2; omega
  | _ :: _, [], k, t, h1, h2, _, _ => by simp at h1 h2; omega
theorem rSteps_ok {ss rr : List Nat} {n : Nat} (t : Bs) (hn : n ≤ 4) (h1 : ss.length = n) (h2 : rr.length = n) (h3 : ∀ x ∈ ss, x ≤ 99) (h4 : ∀ x ∈ rr, x ≤ 39) : rSteps n (body ss rr ++ t, false) = (some (ss, rr), (t, false)) := by
  unfold rSteps body
  by_cases h : n = 4
  · subst h
    have w1 : wd ss ≤ 8 := wd_le.2 fun x hx => by have := h3 x hx; omega
    have w2 : wd rr ≤ 8 := wd_le.2 fun x hx => by have := h4 x hx; omega
    rw [if_pos rfl, if_pos h1]
    have e1 : rByte ([byt (wd ss), byt (wd rr)] ++ pk (wd ss) ss ++ pk (wd rr) rr ++ t, false) = (wd ss, (byt (wd rr) :: (pk (wd ss) ss ++ (pk (wd rr) rr ++ t)), false)) := by
      simp only [List.cons_append, List.nil_append, List.append_assoc]; exact rByte_ok _ _ (by omega)
    have e2 := rByte_ok (wd rr) (pk (wd ss) ss ++ (pk (wd rr) rr ++ t)) (by omega)
    simp only [e1, e2]
    rw [if_neg (by omega), rBits_ok _ h1 rfl]
    simp only [rBits_ok t h2 rfl]
  · rw [if_neg h, if_neg (by omega), rPairs_ok t h1 h2 h3 h4]
end Go.ScT

namespace Go.ScT

theorem sumAt_append (a b : List Lst) (i : Nat) : sumAt (a ++ b) i = sumAt a i + sumAt b i := by simp [sumAt]
theorem cntAt_append (a b : Pls) (i : Nat) : cntAt (a ++ b) i = cntAt a i + cntAt b i := by simp [cntAt]
theorem sumAt_one (w : Bs) (b : Pls) (i : Nat) : sumAt [(w, b)] i = cntAt b i := by simp [sumAt, cntAt]
theorem toksAt_append (a b : List Lst) (i : Nat) : toksAt (a ++ b) i = toksAt a i ++ toksAt b i := by simp [toksAt]
theorem toksAt_one (w : Bs) (b : Pls) (i : Nat) : toksAt [(w, b)] i = List.replicate (cntAt b i) w := by simp [toksAt]
theorem docsFrom_congr {a b : List Lst} (h : ∀ i, toksAt a i = toksAt b i) : ∀ (ds : List DocP) (i : Nat), docsFrom a i ds = docsFrom b i ds
  | [], _ => rfl
  | d :: r, i => by simp only [docsFrom, h i, docsFrom_congr h r (i + 1)]
theorem docs_nil (done : List Lst) (w : Bs) (ds : List DocP) : docsFrom (done ++ [(w, [])]) 0 ds = docsFrom done 0 ds :=
  docsFrom_congr (fun i => by rw [toksAt_append, toksAt_one]; simp [cntAt]) ds 0
theorem docs_add (done : List Lst) (w : Bs) (b : Pls) (p : Nat × Nat) (ds : List DocP) : addT (docsFrom (done ++ [(w, b)]) 0 ds) p.1 p.2 w = docsFrom (done ++ [(w, b ++ [p])]) 0 ds := by
  apply List.ext_getElem?
  intro i
  rw [addT, List.getElem?_modify, docsFrom_get, docsFrom_get]
  cases hd : ds[i]? with
  | none => simp
  | some d =>
    simp only [Option.map_some, Nat.zero_add]
    have e : toksAt (done ++ [(w, b ++ [p])]) i = if p.1 = i then toksAt (done ++ [(w, b)]) i ++ List.replicate p.2 w else toksAt (done ++ [(w, b)]) i := by
      simp only [toksAt_append, toksAt_one, cntAt_append]
      rw [cntAt_cons]
      by_cases h : p.1 = i
      · simp only [if_pos h, cntAt, List.filter_nil, List.map_nil, List.sum_nil, Nat.add_zero, List.append_assoc]
        rw [← List.replicate_append_replicate]
      · simp [h, cntAt]
    rw [e]
    by_cases h : p.1 = i <;> simp [h]
theorem toksL_docs (ls : List Lst) (ds : List DocP) (i : Nat) (hi : i < ds.length) : toksL (docsFrom ls 0 ds) i = sumAt ls i := by
  unfold toksL
  rw [docsFrom_get, List.getElem?_eq_getElem hi]
  simp [toksAt_len]
theorem rPut_ok {w : Bs} {done : List Lst} {ds : List DocP} : ∀ {b b1 : Pls} {next : Nat}, Ris ds.length next b → (∀ i, sumAt (done ++ [(w, b1 ++ b)]) i ≤ 40) → b ≠ [] →
    rPut w (stp next b) (rep b) next (docsFrom (done ++ [(w, b1)]) 0 ds) = (false, lastO b + 1, docsFrom (done ++ [(w, b1 ++ b)]) 0 ds)
  | [], _, _, _, _, h => absurd rfl h
  | p :: r, b1, next, ⟨h1, h2, h3, h4⟩, hs, _ => by
    have e1 : next + (p.1 - next) = p.1 := by omega
    have e2 : p.2 - 1 + 1 = p.2 := by omega
    have hroom : ¬ (40 ≤ toksL (docsFrom (done ++ [(w, b1)]) 0 ds) p.1 + (p.2 - 1)) := by
      rw [toksL_docs _ _ _ h2]
      have := hs p.1
      rw [sumAt_append, sumAt_one, cntAt_append, cntAt_cons, if_pos rfl] at this
      rw [sumAt_append, sumAt_one]
      omega
    have hlt : ¬ (docsFrom (done ++ [(w, b1)]) 0 ds).length ≤ p.1 := by rw [docsFrom_len]; omega
    simp only [stp, rep, List.map_cons, rPut, e1, e2]
    rw [if_neg (by rintro (h | h); exact hlt h; exact hroom h), docs_add]
    cases r with
    | nil => simp [stp, rPut, lastO]
    | cons q r' =>
      have ih := @rPut_ok w done ds (q :: r') (b1 ++ [p]) (p.1 + 1) h4 (by intro i; have := hs i; rwa [List.append_assoc]) (by simp)
      simp only [rep] at ih
      rw [ih]
      simp [lastO]
theorem rHead_ok {a b c : Nat} (t : Bs) (h1 : a ≤ 100) (h2 : b ≤ 40) (h3 : c ≤ 40) : rHead (vi a ++ vi b ++ vi c ++ t, false) = (t, false) := by
  unfold rHead
  rw [List.append_assoc, List.append_assoc, rVar_ok _ h1 (by omega)]
  simp only
  rw [rVar_ok _ h2 (by omega)]
  simp only
  rw [rVar_ok _ h3 (by omega)]
theorem ris_take {n : Nat} : ∀ {k next : Nat} {b : Pls}, Ris n next b → Ris n next (b.take k)
  | 0, _, _, _ => by simp [Ris]
  | _ + 1, _, [], _ => by simp [Ris]
  | k + 1, _, p :: r, ⟨h1, h2, h3, h4⟩ => ⟨h1, h2, h3, ris_take h4⟩
theorem rBlks_ok {w : Bs} {done : List Lst} {ds : List DocP} (hn : ds.length ≤ 100) (t : Bs) : ∀ {f next : Nat} {b b1 : Pls}, b.length ≤ f → LV (lensOf ds) next b → (∀ i, sumAt (done ++ [(w, b1 ++ b)]) i ≤ 40) →
    rBlks w f b.length next (docsFrom (done ++ [(w, b1)]) 0 ds) (encPls (lensOf ds) f next b ++ t, false) = (docsFrom (done ++ [(w, b1 ++ b)]) 0 ds, (t, false))
  | 0, next, b, b1, hf, _, _ => by
    have : b = [] := List.length_eq_zero_iff.1 (by omega)
    subst this
    simp [rBlks, encPls]
  | f + 1, next, b, b1, hf, hv, hs => by
    by_cases hb : b = []
    · subst hb; simp [rBlks, encPls]
    · have hpos : 0 < b.length := List.length_pos_iff.2 hb
      have htn : b.take 4 ≠ [] := by simp [hb]
      have hv' := hv
      rw [← List.take_append_drop 4 b, LV_append htn] at hv'
      obtain ⟨hva, hvb⟩ := hv'
      have hm := hva.mem
      have hra := hva.ris
      rw [lensOf_len] at hra
      have hlast : lastO (b.take 4) ≤ 100 := by
        obtain ⟨p, hp, e⟩ := lastO_mem htn
        have := hm p hp
        rw [lensOf_len] at this
        omega
      have hmx : mxC (b.take 4) ≤ 40 := mxC_le.2 fun p hp => (hm p hp).2.2.2.1
      have hlen : (b.take 4).length = min 4 b.length := by simp
      have eh : rHead (encPls (lensOf ds) (f + 1) next b ++ t, false) = (body (stp next (b.take 4)) (rep (b.take 4)) ++ (encPls (lensOf ds) f (lastO (b.take 4) + 1) (b.drop 4) ++ t), false) := by
        simp only [encPls, if_neg hb, encBlk]
        rw [List.append_assoc, List.append_assoc]
        exact rHead_ok _ hlast hmx (mnL_le _ _)
      have es := @rSteps_ok (stp next (b.take 4)) (rep (b.take 4)) (min 4 b.length) (encPls (lensOf ds) f (lastO (b.take 4) + 1) (b.drop 4) ++ t) (by omega) (by rw [stp_len, hlen]) (by rw [rep_len, hlen])
        (fun x hx => by have := stp_le hra x hx; omega) (fun x hx => by
          simp only [rep, List.mem_map] at hx
          obtain ⟨p, hp, rfl⟩ := hx
          have := hm p hp
          omega)
      have hs1 : ∀ i, sumAt (done ++ [(w, b1 ++ b.take 4)]) i ≤ 40 := by
        intro i
        have := hs i
        rw [sumAt_append, sumAt_one, cntAt_append] at this ⊢
        have h2 : cntAt b i = cntAt (b.take 4) i + cntAt (b.drop 4) i := by rw [← cntAt_append, List.take_append_drop]
        omega
      have ep := @rPut_ok w done ds (b.take 4) b1 next hra hs1 htn
      have hs2 : ∀ i, sumAt (done ++ [(w, (b1 ++ b.take 4) ++ b.drop 4)]) i ≤ 40 := by
        intro i
        rw [List.append_assoc, List.take_append_drop]
        exact hs i
      have ih := @rBlks_ok w done ds hn t f (lastO (b.take 4) + 1) (b.drop 4) (b1 ++ b.take 4) (by simp; omega) hvb hs2
      have hd : (b.drop 4).length = b.length - min 4 b.length := by simp; omega
      rw [hd] at ih
      simp only [rBlks]
      rw [if_neg (by simp; omega), eh, es]
      simp only [Bool.false_eq_true, if_false, ep]
      rw [ih, List.append_assoc, List.take_append_drop]
theorem rTok_ok {l : Lst} {done : List Lst} {ds : List DocP} (hn : ds.length ≤ 100) (t : Bs) (ht : isTok l.1 = true) (h2 : l.2.length ≤ ds.length) (hv : LV (lensOf ds) 0 l.2) (hs : ∀ i, sumAt (done ++ [l]) i ≤ 40) :
    rTok (docsFrom done 0 ds) (encList (lensOf ds) l ++ t, false) = (docsFrom (done ++ [l]) 0 ds, (t, false)) := by
  obtain ⟨w, b⟩ := l
  have e1 : rText (encList (lensOf ds) (w, b) ++ t, false) = (w, (vi b.length ++ (encPls (lensOf ds) b.length 0 b ++ t), false)) := by
    rw [show encList (lensOf ds) (w, b) ++ t = nm w ++ (vi b.length ++ (encPls (lensOf ds) b.length 0 b ++ t)) by simp [encList]]
    exact rText_ok _ (by have := isTok_len ht; simp at this; omega)
  have e2 : rVar (docsFrom done 0 ds).length (vi b.length ++ (encPls (lensOf ds) b.length 0 b ++ t), false) = (b.length, (encPls (lensOf ds) b.length 0 b ++ t, false)) := by
    rw [docsFrom_len]; exact rVar_ok _ h2 (by omega)
  simp only [rTok, e1, e2]
  have := @rBlks_ok w done ds hn t b.length 0 b [] (Nat.le_refl _) hv (by simpa using hs)
  rw [docs_nil] at this
  simpa using this
theorem rLists_ok {ds : List DocP} (hn : ds.length ≤ 100) (t : Bs) : ∀ {ls done : List Lst} {before : Bs}, OkLists (lensOf ds) before ls → (∀ i, sumAt (done ++ ls) i ≤ 40) →
    rLists ls.length (docsFrom done 0 ds) (encLists (lensOf ds) ls ++ t, false) = (docsFrom (done ++ ls) 0 ds, (t, false))
  | [], done, _, _, _ => by simp [rLists, encLists]
  | l :: ls, done, before, ⟨h1, h2, h3, h4, h5, h6⟩, hs => by
    have hs1 : ∀ i, sumAt (done ++ [l]) i ≤ 40 := by
      intro i
      have := hs i
      rw [show done ++ l :: ls = (done ++ [l]) ++ ls by simp, sumAt_append] at this
      omega
    have e := @rTok_ok l done ds hn (encLists (lensOf ds) ls ++ t) h1 (by rw [lensOf_len] at h4; exact h4) h5 hs1
    have ih := @rLists_ok ds hn t ls (done ++ [l]) l.1 h6 (by intro i; have := hs i; rwa [List.append_assoc])
    simp only [List.length_cons, rLists, Bool.false_eq_true, if_false, encLists, List.append_assoc]
    rw [e]
    simp only
    rw [ih]
    simp
theorem docsFrom_shift : ∀ {ds : List DocP} {i j : Nat}, docsFrom [] i ds = docsFrom [] j ds
  | [], _, _ => rfl
  | d :: r, i, j => by simp only [docsFrom]; rw [docsFrom_shift (ds := r) (i := i + 1) (j := j + 1)]; simp [toksAt]
theorem rDocs_ok (t : Bs) : ∀ {ds : List DocP} {before : Nat} {seen : List Bs}, OkDocs before seen ds → rDocs ds.length before (encDocs before ds ++ t, false) = (docsFrom [] 0 ds, (t, false))
  | [], _, _, _ => by simp [rDocs, encDocs, docsFrom]
  | d :: r, before, seen, ⟨h1, h2, h3, h4, h5, h6⟩ => by
    have e1 : rVar 100 (encDocs before (d :: r) ++ t, false) = (d.1 - before, (vi d.2.2 ++ (nm d.2.1 ++ (encDocs d.1 r ++ t)), false)) := by
      rw [show encDocs before (d :: r) ++ t = vi (d.1 - before) ++ (vi d.2.2 ++ (nm d.2.1 ++ (encDocs d.1 r ++ t))) by simp [encDocs]]
      exact rVar_ok _ (by omega) (by omega)
    have e2 : rVar 40 (vi d.2.2 ++ (nm d.2.1 ++ (encDocs d.1 r ++ t)), false) = (d.2.2, (nm d.2.1 ++ (encDocs d.1 r ++ t), false)) := rVar_ok _ h3 (by omega)
    have e3 : rText (nm d.2.1 ++ (encDocs d.1 r ++ t), false) = (d.2.1, (encDocs d.1 r ++ t, false)) := rText_ok _ (by have := keyOk_len h4; omega)
    have ih := rDocs_ok t h6
    have en : before + (d.1 - before) = d.1 := by omega
    simp only [List.length_cons, rDocs, Bool.false_eq_true, if_false, e1, e2, e3, en, ih]
    simp only [docsFrom]
    rw [docsFrom_shift (ds := r) (i := 0) (j := 0 + 1)]
    simp [toksAt]
/-- What may be written is read by the document's reader, as its documents. -/
theorem rRead_ok {c : Cont} (h : VC c) : rRead (wrt c) = some (docsOf c) := by
  obtain ⟨ds, ls⟩ := c
  have hlen := h.most
  have hsum : ∀ i, sumAt ([] ++ ls) i ≤ 40 := by
    intro i
    rw [List.nil_append]
    by_cases hi : i < ds.length
    · have e := vc_lens h (i := i) (d := ds[i]) (List.getElem?_eq_getElem hi)
      rw [toksAt_len] at e
      have := (okDocs_mem h.docs ds[i] (List.getElem_mem hi)).2.2.1
      simp only at e
      omega
    · have : sumAt ls i = 0 := by
        unfold sumAt
        have hf : (ls.flatMap (·.2)).filter (·.1 == i) = [] := by
          rw [List.filter_eq_nil_iff]
          intro p hp
          obtain ⟨l, hl, hpl⟩ := List.mem_flatMap.1 hp
          have := ((okLists_mem h.lists l hl).2.2.2.mem p hpl).2.1
          rw [lensOf_len] at this
          simp only at this
          simp
          omega
        rw [hf]
        rfl
      omega
  have e0 : wrt (ds, ls) = byt 83 :: (byt 71 :: (vi ds.length ++ (encDocs 0 ds ++ (vi ls.length ++ (encLists (lensOf ds) ls ++ chk (encC (ds, ls))))))) := by
    simp [wrt, encC, byt]
  have e1 := rByte_ok 83 (byt 71 :: (vi ds.length ++ (encDocs 0 ds ++ (vi ls.length ++ (encLists (lensOf ds) ls ++ chk (encC (ds, ls))))))) (by omega)
  have e2 := rByte_ok 71 (vi ds.length ++ (encDocs 0 ds ++ (vi ls.length ++ (encLists (lensOf ds) ls ++ chk (encC (ds, ls)))))) (by omega)
  have e3 := @rVar_ok 100 ds.length (encDocs 0 ds ++ (vi ls.length ++ (encLists (lensOf ds) ls ++ chk (encC (ds, ls))))) hlen (by omega)
  have e4 := rDocs_ok (vi ls.length ++ (encLists (lensOf ds) ls ++ chk (encC (ds, ls)))) h.docs
  have e5 := @rVar_ok 4000 ls.length (encLists (lensOf ds) ls ++ chk (encC (ds, ls))) h.few (by omega)
  have e6 := rLists_ok hlen (chk (encC (ds, ls))) h.lists hsum
  simp only at e4 e6
  unfold rRead
  rw [e0]
  simp only [e1, e2, ne_eq, not_true, if_false, e3, e4, e5, e6]
  simp [docsOf]
end Go.ScT
