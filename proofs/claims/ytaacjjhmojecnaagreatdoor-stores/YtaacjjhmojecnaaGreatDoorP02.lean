import Derived.Test.YtaacjjhmojecnaaGreatDoorP01
namespace Go.ScT
abbrev Bs:=List UInt8
def byt (n:Nat):UInt8:=UInt8.ofNat n
theorem byt_toNat (n:Nat):(byt n).toNat=n % 256:=by simp [byt]
theorem byt_lt (n:Nat) (h:n < 256):(byt n).toNat=n:=by rw [byt_toNat];omega
theorem byt_of (b:UInt8):byt b.toNat=b:=by apply UInt8.toNat_inj.1;rw [byt_toNat];have:=b.toNat_lt;omega
theorem byt_eq {b:UInt8} {n:Nat} (h:b.toNat=n):byt n=b:=by rw [← h,byt_of]
def vi (n:Nat):Bs:=if n < 128 then [byt n] else [byt (n % 128+128),byt (n / 128)]
def nm (k:Bs):Bs:=byt k.length :: k
def pByte (r:Bs):Option (Nat × Bs):=match r with | []=>none | b :: t=>some (b.toNat,t)
def pTake (k:Nat) (r:Bs):Option (Bs × Bs):=if k≤r.length then some (r.take k,r.drop k) else none
def pNum (lo hi:Nat) (r:Bs):Option (Nat × Bs):=match r with
 | []=>none
 | b :: t=>if b.toNat < 128 then (if lo≤b.toNat∧b.toNat≤hi then some (b.toNat,t) else none)
   else match t with
    | []=>none
    | c :: t'=>if c.toNat < 128∧c.toNat≠0∧lo≤b.toNat % 128+128 * c.toNat∧b.toNat % 128+128 * c.toNat≤hi then some (b.toNat % 128+128 * c.toNat,t') else none
theorem pByte_iff {r t:Bs} {n:Nat}:pByte r=some (n,t) ↔ r=byt n :: t∧n < 256:=by
 cases r with
 | nil=>simp [pByte]
 | cons b u =>
   simp only [pByte,Option.some.injEq,Prod.mk.injEq,List.cons.injEq]
   constructor
   ·rintro ⟨rfl,rfl⟩;exact ⟨⟨(byt_of b).symm,rfl⟩,b.toNat_lt⟩
   ·rintro ⟨⟨rfl,rfl⟩,h⟩;exact ⟨byt_lt n h,rfl⟩
theorem pTake_iff {r x t:Bs} {k:Nat}:pTake k r=some (x,t) ↔ r=x++t∧x.length=k:=by
 unfold pTake
 split
 ·rename_i h
  simp only [Option.some.injEq,Prod.mk.injEq]
  constructor
  ·rintro ⟨rfl,rfl⟩;exact ⟨(List.take_append_drop k r).symm,by simp;omega⟩
  ·rintro ⟨rfl,rfl⟩;simp
 ·rename_i h
  constructor
  ·intro e;cases e
  ·rintro ⟨rfl,rfl⟩;simp at h
theorem pNum_iff {lo hi n:Nat} {r t:Bs} (hh:hi < 16384):pNum lo hi r=some (n,t) ↔ r=vi n++t∧lo≤n∧n≤hi:=by
 constructor
 ·intro h
  unfold pNum at h
  split at h
  ·cases h
  ·rename_i b u
   split at h
   ·rename_i hb
    split at h
    ·rename_i hr
     simp only [Option.some.injEq,Prod.mk.injEq] at h
     obtain ⟨rfl,rfl⟩:=h
     refine ⟨?_,hr⟩
     simp [vi,hb,byt_of]
    ·cases h
   ·rename_i hb
    split at h
    ·cases h
    ·rename_i c v
     split at h
     ·rename_i hc
      simp only [Option.some.injEq,Prod.mk.injEq] at h
      obtain ⟨rfl,rfl⟩:=h
      refine ⟨?_,hc.2.2⟩
      have hbl:=b.toNat_lt
      have h0:¬ (b.toNat % 128+128 * c.toNat < 128):=by omega
      have e1:byt ((b.toNat % 128+128 * c.toNat) % 128+128)=b:=byt_eq (by omega)
      have e2:byt ((b.toNat % 128+128 * c.toNat) / 128)=c:=byt_eq (by omega)
      simp only [vi,if_neg h0,e1,e2,List.cons_append,List.nil_append]
     ·cases h
 ·rintro ⟨rfl,h1,h2⟩
  by_cases hn:n < 128
  ·have:(byt n).toNat=n:=byt_lt n (by omega)
   simp [vi,hn,pNum,this,h1,h2]
  ·have e1:(byt (n % 128+128)).toNat=n % 128+128:=byt_lt _ (by omega)
   have e2:(byt (n / 128)).toNat=n / 128:=byt_lt _ (by omega)
   have h3:¬ (n % 128+128 < 128):=by omega
   have h4:(n % 128+128) % 128+128 * (n / 128)=n:=by omega
   simp only [vi,if_neg hn,List.cons_append,List.nil_append,pNum,e1,e2,if_neg h3,h4]
   rw [if_pos ⟨by omega,by omega,h1,h2⟩]
theorem vi_len (n:Nat):(vi n).length=if n < 128 then 1 else 2:=by unfold vi;split <;> simp
def pName (r:Bs):Option (Bs × Bs):=(pByte r).bind fun x=>pTake x.1 x.2
theorem pName_iff {r k t:Bs}:pName r=some (k,t) ↔ r=nm k++t∧k.length < 256:=by
 unfold pName
 rw [Option.bind_eq_some_iff]
 constructor
 ·rintro ⟨⟨n,u⟩,h1,h2⟩
  rw [pByte_iff] at h1
  rw [pTake_iff] at h2
  obtain ⟨rfl,hn⟩:=h1
  obtain ⟨h2,h3⟩:=h2
  simp only at h2 h3
  subst h2 h3
  exact ⟨by simp [nm],hn⟩
 ·rintro ⟨rfl,h⟩
  refine ⟨(k.length,k++t),?_,?_⟩
  ·rw [pByte_iff];exact ⟨by simp [nm],h⟩
  ·rw [pTake_iff];exact ⟨rfl,rfl⟩
def leB:Nat→Nat→Bs
 | 0,_=>[]
 | k+1,x=>byt x :: leB k (x / 256)
def leV:Bs→Nat
 | []=>0
 | b :: r=>b.toNat+256 * leV r
theorem leB_len:∀ k x,(leB k x).length=k
 | 0,_=>rfl
 | k+1,x=>by simp [leB,leB_len k]
theorem leV_leB:∀ k x,leV (leB k x)=x % 256 ^ k
 | 0,x=>by simp [leB,leV,Nat.mod_one]
 | k+1,x=>by
   simp only [leB,leV,leV_leB k,byt_toNat]
   rw [show 256 ^ (k+1)=256 * 256 ^ k by rw [Nat.pow_succ,Nat.mul_comm],Nat.mod_mul]
theorem leB_leV:∀ l,leB l.length (leV l)=l
 | []=>rfl
 | b :: r=>by
   have hb:=b.toNat_lt
   have e1:byt (b.toNat+256 * leV r)=b:=by
    apply UInt8.toNat_inj.1;rw [byt_toNat];omega
   have e2:(b.toNat+256 * leV r) / 256=leV r:=by omega
   simp [leB,leV,e1,e2,leB_leV r]
theorem leV_lt:∀ l,leV l < 256 ^ l.length
 | []=>by simp [leV]
 | b :: r=>by
   have:=leV_lt r
   have hb:=b.toNat_lt
   simp only [leV,List.length_cons,Nat.pow_succ]
   omega
def wrd (w:Nat):List Nat→Nat
 | []=>0
 | n :: r=>n+2 ^ w * wrd w r
def unp (w:Nat):Nat→Nat→List Nat
 | 0,_=>[]
 | k+1,x=>x % 2 ^ w :: unp w k (x / 2 ^ w)
theorem unp_len (w:Nat):∀ k x,(unp w k x).length=k
 | 0,_=>rfl
 | k+1,x=>by simp [unp,unp_len w k]
theorem unp_lt (w:Nat):∀ k x,∀ n∈unp w k x,n < 2 ^ w
 | 0,_=>by simp [unp]
 | k+1,x=>by
   intro n hn
   simp only [unp,List.mem_cons] at hn
   rcases hn with rfl | hn
   ·exact Nat.mod_lt _ (Nat.two_pow_pos w)
   ·exact unp_lt w k _ n hn
theorem unp_wrd (w:Nat):∀ ns:List Nat,(∀ n∈ns,n < 2 ^ w)→unp w ns.length (wrd w ns)=ns
 | [],_=>rfl
 | n :: r,h=>by
   have hn:=h n (by simp)
   have e1:(n+2 ^ w * wrd w r) % 2 ^ w=n:=by rw [Nat.add_mul_mod_self_left,Nat.mod_eq_of_lt hn]
   have e2:(n+2 ^ w * wrd w r) / 2 ^ w=wrd w r:=by
    rw [Nat.add_mul_div_left _ _ (Nat.two_pow_pos w),Nat.div_eq_of_lt hn,Nat.zero_add]
   simp only [List.length_cons,unp,wrd,e1,e2,unp_wrd w r (fun m hm=>h m (by simp [hm]))]
theorem wrd_unp (w:Nat):∀ k x,wrd w (unp w k x)=x % 2 ^ (w * k)
 | 0,x=>by simp [unp,wrd,Nat.mod_one]
 | k+1,x=>by
   simp only [unp,wrd,wrd_unp w k]
   rw [show w * (k+1)=w+w * k by rw [Nat.mul_succ,Nat.add_comm],Nat.pow_add,Nat.mod_mul]
theorem wrd_lt (w:Nat):∀ ns:List Nat,(∀ n∈ns,n < 2 ^ w)→wrd w ns < 2 ^ (w * ns.length)
 | [],_=>by simp [wrd]
 | n :: r,h=>by
   have:=wrd_lt w r (fun m hm=>h m (by simp [hm]))
   have hn:=h n (by simp)
   simp only [wrd,List.length_cons]
   rw [show w * (r.length+1)=w+w * r.length by rw [Nat.mul_succ,Nat.add_comm],Nat.pow_add]
   have h2:2 ^ w * wrd w r+2 ^ w≤2 ^ w * 2 ^ (w * r.length):=by
    rw [← Nat.mul_succ];exact Nat.mul_le_mul_left _ this
   omega
def bl (n:Nat):Nat:=if n=0 then 0 else n.log2+1
theorem bl_le {n w:Nat}:bl n≤w ↔ n < 2 ^ w:=by
 unfold bl
 split
 ·rename_i h;subst h;simp [Nat.two_pow_pos]
 ·rename_i h
  rw [Nat.succ_le_iff,Nat.log2_lt h]
def mx (l:List Nat):Nat:=l.foldr max 0
theorem mx_le {l:List Nat} {k:Nat}:mx l≤k ↔ ∀ n∈l,n≤k:=by
 induction l with
 | nil=>simp [mx]
 | cons a r ih =>
   have:mx (a :: r)=max a (mx r):=rfl
   rw [this]
   simp only [List.mem_cons,forall_eq_or_imp,← ih]
   omega
theorem mx_lt {l:List Nat} {k:Nat} (hk:0 < k):mx l < k ↔ ∀ n∈l,n < k:=by
 have:=@mx_le l (k - 1)
 constructor
 ·intro h n hn
  have:=this.1 (by omega) n hn
  omega
 ·intro h
  have:=this.2 (fun n hn=>by have:=h n hn;omega)
  omega
def wd (l:List Nat):Nat:=bl (mx l)
theorem wd_le {l:List Nat} {w:Nat}:wd l≤w ↔ ∀ n∈l,n < 2 ^ w:=by
 rw [wd,bl_le,mx_lt (Nat.two_pow_pos w)]
theorem wd_lt (l:List Nat):∀ n∈l,n < 2 ^ wd l:=wd_le.1 (Nat.le_refl _)
def psz (w:Nat):Nat:=(4 * w+7) / 8
def pk (w:Nat) (ns:List Nat):Bs:=leB (psz w) (wrd w ns)
def pPack (w:Nat) (r:Bs):Option (List Nat × Bs):=(pTake (psz w) r).bind fun x =>
 if leV x.1 / 2 ^ (w * 4)=0∧wd (unp w 4 (leV x.1))=w then some (unp w 4 (leV x.1),x.2) else none
theorem pow_psz (w:Nat):2 ^ (w * 4)≤256 ^ psz w:=by
 rw [show (256:Nat)=2 ^ 8 by rfl,← Nat.pow_mul]
 exact Nat.pow_le_pow_right (by omega) (by unfold psz;omega)
theorem pPack_iff {w:Nat} {r t:Bs} {ns:List Nat}:pPack w r=some (ns,t) ↔ r=pk w ns++t∧ns.length=4∧wd ns=w:=by
 unfold pPack
 rw [Option.bind_eq_some_iff]
 constructor
 ·rintro ⟨⟨x,u⟩,h1,h2⟩
  rw [pTake_iff] at h1
  obtain ⟨rfl,hx⟩:=h1
  split at h2
  ·rename_i hc
   simp only [Option.some.injEq,Prod.mk.injEq] at h2 hc
   obtain ⟨rfl,rfl⟩:=h2
   refine ⟨?_,unp_len _ _ _,hc.2⟩
   have hl:leV x < 2 ^ (w * 4):=by
    have:=hc.1
    rw [Nat.div_eq_zero_iff] at this
    have hp:=Nat.two_pow_pos (w * 4)
    omega
   rw [pk,wrd_unp,Nat.mod_eq_of_lt hl,← hx,leB_leV]
  ·cases h2
 ·rintro ⟨rfl,h4,hw⟩
  have hlt:∀ n∈ns,n < 2 ^ w:=wd_le.1 (Nat.le_of_eq hw)
  have hb:=wrd_lt w ns hlt
  rw [h4] at hb
  refine ⟨(pk w ns,t),pTake_iff.2 ⟨rfl,leB_len _ _⟩,?_⟩
  have e:leV (pk w ns)=wrd w ns:=by
   rw [pk,leV_leB,Nat.mod_eq_of_lt (Nat.lt_of_lt_of_le hb (pow_psz w))]
  have u:=unp_wrd w ns hlt
  rw [h4] at u
  simp only [e,u]
  rw [if_pos ⟨Nat.div_eq_of_lt hb,hw⟩]
end Go.ScT
namespace Go.ScT
abbrev Pls:=List (Nat × Nat)
def stp:Nat→Pls→List Nat
 | _,[]=>[]
 | next,p :: r=>(p.1 - next) :: stp (p.1+1) r
def rep (b:Pls):List Nat:=b.map fun p=>p.2 - 1
def lastO:Pls→Nat
 | []=>0
 | [p]=>p.1
 | _ :: q :: r=>lastO (q :: r)
def mxC (b:Pls):Nat:=mx (b.map (·.2))
def mnL (lens:List Nat) (b:Pls):Nat:=(b.map fun p=>lens.getD p.1 0).foldr min 40
def pairB:List Nat→List Nat→Bs
 | s :: ss,r :: rr=>vi s++vi r++pairB ss rr
 | _,_=>[]
def body (ss rr:List Nat):Bs:=if ss.length=4 then [byt (wd ss),byt (wd rr)]++pk (wd ss) ss++pk (wd rr) rr else pairB ss rr
def encBlk (lens:List Nat) (next:Nat) (b:Pls):Bs:=vi (lastO b)++vi (mxC b)++vi (mnL lens b)++body (stp next b) (rep b)
def LV (lens:List Nat):Nat→Pls→Prop
 | _,[]=>True
 | next,p :: r=>next≤p.1∧p.1 < lens.length∧1≤p.2∧p.2≤40∧1≤lens.getD p.1 0∧LV lens (p.1+1) r
def pPairs:Nat→Bs→Option ((List Nat × List Nat) × Bs)
 | 0,r=>some (([],[]),r)
 | k+1,r=>(pNum 0 99 r).bind fun x=>(pNum 0 39 x.2).bind fun y=>(pPairs k y.2).bind fun z=>some ((x.1 :: z.1.1,y.1 :: z.1.2),z.2)
def pWid (r:Bs):Option (Nat × Bs):=(pByte r).bind fun x=>if x.1≤8 then some x else none
def pBody (size:Nat) (r:Bs):Option ((List Nat × List Nat) × Bs) :=
 if size < 4 then pPairs size r
 else (pWid r).bind fun a=>(pWid a.2).bind fun b=>(pPack a.1 b.2).bind fun x=>(pPack b.1 x.2).bind fun y=>some ((x.1,y.1),y.2)
def mkB (n:Nat):Nat→List Nat→List Nat→Option Pls
 | _,[],_=>some []
 | next,s :: ss,rr=>if next+s < n then (mkB n (next+s+1) ss rr.tail).map fun l=>(next+s,rr.headD 0+1) :: l else none
def pHead (n:Nat) (r:Bs):Option ((Nat × Nat × Nat) × Bs):=(pNum 0 (n - 1) r).bind fun a=>(pNum 1 40 a.2).bind fun b=>(pNum 1 40 b.2).bind fun c=>some ((a.1,b.1,c.1),c.2)
def pBlk (lens:List Nat) (size next:Nat) (r:Bs):Option (Pls × Bs) :=
 (pHead lens.length r).bind fun h=>(pBody size h.2).bind fun x=>(mkB lens.length next x.1.1 x.1.2).bind fun b =>
   if h.1=(lastO b,mxC b,mnL lens b) then some (b,x.2) else none
theorem pPairs_iff:∀ {k:Nat} {r t:Bs} {ss rr:List Nat},pPairs k r=some ((ss,rr),t) ↔ r=pairB ss rr++t∧ss.length=k∧rr.length=k∧(∀ n∈ss,n≤99)∧(∀ n∈rr,n≤39)
 | 0,r,t,ss,rr=>by
   simp only [pPairs,Option.some.injEq,Prod.mk.injEq]
   constructor
   ·rintro ⟨⟨rfl,rfl⟩,rfl⟩;simp [pairB]
   ·rintro ⟨rfl,h1,h2,_⟩
    rw [List.length_eq_zero_iff] at h1 h2
    subst h1 h2
    simp [pairB]
 | k+1,r,t,ss,rr=>by
   simp only [pPairs,Option.bind_eq_some_iff,Option.some.injEq,Prod.mk.injEq]
   constructor
   ·rintro ⟨⟨x,u⟩,h1,⟨y,v⟩,h2,⟨⟨zs,zr⟩,z⟩,h3,⟨rfl,rfl⟩,rfl⟩
    rw [pNum_iff (by omega)] at h1 h2
    rw [pPairs_iff] at h3
    obtain ⟨rfl,_,h1⟩:=h1
    obtain ⟨h2a,_,h2⟩:=h2
    obtain ⟨h3a,h3b,h3c,h3d,h3e⟩:=h3
    simp only at h2a h3a
    subst h2a h3a
    refine ⟨by simp [pairB],by simp [h3b],by simp [h3c],?_,?_⟩
    ·intro n hn
     rcases List.mem_cons.1 hn with rfl | hn
     ·exact h1
     ·exact h3d n hn
    ·intro n hn
     rcases List.mem_cons.1 hn with rfl | hn
     ·exact h2
     ·exact h3e n hn
   ·rintro ⟨rfl,h1,h2,h3,h4⟩
    match ss,rr,h1,h2,h3,h4 with
    | s :: ss,q :: rr,h1,h2,h3,h4 =>
      refine ⟨(s,vi q++(pairB ss rr++t)),(pNum_iff (by omega)).2 ⟨by simp [pairB],by omega,h3 s (by simp)⟩,(q,pairB ss rr++t),(pNum_iff (by omega)).2 ⟨rfl,by omega,h4 q (by simp)⟩,((ss,rr),t),?_,⟨rfl,rfl⟩,rfl⟩
      exact pPairs_iff.2 ⟨rfl,by simpa using h1,by simpa using h2,fun n hn=>h3 n (by simp [hn]),fun n hn=>h4 n (by simp [hn])⟩
theorem pWid_iff {r t:Bs} {n:Nat}:pWid r=some (n,t) ↔ r=byt n :: t∧n≤8:=by
 unfold pWid
 rw [Option.bind_eq_some_iff]
 constructor
 ·rintro ⟨x,h1,h2⟩
  split at h2
  ·rename_i h
   simp only [Option.some.injEq] at h2
   subst h2
   exact ⟨(pByte_iff.1 h1).1,h⟩
  ·cases h2
 ·rintro ⟨rfl,h⟩
  exact ⟨(n,t),pByte_iff.2 ⟨rfl,by omega⟩,by simp [h]⟩
theorem pBody_iff {size:Nat} {r t:Bs} {ss rr:List Nat} (hs:size≤4):pBody size r=some ((ss,rr),t) ↔
 r=body ss rr++t∧ss.length=size∧rr.length=size∧(size < 4→(∀ n∈ss,n≤99)∧(∀ n∈rr,n≤39))∧(size=4→wd ss≤8∧wd rr≤8):=by
 unfold pBody
 split
 ·rename_i h
  rw [pPairs_iff]
  constructor
  ·rintro ⟨rfl,h1,h2,h3,h4⟩
   exact ⟨by rw [body,if_neg (by omega)],h1,h2,fun _=>⟨h3,h4⟩,fun e=>by omega⟩
  ·rintro ⟨rfl,h1,h2,h3,h4⟩
   exact ⟨by rw [body,if_neg (by omega)],h1,h2,(h3 h).1,(h3 h).2⟩
 ·rename_i h
  obtain rfl:size=4:=by omega
  simp only [Option.bind_eq_some_iff,Option.some.injEq,Prod.mk.injEq]
  constructor
  ·rintro ⟨⟨a,u⟩,h1,⟨b,v⟩,h2,⟨x,p⟩,h3,⟨y,q⟩,h4,⟨rfl,rfl⟩,rfl⟩
   rw [pWid_iff] at h1 h2
   rw [pPack_iff] at h3 h4
   obtain ⟨rfl,h1⟩:=h1
   obtain ⟨h2a,h2⟩:=h2
   obtain ⟨h3a,h3,h3b⟩:=h3
   obtain ⟨h4a,h4,h4b⟩:=h4
   simp only at h1 h2a h2 h3a h3 h3b h4a h4 h4b
   subst h2a h3a h4a h3b h4b
   refine ⟨by rw [body,if_pos h3];simp,h3,h4,fun e=>by omega,fun _=>⟨h1,h2⟩⟩
  ·rintro ⟨rfl,h1,h2,_,h4⟩
   rw [body,if_pos h1]
   refine ⟨(wd ss,byt (wd rr) :: (pk (wd ss) ss++(pk (wd rr) rr++t))),pWid_iff.2 ⟨by simp,(h4 trivial).1⟩,(wd rr,pk (wd ss) ss++(pk (wd rr) rr++t)),pWid_iff.2 ⟨rfl,(h4 trivial).2⟩,
    (ss,pk (wd rr) rr++t),pPack_iff.2 ⟨rfl,h1,rfl⟩,(rr,t),pPack_iff.2 ⟨rfl,h2,rfl⟩,⟨rfl,rfl⟩,rfl⟩
theorem stp_len:∀ (next:Nat) (b:Pls),(stp next b).length=b.length
 | _,[]=>rfl
 | next,p :: r=>by simp [stp,stp_len (p.1+1) r]
theorem rep_len (b:Pls):(rep b).length=b.length:=by simp [rep]
def Ris (n:Nat):Nat→Pls→Prop
 | _,[]=>True
 | next,p :: r=>next≤p.1∧p.1 < n∧1≤p.2∧Ris n (p.1+1) r
theorem mkB_iff {n:Nat}:∀ {ss rr:List Nat} {next:Nat} {b:Pls},rr.length=ss.length→(mkB n next ss rr=some b ↔ stp next b=ss∧rep b=rr∧Ris n next b)
 | [],rr,next,b,h=>by
   have:rr=[]:=by simpa using h
   subst this
   simp only [mkB,Option.some.injEq]
   constructor
   ·rintro rfl;simp [stp,rep,Ris]
   ·rintro ⟨h1,_⟩
    cases b with
    | nil=>rfl
    | cons p r=>simp [stp] at h1
 | s :: ss,[],next,b,h=>by simp at h
 | s :: ss,q :: rr,next,b,h=>by
   simp only [List.length_cons,Nat.add_right_cancel_iff] at h
   simp only [mkB]
   split
   ·rename_i hl
    simp only [List.tail_cons,List.headD_cons,Option.map_eq_some_iff]
    constructor
    ·rintro ⟨l,h1,rfl⟩
     rw [mkB_iff h] at h1
     obtain ⟨h1,h2,h3⟩:=h1
     exact ⟨by simp [stp,h1],by simp [rep] at h2 ⊢;exact h2,by omega,hl,by simp,h3⟩
    ·rintro ⟨h1,h2,h3⟩
     cases b with
     | nil=>simp [stp] at h1
     | cons p l =>
       simp only [stp,List.cons.injEq] at h1
       simp only [rep,List.map_cons,List.cons.injEq] at h2
       obtain ⟨g1,g2,g3,g4⟩:=h3
       have e1:p.1=next+s:=by omega
       refine ⟨l,(mkB_iff h).2 ⟨by rw [← e1];exact h1.2,h2.2,by rw [← e1];exact g4⟩,?_⟩
       obtain ⟨a,c⟩:=p
       simp only at e1 h2 g3 ⊢
       rw [e1]
       congr 2
       omega
   ·rename_i hl
    constructor
    ·intro e;cases e
    ·rintro ⟨h1,h2,h3⟩
     cases b with
     | nil=>simp [stp] at h1
     | cons p l =>
       simp only [stp,List.cons.injEq] at h1
       obtain ⟨g1,g2,g3,g4⟩:=h3
       omega
theorem LV.ris {lens:List Nat}:∀ {next:Nat} {b:Pls},LV lens next b→Ris lens.length next b
 | _,[],_=>trivial
 | _,_ :: _,⟨h1,h2,h3,_,_,h6⟩=>⟨h1,h2,h3,LV.ris h6⟩
theorem LV.of {lens:List Nat}:∀ {next:Nat} {b:Pls},Ris lens.length next b→(∀ p∈b,p.2≤40∧1≤lens.getD p.1 0)→LV lens next b
 | _,[],_,_=>trivial
 | _,p :: _,⟨h1,h2,h3,h6⟩,h=>⟨h1,h2,h3,(h p (by simp)).1,(h p (by simp)).2,LV.of h6 fun q hq=>h q (by simp [hq])⟩
theorem LV.mem {lens:List Nat}:∀ {next:Nat} {b:Pls},LV lens next b→∀ p∈b,next≤p.1∧p.1 < lens.length∧1≤p.2∧p.2≤40∧1≤lens.getD p.1 0
 | _,[],_,p,hp=>by simp at hp
 | _,q :: r,⟨h1,h2,h3,h4,h5,h6⟩,p,hp=>by
   rcases List.mem_cons.1 hp with rfl | hp
   ·exact ⟨h1,h2,h3,h4,h5⟩
   ·have:=LV.mem h6 p hp
    exact ⟨by omega,this.2⟩
theorem mnL_le (lens:List Nat):∀ b:Pls,mnL lens b≤40
 | []=>by simp [mnL]
 | p :: r=>by
   have:=mnL_le lens r
   simp only [mnL,List.map_cons,List.foldr_cons] at this ⊢
   omega
theorem mnL_ge {lens:List Nat}:∀ {b:Pls},1≤mnL lens b ↔ ∀ p∈b,1≤lens.getD p.1 0
 | []=>by simp [mnL]
 | p :: r=>by
   have:=@mnL_ge lens r
   simp only [mnL,List.map_cons,List.foldr_cons,List.mem_cons,forall_eq_or_imp] at this ⊢
   rw [← this]
   omega
theorem mxC_le {b:Pls} {k:Nat}:mxC b≤k ↔ ∀ p∈b,p.2≤k:=by
 unfold mxC;rw [mx_le]
 constructor
 ·intro h p hp;exact h p.2 (List.mem_map.2 ⟨p,hp,rfl⟩)
 ·intro h n hn;obtain ⟨p,hp,rfl⟩:=List.mem_map.1 hn;exact h p hp
theorem lastO_mem:∀ {b:Pls},b≠[]→∃ p∈b,lastO b=p.1
 | [],h=>absurd rfl h
 | [p],_=>⟨p,by simp,rfl⟩
 | p :: q :: r,_=>by
   obtain ⟨x,hx,e⟩:=lastO_mem (b:=q :: r) (by simp)
   exact ⟨x,List.mem_cons_of_mem _ hx,e⟩
theorem Ris.mem {n:Nat}:∀ {next:Nat} {b:Pls},Ris n next b→∀ p∈b,next≤p.1∧p.1 < n∧1≤p.2
 | _,[],_,p,hp=>by simp at hp
 | _,q :: r,⟨h1,h2,h3,h6⟩,p,hp=>by
   rcases List.mem_cons.1 hp with rfl | hp
   ·exact ⟨h1,h2,h3⟩
   ·have:=Ris.mem h6 p hp
    exact ⟨by omega,this.2⟩
theorem mxC_ge {b:Pls} (hb:b≠[]) (h:∀ p∈b,1≤p.2):1≤mxC b:=by
 cases b with
 | nil=>exact absurd rfl hb
 | cons p r =>
   have:=h p (by simp)
   have h2:=(mxC_le (b:=p :: r) (k:=mxC (p :: r))).1 (Nat.le_refl _) p (by simp)
   omega
theorem stp_le {n:Nat}:∀ {next:Nat} {b:Pls},Ris n next b→∀ s∈stp next b,s < n
 | _,[],_,s,hs=>by simp [stp] at hs
 | _,p :: r,⟨h1,h2,h3,h4⟩,s,hs=>by
   simp only [stp,List.mem_cons] at hs
   rcases hs with rfl | hs
   ·omega
   ·exact stp_le h4 s hs
theorem pHead_iff {n a b c:Nat} {r t:Bs} (hn:n≤100):pHead n r=some ((a,b,c),t) ↔ r=vi a++vi b++vi c++t∧a≤n - 1∧1≤b∧b≤40∧1≤c∧c≤40:=by
 unfold pHead
 simp only [Option.bind_eq_some_iff,Option.some.injEq,Prod.mk.injEq]
 constructor
 ·rintro ⟨⟨x,u⟩,h1,⟨y,v⟩,h2,⟨z,q⟩,h3,⟨rfl,rfl,rfl⟩,rfl⟩
  rw [pNum_iff (by omega)] at h1 h2 h3
  obtain ⟨rfl,_,h1⟩:=h1
  obtain ⟨e2,h2a,h2b⟩:=h2
  obtain ⟨e3,h3a,h3b⟩:=h3
  simp only at e2 e3
  subst e2 e3
  exact ⟨by simp,h1,h2a,h2b,h3a,h3b⟩
 ·rintro ⟨rfl,h1,h2,h3,h4,h5⟩
  exact ⟨(a,vi b++(vi c++t)),(pNum_iff (by omega)).2 ⟨by simp,by omega,h1⟩,(b,vi c++t),(pNum_iff (by omega)).2 ⟨rfl,h2,h3⟩,(c,t),(pNum_iff (by omega)).2 ⟨rfl,h4,h5⟩,⟨rfl,rfl,rfl⟩,rfl⟩
theorem pBlk_iff {lens:List Nat} {size next:Nat} {r t:Bs} {b:Pls} (hs:1≤size) (h4:size≤4) (hn:lens.length≤100) :
 pBlk lens size next r=some (b,t) ↔ r=encBlk lens next b++t∧b.length=size∧LV lens next b:=by
 unfold pBlk
 simp only [Option.bind_eq_some_iff]
 constructor
 ·rintro ⟨⟨⟨x,y,z⟩,u⟩,h1,⟨⟨ss,rr⟩,v⟩,h2,l,h3,h5⟩
  rw [pHead_iff hn] at h1
  rw [pBody_iff h4] at h2
  obtain ⟨rfl,h1a,h1b,h1c,h1d,h1e⟩:=h1
  obtain ⟨e2,hl1,hl2,_,_⟩:=h2
  simp only at e2 h3 h5
  subst e2
  rw [mkB_iff (by omega)] at h3
  obtain ⟨e3,e4,hr⟩:=h3
  split at h5
  ·rename_i he
   simp only [Option.some.injEq,Prod.mk.injEq] at h5 he
   obtain ⟨rfl,rfl⟩:=h5
   obtain ⟨rfl,rfl,rfl⟩:=he
   subst e3 e4
   refine ⟨by simp [encBlk],by rw [← hl2,rep_len],LV.of hr fun p hp=>⟨mxC_le.1 h1c p hp,mnL_ge.1 h1d p hp⟩⟩
  ·cases h5
 ·rintro ⟨rfl,rfl,hv⟩
  have hr:=hv.ris
  have hne:b≠[]:=by intro e;subst e;simp at hs
  have hm:=hv.mem
  refine ⟨((lastO b,mxC b,mnL lens b),body (stp next b) (rep b)++t),(pHead_iff hn).2 ⟨by simp [encBlk],?_,mxC_ge hne (fun p hp=>(hm p hp).2.2.1),mxC_le.2 fun p hp=>(hm p hp).2.2.2.1,mnL_ge.2 fun p hp=>(hm p hp).2.2.2.2,mnL_le _ _⟩,
   ((stp next b,rep b),t),(pBody_iff h4).2 ⟨rfl,stp_len _ _,rep_len _,fun _=>⟨fun s hs=>?_,fun s hs=>?_⟩,fun _=>⟨wd_le.2 fun s hs=>?_,wd_le.2 fun s hs=>?_⟩⟩,b,(mkB_iff (by rw [stp_len,rep_len])).2 ⟨rfl,rfl,hr⟩,by simp⟩
  ·obtain ⟨p,hp,e⟩:=lastO_mem hne
   have:=hm p hp
   omega
  ·have:=stp_le hr s hs;omega
  ·simp only [rep,List.mem_map] at hs
   obtain ⟨p,hp,rfl⟩:=hs
   have:=hm p hp
   omega
  ·have:=stp_le hr s hs;omega
  ·simp only [rep,List.mem_map] at hs
   obtain ⟨p,hp,rfl⟩:=hs
   have:=hm p hp
   omega
def encPls (lens:List Nat):Nat→Nat→Pls→Bs
 | 0,_,_=>[]
 | f+1,next,b=>if b=[] then [] else encBlk lens next (b.take 4)++encPls lens f (lastO (b.take 4)+1) (b.drop 4)
def pPls (lens:List Nat):Nat→Nat→Nat→Bs→Option (Pls × Bs)
 | 0,_,_,r=>some ([],r)
 | f+1,k,next,r=>if k=0 then some ([],r) else (pBlk lens (min 4 k) next r).bind fun x=>(pPls lens f (k - min 4 k) (lastO x.1+1) x.2).bind fun y=>some (x.1++y.1,y.2)
theorem LV_append {lens:List Nat}:∀ {next:Nat} {a b:Pls},a≠[]→(LV lens next (a++b) ↔ LV lens next a∧LV lens (lastO a+1) b)
 | _,[],_,h=>absurd rfl h
 | next,[p],b,_=>by simp [LV,lastO,and_assoc]
 | next,p :: q :: r,b,_=>by
   have:=@LV_append lens (p.1+1) (q :: r) b (by simp)
   simp only [List.cons_append] at this ⊢
   have e:LV lens next (p :: q :: r) ↔ next≤p.1∧p.1 < lens.length∧1≤p.2∧p.2≤40∧1≤lens.getD p.1 0∧LV lens (p.1+1) (q :: r):=Iff.rfl
   have e2:LV lens next (p :: q :: (r++b)) ↔ next≤p.1∧p.1 < lens.length∧1≤p.2∧p.2≤40∧1≤lens.getD p.1 0∧LV lens (p.1+1) (q :: (r++b)):=Iff.rfl
   rw [e,e2,this,lastO]
   simp only [and_assoc]
theorem pPls_iff {lens:List Nat} (hn:lens.length≤100):∀ {f k next:Nat} {r t:Bs} {b:Pls},k≤f→(pPls lens f k next r=some (b,t) ↔ r=encPls lens f next b++t∧b.length=k∧LV lens next b)
 | 0,k,next,r,t,b,hk=>by
   simp only [pPls,encPls,Option.some.injEq,Prod.mk.injEq,List.nil_append]
   constructor
   ·rintro ⟨rfl,rfl⟩;exact ⟨rfl,by simp;omega,trivial⟩
   ·rintro ⟨rfl,h,_⟩
    have:b=[]:=List.length_eq_zero_iff.1 (by omega)
    exact ⟨this.symm,rfl⟩
 | f+1,k,next,r,t,b,hk=>by
   simp only [pPls,encPls]
   by_cases h0:k=0
   ·subst h0
    simp only [if_true,Option.some.injEq,Prod.mk.injEq]
    constructor
    ·rintro ⟨rfl,rfl⟩;simp [LV]
    ·rintro ⟨rfl,h,_⟩
     have:b=[]:=List.length_eq_zero_iff.1 (by omega)
     subst this
     simp
   ·simp only [if_neg h0,Option.bind_eq_some_iff,Option.some.injEq,Prod.mk.injEq]
    constructor
    ·rintro ⟨⟨x,u⟩,h1,⟨y,v⟩,h2,rfl,rfl⟩
     rw [pBlk_iff (by omega) (by omega) hn] at h1
     obtain ⟨rfl,hx,hv⟩:=h1
     rw [pPls_iff hn (by omega)] at h2
     obtain ⟨e2,hy,hw⟩:=h2
     simp only at e2 hw
     subst e2
     have hne:x≠[]:=by intro e;subst e;simp at hx;omega
     have ht:(x++y).take 4=x∧(x++y).drop 4=y:=by
      by_cases h4:4≤k
      ·have:x.length=4:=by omega
       rw [← this];simp
      ·have:y=[]:=List.length_eq_zero_iff.1 (by omega)
       subst this
       simp only [List.append_nil]
       exact ⟨List.take_of_length_le (by omega),List.drop_eq_nil_of_le (by omega)⟩
     refine ⟨?_,by simp [hx,hy];omega,(LV_append hne).2 ⟨hv,hw⟩⟩
     rw [if_neg (by simp [hne]),ht.1,ht.2]
     simp
    ·rintro ⟨rfl,rfl,hv⟩
     have hne:b≠[]:=by intro e;subst e;simp at h0
     rw [if_neg hne]
     have htn:b.take 4≠[]:=by simp [hne]
     rw [← List.take_append_drop 4 b,LV_append htn] at hv
     refine ⟨(b.take 4,encPls lens f (lastO (b.take 4)+1) (b.drop 4)++t),(pBlk_iff (by omega) (by omega) hn).2 ⟨by simp,by simp,hv.1⟩,
      (b.drop 4,t),(pPls_iff hn (by omega)).2 ⟨rfl,by simp;omega,hv.2⟩,by simp,rfl⟩
theorem encPls_fuel (lens:List Nat):∀ {f g next:Nat} {b:Pls},b.length≤f→b.length≤g→encPls lens f next b=encPls lens g next b
 | 0,g,next,b,h,_=>by
   have:b=[]:=List.length_eq_zero_iff.1 (by omega)
   subst this
   cases g <;> simp [encPls]
 | f+1,0,next,b,_,h=>by
   have:b=[]:=List.length_eq_zero_iff.1 (by omega)
   subst this
   simp [encPls]
 | f+1,g+1,next,b,h1,h2=>by
   simp only [encPls]
   by_cases hb:b=[]
   ·simp [hb]
   ·have:0 < b.length:=List.length_pos_iff.2 hb
    rw [if_neg hb,if_neg hb,encPls_fuel lens (f:=f) (g:=g) (by simp;omega) (by simp;omega)]
end Go.ScT
namespace Go.ScT
abbrev DocP:=Nat × Bs × Nat
def encDocs:Nat→List DocP→Bs
 | _,[]=>[]
 | before,d :: r=>vi (d.1 - before)++vi d.2.2++nm d.2.1++encDocs d.1 r
def OkDocs:Nat→List Bs→List DocP→Prop
 | _,_,[]=>True
 | before,seen,d :: r=>before < d.1∧d.1≤100∧d.2.2≤40∧keyOk d.2.1=true∧d.2.1 ∉ seen∧OkDocs d.1 (seen++[d.2.1]) r
def pKey (seen:List Bs) (r:Bs):Option (Bs × Bs):=(pName r).bind fun k=>if keyOk k.1=true∧k.1 ∉ seen then some k else none
def pDoc (before:Nat) (seen:List Bs) (r:Bs):Option (DocP × Bs) :=
 (pNum 1 (100 - before) r).bind fun a=>(pNum 0 40 a.2).bind fun l=>(pKey seen l.2).bind fun k=>some ((before+a.1,k.1,l.1),k.2)
def pDocs:Nat→Nat→List Bs→Bs→Option (List DocP × Bs)
 | 0,_,_,r=>some ([],r)
 | k+1,before,seen,r=>(pDoc before seen r).bind fun d=>(pDocs k d.1.1 (seen++[d.1.2.1]) d.2).bind fun x=>some (d.1 :: x.1,x.2)
theorem keyOk_len {k:Bs} (h:keyOk k=true):1≤k.length∧k.length≤8:=by
 simp [keyOk] at h
 exact ⟨by omega,h.1.2⟩
theorem pKey_iff {seen:List Bs} {r k t:Bs}:pKey seen r=some (k,t) ↔ r=nm k++t∧keyOk k=true∧k ∉ seen:=by
 unfold pKey
 rw [Option.bind_eq_some_iff]
 constructor
 ·rintro ⟨x,h1,h2⟩
  split at h2
  ·rename_i h
   simp only [Option.some.injEq] at h2
   subst h2
   exact ⟨(pName_iff.1 h1).1,h⟩
  ·cases h2
 ·rintro ⟨rfl,h1,h2⟩
  exact ⟨(k,t),pName_iff.2 ⟨rfl,by have:=keyOk_len h1;omega⟩,by simp [h1,h2]⟩
theorem pDoc_iff {before:Nat} {seen:List Bs} {r t:Bs} {d:DocP}:pDoc before seen r=some (d,t) ↔
 r=vi (d.1 - before)++vi d.2.2++nm d.2.1++t∧before < d.1∧d.1≤100∧d.2.2≤40∧keyOk d.2.1=true∧d.2.1 ∉ seen:=by
 obtain ⟨n,k,l⟩:=d
 unfold pDoc
 simp only [Option.bind_eq_some_iff,Option.some.injEq,Prod.mk.injEq]
 constructor
 ·rintro ⟨⟨a,u⟩,h1,⟨b,v⟩,h2,⟨c,z⟩,h3,⟨rfl,rfl,rfl⟩,rfl⟩
  rw [pNum_iff (by omega)] at h1 h2
  rw [pKey_iff] at h3
  obtain ⟨rfl,h1a,h1b⟩:=h1
  obtain ⟨e2,_,h2⟩:=h2
  obtain ⟨e3,h3a,h3b⟩:=h3
  simp only at e2 e3
  subst e2 e3
  exact ⟨by simp,by omega,by omega,h2,h3a,h3b⟩
 ·rintro ⟨rfl,h1,h2,h3,h4,h5⟩
  exact ⟨(n - before,vi l++(nm k++t)),(pNum_iff (by omega)).2 ⟨by simp,by omega,by omega⟩,(l,nm k++t),(pNum_iff (by omega)).2 ⟨rfl,by omega,h3⟩,(k,t),pKey_iff.2 ⟨rfl,h4,h5⟩,⟨by simp;omega,rfl,rfl⟩,rfl⟩
theorem pDocs_iff:∀ {k before:Nat} {seen:List Bs} {r t:Bs} {ds:List DocP},pDocs k before seen r=some (ds,t) ↔ r=encDocs before ds++t∧ds.length=k∧OkDocs before seen ds
 | 0,before,seen,r,t,ds=>by
   simp only [pDocs,Option.some.injEq,Prod.mk.injEq]
   constructor
   ·rintro ⟨rfl,rfl⟩;simp [encDocs,OkDocs]
   ·rintro ⟨rfl,h,_⟩
    have:ds=[]:=List.length_eq_zero_iff.1 h
    subst this
    simp [encDocs]
 | k+1,before,seen,r,t,ds=>by
   simp only [pDocs,Option.bind_eq_some_iff,Option.some.injEq,Prod.mk.injEq]
   constructor
   ·rintro ⟨⟨d,u⟩,h1,⟨x,v⟩,h2,rfl,rfl⟩
    rw [pDoc_iff] at h1
    rw [pDocs_iff] at h2
    obtain ⟨rfl,h1⟩:=h1
    obtain ⟨e2,h2a,h2b⟩:=h2
    simp only at e2 h2a h2b
    subst e2
    exact ⟨by simp [encDocs],by simp [h2a],h1.1,h1.2.1,h1.2.2.1,h1.2.2.2.1,h1.2.2.2.2,h2b⟩
   ·rintro ⟨rfl,h1,h2⟩
    cases ds with
    | nil=>simp at h1
    | cons d x =>
      obtain ⟨g1,g2,g3,g4,g5,g6⟩:=h2
      exact ⟨(d,encDocs d.1 x++t),pDoc_iff.2 ⟨by simp [encDocs],g1,g2,g3,g4,g5⟩,(x,t),pDocs_iff.2 ⟨rfl,by simpa using h1,g6⟩,rfl,rfl⟩
def ltB:Bs→Bs→Bool
 | _,[]=>false
 | [],_ :: _=>true
 | a :: x,b :: y=>decide (a.toNat < b.toNat) || (a == b && ltB x y)
def isTok (t:Bs):Bool:=toks t == [t]
theorem smLet_len {x:Bs} (h:SmLet x):x.length≤2:=by rcases h with ⟨b,rfl,_⟩ | ⟨c,rfl,_⟩ <;> simp
theorem goodRun_len {t:Bs} {n:Nat} (h:GoodRun t n):t.length≤20:=by
 obtain ⟨ls,rfl,hl,hn,hs⟩:=h
 have:∀ (l:List Bs),(∀ x∈l,SmLet x)→l.flatten.length≤2 * l.length:=by
  intro l
  induction l with
  | nil=>simp
  | cons a r ih =>
    intro h
    have h1:=smLet_len (h a (by simp))
    have h2:=ih fun x hx=>h x (by simp [hx])
    simp only [List.flatten_cons,List.length_append,List.length_cons]
    omega
 have:=this ls hs
 omega
theorem isTok_good {t:Bs} (h:isTok t=true):Good t:=by
 simp [isTok] at h
 exact toks_good t t (by rw [h];simp)
theorem isTok_len {t:Bs} (h:isTok t=true):1≤t.length∧t.length≤20:=by
 have hg:=isTok_good h
 obtain ⟨h1,n,h2⟩:=hg
 refine ⟨?_,goodRun_len h2⟩
 cases t with
 | nil=>simp [stopB] at h1
 | cons a r=>simp
theorem isTok_of {t:Bs} (h:Good t):isTok t=true:=by simp [isTok,good_toks t h]
abbrev Lst:=Bs × Pls
def encList (lens:List Nat) (l:Lst):Bs:=nm l.1++vi l.2.length++encPls lens l.2.length 0 l.2
def encLists (lens:List Nat):List Lst→Bs
 | []=>[]
 | l :: r=>encList lens l++encLists lens r
def OkLists (lens:List Nat):Bs→List Lst→Prop
 | _,[]=>True
 | before,l :: r=>isTok l.1=true∧ltB before l.1=true∧1≤l.2.length∧l.2.length≤lens.length∧LV lens 0 l.2∧OkLists lens l.1 r
def pTok (before r:Bs):Option (Bs × Bs):=(pName r).bind fun k=>if isTok k.1=true∧ltB before k.1=true then some k else none
def pList (lens:List Nat) (before r:Bs):Option (Lst × Bs) :=
 (pTok before r).bind fun k=>(pNum 1 lens.length k.2).bind fun c=>(pPls lens c.1 c.1 0 c.2).bind fun b=>some ((k.1,b.1),b.2)
def pLists (lens:List Nat):Nat→Bs→Bs→Option (List Lst × Bs)
 | 0,_,r=>some ([],r)
 | k+1,before,r=>(pList lens before r).bind fun l=>(pLists lens k l.1.1 l.2).bind fun x=>some (l.1 :: x.1,x.2)
theorem pTok_iff {before r k t:Bs}:pTok before r=some (k,t) ↔ r=nm k++t∧isTok k=true∧ltB before k=true:=by
 unfold pTok
 rw [Option.bind_eq_some_iff]
 constructor
 ·rintro ⟨x,h1,h2⟩
  split at h2
  ·rename_i h
   simp only [Option.some.injEq] at h2
   subst h2
   exact ⟨(pName_iff.1 h1).1,h⟩
  ·cases h2
 ·rintro ⟨rfl,h1,h2⟩
  exact ⟨(k,t),pName_iff.2 ⟨rfl,by have:=isTok_len h1;omega⟩,by simp [h1,h2]⟩
theorem pList_iff {lens:List Nat} {before r t:Bs} {l:Lst} (hn:lens.length≤100):pList lens before r=some (l,t) ↔
 r=encList lens l++t∧isTok l.1=true∧ltB before l.1=true∧1≤l.2.length∧l.2.length≤lens.length∧LV lens 0 l.2:=by
 obtain ⟨tok,b⟩:=l
 unfold pList
 simp only [Option.bind_eq_some_iff,Option.some.injEq,Prod.mk.injEq]
 constructor
 ·rintro ⟨⟨k,u⟩,h1,⟨c,v⟩,h2,⟨x,z⟩,h3,⟨rfl,rfl⟩,rfl⟩
  rw [pTok_iff] at h1
  rw [pNum_iff (by omega)] at h2
  rw [pPls_iff hn (Nat.le_refl _)] at h3
  obtain ⟨rfl,h1⟩:=h1
  obtain ⟨e2,h2⟩:=h2
  obtain ⟨e3,h3a,h3b⟩:=h3
  simp only at e2 e3 h3a h3b h2
  subst e2 e3 h3a
  exact ⟨by simp [encList],h1.1,h1.2,h2.1,h2.2,h3b⟩
 ·rintro ⟨rfl,h1,h2,h3,h4,h5⟩
  exact ⟨(tok,vi b.length++(encPls lens b.length 0 b++t)),pTok_iff.2 ⟨by simp [encList],h1,h2⟩,(b.length,encPls lens b.length 0 b++t),(pNum_iff (by omega)).2 ⟨rfl,h3,h4⟩,(b,t),(pPls_iff hn (Nat.le_refl _)).2 ⟨rfl,rfl,h5⟩,⟨rfl,rfl⟩,rfl⟩
theorem pLists_iff {lens:List Nat} (hn:lens.length≤100):∀ {k:Nat} {before r t:Bs} {ls:List Lst},pLists lens k before r=some (ls,t) ↔ r=encLists lens ls++t∧ls.length=k∧OkLists lens before ls
 | 0,before,r,t,ls=>by
   simp only [pLists,Option.some.injEq,Prod.mk.injEq]
   constructor
   ·rintro ⟨rfl,rfl⟩;simp [encLists,OkLists]
   ·rintro ⟨rfl,h,_⟩
    have:ls=[]:=List.length_eq_zero_iff.1 h
    subst this
    simp [encLists]
 | k+1,before,r,t,ls=>by
   simp only [pLists,Option.bind_eq_some_iff,Option.some.injEq,Prod.mk.injEq]
   constructor
   ·rintro ⟨⟨l,u⟩,h1,⟨x,v⟩,h2,rfl,rfl⟩
    rw [pList_iff hn] at h1
    rw [pLists_iff hn] at h2
    obtain ⟨rfl,h1⟩:=h1
    obtain ⟨e2,h2a,h2b⟩:=h2
    simp only at e2 h2a h2b
    subst e2
    exact ⟨by simp [encLists],by simp [h2a],h1.1,h1.2.1,h1.2.2.1,h1.2.2.2.1,h1.2.2.2.2,h2b⟩
   ·rintro ⟨rfl,h1,h2⟩
    cases ls with
    | nil=>simp at h1
    | cons l x =>
      obtain ⟨g1,g2,g3,g4,g5,g6⟩:=h2
      exact ⟨(l,encLists lens x++t),(pList_iff hn).2 ⟨by simp [encLists],g1,g2,g3,g4,g5⟩,(x,t),(pLists_iff hn).2 ⟨rfl,by simpa using h1,g6⟩,rfl,rfl⟩
abbrev Cont:=List DocP × List Lst
def lensOf (ds:List DocP):List Nat:=ds.map (·.2.2)
def sumAt (ls:List Lst) (i:Nat):Nat:=(((ls.flatMap (·.2)).filter (·.1 == i)).map (·.2)).sum
def sumsOk (ds:List DocP) (ls:List Lst):Bool:=(List.range ds.length).all fun i=>sumAt ls i == (lensOf ds).getD i 0
def fnv (bs:Bs):Nat:=bs.foldl (fun h b=>(h ^^^ b.toNat) * 16777619 % 4294967296) 2166136261
def chk (bs:Bs):Bs:=leB 4 (fnv bs)
def encC (c:Cont):Bs:=[83,71]++vi c.1.length++encDocs 0 c.1++vi c.2.length++encLists (lensOf c.1) c.2
def wrt (c:Cont):Bs:=encC c++chk (encC c)
structure VC (c:Cont):Prop where
 some_:1≤c.1.length
 most:c.1.length≤100
 docs:OkDocs 0 [] c.1
 few:c.2.length≤4000
 lists:OkLists (lensOf c.1) [] c.2
 sums:sumsOk c.1 c.2=true
def pBodyC (s:Bs):Option (Cont × Bs) :=
 (pTake 2 s).bind fun m=>if m.1=[83,71] then (pNum 1 100 m.2).bind fun n=>(pDocs n.1 0 [] n.2).bind fun d=>(pNum 0 4000 d.2).bind fun k=>(pLists (lensOf d.1) k.1 [] k.2).bind fun l=>some ((d.1,l.1),l.2) else none
def pRead (s:Bs):Option Cont:=(pBodyC s).bind fun x =>
 if sumsOk x.1.1 x.1.2=true then (pTake 4 x.2).bind fun c=>if c.1=chk (s.take (s.length - x.2.length)) then (if c.2=[] then some x.1 else none) else none else none
theorem lensOf_len (ds:List DocP):(lensOf ds).length=ds.length:=by simp [lensOf]
theorem pBodyC_iff {s t:Bs} {c:Cont}:pBodyC s=some (c,t) ↔ s=encC c++t∧1≤c.1.length∧c.1.length≤100∧OkDocs 0 [] c.1∧c.2.length≤4000∧OkLists (lensOf c.1) [] c.2:=by
 obtain ⟨ds,ls⟩:=c
 unfold pBodyC
 rw [Option.bind_eq_some_iff]
 constructor
 ·rintro ⟨⟨m,u⟩,h0,h⟩
  rw [pTake_iff] at h0
  obtain ⟨rfl,h0⟩:=h0
  split at h
  ·rename_i hm
   simp only at hm
   subst hm
   simp only [Option.bind_eq_some_iff,Option.some.injEq,Prod.mk.injEq] at h
   obtain ⟨⟨n,v⟩,h1,⟨d,z⟩,h2,⟨k,y⟩,h3,⟨l,x⟩,h4,⟨rfl,rfl⟩,rfl⟩:=h
   rw [pNum_iff (by omega)] at h1 h3
   rw [pDocs_iff] at h2
   obtain ⟨e1,h1a,h1b⟩:=h1
   obtain ⟨e2,h2a,h2b⟩:=h2
   simp only at e1 e2 h2a
   subst e1 e2 h2a
   rw [pLists_iff (by rw [lensOf_len];exact h1b)] at h4
   obtain ⟨e3,_,h3⟩:=h3
   obtain ⟨e4,h4a,h4b⟩:=h4
   simp only at e3 e4 h4a h3
   subst e3 e4 h4a
   exact ⟨by simp [encC],h1a,h1b,h2b,h3,h4b⟩
  ·cases h
 ·rintro ⟨rfl,h1,h2,h3,h4,h5⟩
  refine ⟨([83,71],vi ds.length++(encDocs 0 ds++(vi ls.length++(encLists (lensOf ds) ls++t)))),pTake_iff.2 ⟨by simp [encC],rfl⟩,?_⟩
  simp only [if_true,Option.bind_eq_some_iff,Option.some.injEq,Prod.mk.injEq]
  exact ⟨(ds.length,encDocs 0 ds++(vi ls.length++(encLists (lensOf ds) ls++t))),(pNum_iff (by omega)).2 ⟨rfl,h1,h2⟩,(ds,vi ls.length++(encLists (lensOf ds) ls++t)),pDocs_iff.2 ⟨rfl,rfl,h3⟩,
   (ls.length,encLists (lensOf ds) ls++t),(pNum_iff (by omega)).2 ⟨rfl,by omega,h4⟩,(ls,t),(pLists_iff (by rw [lensOf_len];exact h2)).2 ⟨rfl,rfl,h5⟩,⟨rfl,rfl⟩,rfl⟩
theorem pRead_iff {s:Bs} {c:Cont}:pRead s=some c ↔ s=wrt c∧VC c:=by
 unfold pRead
 rw [Option.bind_eq_some_iff]
 constructor
 ·rintro ⟨⟨x,u⟩,h0,h⟩
  rw [pBodyC_iff] at h0
  obtain ⟨rfl,h1,h2,h3,h4,h5⟩:=h0
  split at h
  ·rename_i hs
   rw [Option.bind_eq_some_iff] at h
   obtain ⟨⟨y,v⟩,h6,h⟩:=h
   rw [pTake_iff] at h6
   obtain ⟨e6,h6⟩:=h6
   simp only at e6
   subst e6
   split at h
   ·rename_i hc
    split at h
    ·rename_i hv
     simp only [Option.some.injEq] at h
     simp only at hv hc
     subst h hv
     have:(encC x++(y++[])).take ((encC x++(y++[])).length - (y++[]).length)=encC x:=by simp
     rw [this] at hc
     subst hc
     exact ⟨by simp [wrt],h1,h2,h3,h4,h5,hs⟩
    ·cases h
   ·cases h
  ·cases h
 ·rintro ⟨rfl,h⟩
  refine ⟨(c,chk (encC c)),pBodyC_iff.2 ⟨rfl,h.some_,h.most,h.docs,h.few,h.lists⟩,?_⟩
  rw [if_pos h.sums,Option.bind_eq_some_iff]
  refine ⟨(chk (encC c),[]),pTake_iff.2 ⟨by simp,leB_len _ _⟩,?_⟩
  have:(wrt c).take ((wrt c).length - (chk (encC c)).length)=encC c:=by simp [wrt]
  simp only [this]
  simp
end Go.ScT
