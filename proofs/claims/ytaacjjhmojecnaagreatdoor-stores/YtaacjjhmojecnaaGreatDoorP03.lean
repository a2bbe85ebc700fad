import Derived.Test.YtaacjjhmojecnaaGreatDoorP02
namespace Go.ScT
abbrev DocR:=Bs × Nat × List Bs
theorem ltB_irrefl:∀ a:Bs,ltB a a=false
 | []=>rfl
 | a :: r=>by simp [ltB,ltB_irrefl r]
theorem ltB_trans:∀ {a b c:Bs},ltB a b=true→ltB b c=true→ltB a c=true
 | _,_,[],_,h=>by simp [ltB] at h
 | _,[],_ :: _,h,_=>by simp [ltB] at h
 | [],_ :: _,_ :: _,_,_=>by simp [ltB]
 | a :: x,b :: y,c :: z,h1,h2=>by
   simp only [ltB,Bool.or_eq_true,decide_eq_true_eq,Bool.and_eq_true,beq_iff_eq] at h1 h2 ⊢
   rcases h1 with h1 | ⟨rfl,h1⟩
   ·rcases h2 with h2 | ⟨rfl,h2⟩
    ·exact Or.inl (by omega)
    ·exact Or.inl h1
   ·rcases h2 with h2 | ⟨rfl,h2⟩
    ·exact Or.inl h2
    ·exact Or.inr ⟨rfl,ltB_trans h1 h2⟩
theorem ltB_total:∀ {a b:Bs},a≠b→ltB a b=false→ltB b a=true
 | [],[],h,_=>absurd rfl h
 | _ :: _,[],_,_=>by simp [ltB]
 | [],_ :: _,_,h=>by simp [ltB] at h
 | a :: x,b :: y,h,h2=>by
   simp only [ltB,Bool.or_eq_false_iff,decide_eq_false_iff_not,Bool.and_eq_false_iff,beq_eq_false_iff_ne,Bool.or_eq_true,decide_eq_true_eq,Bool.and_eq_true,beq_iff_eq] at h2 ⊢
   by_cases e:a=b
   ·subst e
    refine Or.inr ⟨rfl,ltB_total (fun e=>h (by rw [e])) ?_⟩
    rcases h2.2 with h3 | h3
    ·exact absurd rfl h3
    ·exact h3
   ·refine Or.inl ?_
    have:a.toNat≠b.toNat:=fun h'=>e (UInt8.toNat_inj.1 h')
    omega
theorem ltB_asymm {a b:Bs} (h:ltB a b=true):ltB b a=false:=by
 cases e:ltB b a with
 | false=>rfl
 | true=>have:=ltB_trans h e;rw [ltB_irrefl] at this;cases this
abbrev Srt (l:List Bs):Prop:=l.Pairwise fun a b=>ltB a b=true
theorem srt_cons {a:Bs} {r:List Bs}:Srt (a :: r) ↔ (∀ x∈r,ltB a x=true)∧Srt r:=List.pairwise_cons
def plc:List Bs→Bs→List Bs
 | [],s=>[s]
 | a :: r,s=>if a=s then a :: r else if ltB s a=true then s :: a :: r else a :: plc r s
theorem plc_mem:∀ {l:List Bs} {s x:Bs},x∈plc l s ↔ x=s∨x∈l
 | [],s,x=>by simp [plc]
 | a :: r,s,x=>by
   simp only [plc]
   split
   ·rename_i h;subst h;simp
   ·split
    ·simp
    ·simp only [List.mem_cons,plc_mem (l:=r)]
     constructor
     ·rintro (h | h | h) <;> simp [h]
     ·rintro (h | h | h) <;> simp [h]
theorem plc_srt:∀ {l:List Bs} {s:Bs},Srt l→Srt (plc l s)
 | [],s,_=>by simp [plc]
 | a :: r,s,h=>by
   simp only [plc]
   split
   ·exact h
   ·rename_i hne
    have h:=srt_cons.1 h
    split
    ·rename_i hl
     refine srt_cons.2 ⟨fun x hx=>?_,srt_cons.2 h⟩
     rcases List.mem_cons.1 hx with rfl | hx
     ·exact hl
     ·exact ltB_trans hl (h.1 x hx)
    ·rename_i hl
     refine srt_cons.2 ⟨fun x hx=>?_,plc_srt h.2⟩
     rcases plc_mem.1 hx with rfl | hx
     ·exact ltB_total (fun e=>hne e.symm) (by simpa using hl)
     ·exact h.1 x hx
theorem plc_len:∀ (l:List Bs) (s:Bs),(plc l s).length≤l.length+1
 | [],s=>by simp [plc]
 | a :: r,s=>by
   simp only [plc]
   split
   ·simp
   ·split
    ·simp
    ·have:=plc_len r s;simp;omega
theorem srt_unique:∀ {a b:List Bs},Srt a→Srt b→(∀ x,x∈a ↔ x∈b)→a=b
 | [],[],_,_,_=>rfl
 | [],y :: b,_,_,h=>by have:=(h y).2 (by simp);simp at this
 | x :: a,[],_,_,h=>by have:=(h x).1 (by simp);simp at this
 | x :: a,y :: b,ha,hb,h=>by
   have ha:=srt_cons.1 ha
   have hb:=srt_cons.1 hb
   have hxy:x=y:=by
    rcases List.mem_cons.1 ((h x).1 (by simp)) with e | hx
    ·exact e
    ·rcases List.mem_cons.1 ((h y).2 (by simp)) with e | hy
     ·exact e.symm
     ·have h1:=hb.1 x hx
      have h2:=ha.1 y hy
      rw [ltB_asymm h1] at h2
      cases h2
   subst hxy
   congr 1
   refine srt_unique ha.2 hb.2 fun z=>?_
   have hz:=h z
   simp only [List.mem_cons] at hz
   constructor
   ·intro hz1
    rcases hz.1 (Or.inr hz1) with e | e
    ·subst e;have:=ha.1 z hz1;rw [ltB_irrefl] at this;cases this
    ·exact e
   ·intro hz1
    rcases hz.2 (Or.inr hz1) with e | e
    ·subst e;have:=hb.1 z hz1;rw [ltB_irrefl] at this;cases this
    ·exact e
def wordsOf (l:List DocR):List Bs:=(l.flatMap (·.2.2)).foldl plc []
theorem foldl_plc_mem:∀ {ts l:List Bs} {x:Bs},x∈ts.foldl plc l ↔ x∈ts∨x∈l
 | [],l,x=>by simp
 | t :: ts,l,x=>by
   simp only [List.foldl_cons,foldl_plc_mem (ts:=ts),plc_mem,List.mem_cons]
   constructor
   ·rintro (h | h | h) <;> simp [h]
   ·rintro ((h | h) | h) <;> simp [h]
theorem foldl_plc_srt:∀ {ts l:List Bs},Srt l→Srt (ts.foldl plc l)
 | [],_,h=>h
 | _ :: ts,_,h=>foldl_plc_srt (ts:=ts) (plc_srt h)
theorem foldl_plc_len:∀ (ts l:List Bs),(ts.foldl plc l).length≤ts.length+l.length
 | [],_=>by simp
 | t :: ts,l=>by
   have h1:=foldl_plc_len ts (plc l t)
   have h2:=plc_len l t
   simp only [List.foldl_cons,List.length_cons]
   omega
theorem wordsOf_srt (l:List DocR):Srt (wordsOf l):=foldl_plc_srt List.Pairwise.nil
theorem wordsOf_mem {l:List DocR} {x:Bs}:x∈wordsOf l ↔ ∃ d∈l,x∈d.2.2:=by
 unfold wordsOf;rw [foldl_plc_mem];simp
theorem srt_nodup {l:List Bs} (h:Srt l):l.Nodup:=by
 refine List.Pairwise.imp ?_ h
 rintro a b hab rfl
 rw [ltB_irrefl] at hab
 cases hab
def plsFrom:Nat→List DocR→Bs→Pls
 | _,[],_=>[]
 | i,d :: r,w=>if 0 < d.2.2.count w then (i,d.2.2.count w) :: plsFrom (i+1) r w else plsFrom (i+1) r w
def docsP (l:List DocR):List DocP:=l.map fun d=>(d.2.1,d.1,d.2.2.length)
def listsP (l:List DocR):List Lst:=(wordsOf l).map fun w=>(w,plsFrom 0 l w)
def cont (l:List DocR):Cont:=(docsP l,listsP l)
structure DocOk (d:DocR):Prop where
 key:keyOk d.1=true
 low:1≤d.2.1
 high:d.2.1≤100
 len:d.2.2.length≤40
 toks:∀ t∈d.2.2,isTok t=true
structure Could (l:List DocR):Prop where
 some_:1≤l.length
 most:l.length≤100
 doc:∀ d∈l,DocOk d
 apart:l.Pairwise fun a b=>a.1≠b.1∧a.2.1 < b.2.1
theorem okDocs_of:∀ {l:List DocR} {before:Nat} {seen:List Bs},(∀ d∈l,DocOk d)→(l.Pairwise fun a b=>a.1≠b.1∧a.2.1 < b.2.1)→(∀ d∈l,before < d.2.1∧d.1 ∉ seen)→OkDocs before seen (docsP l)
 | [],_,_,_,_,_=>trivial
 | d :: r,before,seen,h1,h2,h3=>by
   rw [List.pairwise_cons] at h2
   have hd:=h1 d (by simp)
   refine ⟨(h3 d (by simp)).1,hd.high,hd.len,hd.key,(h3 d (by simp)).2,?_⟩
   refine okDocs_of (l:=r) (fun x hx=>h1 x (by simp [hx])) h2.2 fun x hx=>⟨(h2.1 x hx).2,?_⟩
   simp only [List.mem_append,List.mem_singleton,not_or]
   exact ⟨(h3 x (by simp [hx])).2,fun e=>(h2.1 x hx).1 e.symm⟩
theorem flatMap_len {l:List DocR} {k:Nat}:(∀ d∈l,d.2.2.length≤k)→(l.flatMap (·.2.2)).length≤k * l.length:=by
 induction l with
 | nil=>simp
 | cons d r ih =>
   intro h
   have h1:=h d (by simp)
   have h2:=ih fun x hx=>h x (by simp [hx])
   simp only [List.flatMap_cons,List.length_append,List.length_cons,Nat.mul_succ]
   omega
theorem plsFrom_len:∀ (i:Nat) (l:List DocR) (w:Bs),(plsFrom i l w).length≤l.length
 | _,[],_=>by simp [plsFrom]
 | i,d :: r,w=>by
   have:=plsFrom_len (i+1) r w
   simp only [plsFrom]
   split <;> simp <;> omega
theorem plsFrom_some:∀ {i:Nat} {l:List DocR} {w:Bs} {d:DocR},d∈l→w∈d.2.2→1≤(plsFrom i l w).length
 | i,d :: r,w,e,h1,h2=>by
   simp only [plsFrom]
   split
   ·simp
   ·rename_i hn
    rcases List.mem_cons.1 h1 with rfl | h1
    ·exact absurd (List.count_pos_iff.2 h2) hn
    ·exact plsFrom_some h1 h2
theorem plsFrom_LV {lens:List Nat} {w:Bs}:∀ {l:List DocR} {i next:Nat},next≤i→lens.drop i=l.map (fun d=>d.2.2.length)→(∀ d∈l,d.2.2.length≤40)→LV lens next (plsFrom i l w)
 | [],_,_,_,_,_=>trivial
 | d :: r,i,next,hi,hd,hl=>by
   have hlen:i < lens.length:=by
    have:=congrArg List.length hd
    simp at this
    omega
   have hg:lens.getD i 0=d.2.2.length:=by
    have:=congrArg (fun x=>x[0]?) hd
    simp at this
    rw [List.getD_eq_getElem?_getD,this]
    rfl
   have hd':lens.drop (i+1)=r.map (fun d=>d.2.2.length):=by
    have:=congrArg List.tail hd
    simpa using this
   simp only [plsFrom]
   split
   ·rename_i hc
    have hle:=List.count_le_length (a:=w) (l:=d.2.2)
    have:=hl d (by simp)
    exact ⟨hi,hlen,hc,by omega,by rw [hg];omega,plsFrom_LV (l:=r) (Nat.le_refl _) hd' fun x hx=>hl x (by simp [hx])⟩
   ·exact plsFrom_LV (l:=r) (by omega) hd' fun x hx=>hl x (by simp [hx])
theorem plsFrom_sum {w:Bs}:∀ {l:List DocR} {j i:Nat},(((plsFrom j l w).filter (·.1 == i)).map (·.2)).sum=if j≤i then ((l[i - j]?).map fun d=>d.2.2.count w).getD 0 else 0
 | [],j,i=>by simp [plsFrom]
 | d :: r,j,i=>by
   have ih:=@plsFrom_sum w r (j+1) i
   have key:(((plsFrom (j+1) r w).filter (·.1 == i)).map (·.2)).sum+(if j=i then d.2.2.count w else 0)=if j≤i then (((d :: r)[i - j]?).map fun d=>d.2.2.count w).getD 0 else 0:=by
    rw [ih]
    by_cases h1:j=i
    ·subst h1;rw [if_neg (by omega)];simp
    ·by_cases h2:j≤i
     ·have:i - j=(i - (j+1))+1:=by omega
      rw [if_pos (by omega),if_neg h1,if_pos h2,this]
      simp
     ·rw [if_neg (by omega),if_neg h1,if_neg h2]
   simp only [plsFrom]
   split
   ·rename_i hc
    rw [← key]
    by_cases h1:j=i
    ·subst h1;simp;omega
    ·simp [h1]
   ·rename_i hc
    rw [← key]
    have:d.2.2.count w=0:=by omega
    simp [this]
theorem ind_sum {a:Bs}:∀ {ws:List Bs},ws.Nodup→(ws.map fun w=>if a=w then 1 else 0).sum=if a∈ws then 1 else 0
 | [],_=>by simp
 | w :: ws,h=>by
   rw [List.nodup_cons] at h
   simp only [List.map_cons,List.sum_cons,ind_sum h.2,List.mem_cons]
   by_cases e:a=w
   ·subst e;simp [h.1]
   ·simp [e]
theorem sum_add (f g:Bs→Nat):∀ ws:List Bs,(ws.map fun w=>f w+g w).sum=(ws.map f).sum+(ws.map g).sum
 | []=>by simp
 | w :: ws=>by simp only [List.map_cons,List.sum_cons,sum_add f g ws];omega
theorem count_sum {ws:List Bs} (h:ws.Nodup):∀ {ts:List Bs},(∀ t∈ts,t∈ws)→(ws.map fun w=>ts.count w).sum=ts.length
 | [],_=>by
   have:(ws.map fun w=>([]:List Bs).count w)=ws.map fun _=>0:=by simp
   rw [this]
   induction ws with
   | nil=>simp
   | cons a r ih=>simp only [List.map_cons,List.sum_cons,Nat.zero_add];rw [ih (List.nodup_cons.1 h).2 (by simp)];rfl
 | t :: ts,ht=>by
   have ih:=count_sum h (ts:=ts) fun x hx=>ht x (by simp [hx])
   have e:(ws.map fun w=>(t :: ts).count w)=ws.map fun w=>ts.count w+(if t=w then 1 else 0):=by
    apply List.map_congr_left
    intro w _
    rw [List.count_cons]
    simp
   rw [e,sum_add,ih,ind_sum h,if_pos (ht t (by simp))]
   simp
theorem sumAt_lists (l:List DocR) (i:Nat):∀ ws:List Bs,sumAt (ws.map fun w=>(w,plsFrom 0 l w)) i=(ws.map fun w=>((l[i]?).map fun d=>d.2.2.count w).getD 0).sum
 | []=>by simp [sumAt]
 | w :: ws=>by
   have ih:=sumAt_lists l i ws
   have h1:=@plsFrom_sum w l 0 i
   simp only [Nat.zero_le,if_true,Nat.sub_zero] at h1
   unfold sumAt at ih ⊢
   simp only [List.map_cons,List.flatMap_cons,List.filter_append,List.map_append,List.sum_append,List.sum_cons]
   rw [h1,ih]
theorem okLists_of {lens:List Nat} {l:List DocR}:∀ {ws:List Bs} {before:Bs},Srt ws→(∀ w∈ws,ltB before w=true∧isTok w=true∧1≤(plsFrom 0 l w).length∧(plsFrom 0 l w).length≤lens.length∧LV lens 0 (plsFrom 0 l w))→OkLists lens before (ws.map fun w=>(w,plsFrom 0 l w))
 | [],_,_,_=>trivial
 | w :: ws,before,hs,h=>by
   have hs:=srt_cons.1 hs
   obtain ⟨h1,h2,h3,h4,h5⟩:=h w (by simp)
   exact ⟨h2,h1,h3,h4,h5,okLists_of hs.2 fun x hx=>⟨hs.1 x hx,(h x (by simp [hx])).2⟩⟩
theorem vc_cont {l:List DocR} (h:Could l):VC (cont l):=by
 have hlen:∀ d∈l,d.2.2.length≤40:=fun d hd=>(h.doc d hd).len
 have hdp:(docsP l).length=l.length:=by simp [docsP]
 have hlp:lensOf (docsP l)=l.map fun d=>d.2.2.length:=by simp [lensOf,docsP]
 refine ⟨by rw [cont,hdp];exact h.some_,by rw [cont,hdp];exact h.most,okDocs_of h.doc h.apart fun d hd=>⟨(h.doc d hd).low,by simp⟩,?_,?_,?_⟩
 ·have h1:=foldl_plc_len (l.flatMap (·.2.2)) []
  have h2:=flatMap_len hlen
  have h3:=h.most
  simp only [cont,listsP,List.length_map,wordsOf]
  simp only [List.length_nil] at h1
  omega
 ·refine okLists_of (wordsOf_srt l) fun w hw=>?_
  obtain ⟨d,hd,hwd⟩:=wordsOf_mem.1 hw
  have ht:=(h.doc d hd).toks w hwd
  refine ⟨?_,ht,plsFrom_some hd hwd,?_,?_⟩
  ·have:=(isTok_len ht).1
   cases w with
   | nil=>simp at this
   | cons a r=>rfl
  ·rw [lensOf_len,cont,hdp];exact plsFrom_len _ _ _
  ·exact plsFrom_LV (Nat.le_refl _) (by rw [cont,hlp];simp) hlen
 ·unfold sumsOk
  rw [List.all_eq_true]
  intro i hi
  rw [List.mem_range,cont,hdp] at hi
  rw [beq_iff_eq,cont,listsP,sumAt_lists,hlp]
  have e:l[i]?=some l[i]:=List.getElem?_eq_getElem hi
  simp only [e,Option.map_some,Option.getD_some]
  rw [count_sum (srt_nodup (wordsOf_srt l)) fun t ht=>wordsOf_mem.2 ⟨l[i],List.getElem_mem hi,ht⟩]
  simp [List.getD_eq_getElem?_getD,e]
end Go.ScT
namespace Go.ScT
def cntAt (b:Pls) (i:Nat):Nat:=((b.filter (·.1 == i)).map (·.2)).sum
def toksAt (ls:List Lst) (i:Nat):List Bs:=ls.flatMap fun l=>List.replicate (cntAt l.2 i) l.1
def docsFrom (ls:List Lst):Nat→List DocP→List DocR
 | _,[]=>[]
 | i,d :: r=>(d.2.1,d.1,toksAt ls i) :: docsFrom ls (i+1) r
def docsOf (c:Cont):List DocR:=docsFrom c.2 0 c.1
theorem cntAt_cons (p:Nat × Nat) (r:Pls) (i:Nat):cntAt (p :: r) i=(if p.1=i then p.2 else 0)+cntAt r i:=by
 unfold cntAt
 by_cases h:p.1=i <;> simp [h]
theorem sumAt_cons (l:Lst) (ls:List Lst) (i:Nat):sumAt (l :: ls) i=cntAt l.2 i+sumAt ls i:=by
 simp [sumAt,cntAt]
theorem toksAt_len (i:Nat):∀ ls:List Lst,(toksAt ls i).length=sumAt ls i
 | []=>by simp [toksAt,sumAt]
 | l :: ls=>by
   have:=toksAt_len i ls
   rw [sumAt_cons,← this]
   simp [toksAt]
theorem cntAt_low {n:Nat}:∀ {next:Nat} {b:Pls} {i:Nat},Ris n next b→i < next→cntAt b i=0
 | _,[],i,_,_=>by simp [cntAt]
 | next,p :: r,i,⟨h1,h2,h3,h4⟩,hi=>by
   rw [cntAt_cons,if_neg (by omega),cntAt_low h4 (by omega)]
theorem cntAt_mem {n:Nat}:∀ {next:Nat} {b:Pls} {p:Nat × Nat},Ris n next b→p∈b→cntAt b p.1=p.2
 | _,[],p,_,h=>by simp at h
 | next,q :: r,p,⟨h1,h2,h3,h4⟩,hp=>by
   rw [cntAt_cons]
   rcases List.mem_cons.1 hp with rfl | hp
   ·rw [if_pos rfl,cntAt_low h4 (by omega)];rfl
   ·have:=(h4.mem p hp).1
    rw [if_neg (by omega),cntAt_mem h4 hp];omega
def plsC:Nat→Nat→(Nat→Nat)→Pls
 | _,0,_=>[]
 | i,k+1,f=>if 0 < f i then (i,f i) :: plsC (i+1) k f else plsC (i+1) k f
theorem plsC_ris:∀ {k i:Nat} {b:Pls} {f:Nat→Nat},Ris (i+k) i b→(∀ j,i≤j→f j=cntAt b j)→plsC i k f=b
 | 0,i,b,f,h,_=>by
   cases b with
   | nil=>rfl
   | cons p r=>have:=h.1;have:=h.2.1;omega
 | k+1,i,b,f,h,hf=>by
   simp only [plsC]
   cases b with
   | nil =>
     have:f i=0:=by rw [hf i (Nat.le_refl _)];simp [cntAt]
     rw [this,if_neg (by omega)]
     exact plsC_ris trivial fun j hj=>hf j (by omega)
   | cons p r =>
     obtain ⟨h1,h2,h3,h4⟩:=h
     by_cases e:p.1=i
     ·have hfi:f i=p.2:=by
       rw [hf i (Nat.le_refl _),cntAt_cons,if_pos e,cntAt_low h4 (by omega)];rfl
      rw [hfi,if_pos (by omega)]
      have:plsC (i+1) k f=r:=by
       refine plsC_ris (by rw [← e,show p.1+1+k=i+(k+1) by omega];exact h4) fun j hj=>?_
       rw [hf j (by omega),cntAt_cons,if_neg (by omega)];omega
      rw [this,← e]
     ·have hfi:f i=0:=by
       rw [hf i (Nat.le_refl _),cntAt_cons,if_neg e,cntAt_low h4 (by omega)]
      rw [hfi,if_neg (by omega)]
      refine plsC_ris (b:=p :: r) ⟨by omega,by omega,h3,by rw [show i+1+k=i+(k+1) by omega];exact h4⟩ fun j hj=>hf j (by omega)
theorem plsFrom_docs (ls:List Lst) (w:Bs):∀ (ds:List DocP) (i:Nat),plsFrom i (docsFrom ls i ds) w=plsC i ds.length fun j=>(toksAt ls j).count w
 | [],_=>rfl
 | d :: r,i=>by
   simp only [docsFrom,plsFrom,List.length_cons,plsC,plsFrom_docs ls w r (i+1)]
theorem count_toks_none {i:Nat} {w:Bs}:∀ {ls:List Lst},(∀ l∈ls,l.1≠w)→(toksAt ls i).count w=0
 | [],_=>by simp [toksAt]
 | l :: ls,h=>by
   have h1:=h l (by simp)
   have h2:=count_toks_none (i:=i) (ls:=ls) fun x hx=>h x (by simp [hx])
   simp only [toksAt,List.flatMap_cons,List.count_append,List.count_replicate] at h2 ⊢
   rw [h2]
   simp [h1]
theorem count_toks {i:Nat}:∀ {ls:List Lst} {l:Lst},(ls.map (·.1)).Nodup→l∈ls→(toksAt ls i).count l.1=cntAt l.2 i
 | [],_,_,h=>by simp at h
 | a :: ls,l,hn,hl=>by
   simp only [List.map_cons,List.nodup_cons,List.mem_map,not_exists,not_and] at hn
   simp only [toksAt,List.flatMap_cons,List.count_append,List.count_replicate]
   rcases List.mem_cons.1 hl with rfl | hl
   ·have:=count_toks_none (i:=i) (w:=l.1) (ls:=ls) fun x hx=>hn.1 x hx
    unfold toksAt at this
    rw [this]
    simp
   ·have:=count_toks (i:=i) hn.2 hl
    unfold toksAt at this
    rw [this]
    have hne:a.1≠l.1:=fun e=>hn.1 l hl e.symm
    simp [hne]
theorem okLists_srt {lens:List Nat}:∀ {ls:List Lst} {before:Bs},OkLists lens before ls→Srt (ls.map (·.1))∧∀ l∈ls,ltB before l.1=true
 | [],_,_=>by simp
 | l :: ls,before,⟨_,h2,_,_,_,h6⟩=>by
   have ih:=okLists_srt h6
   refine ⟨?_,?_⟩
   ·rw [List.map_cons]
    refine srt_cons.2 ⟨fun x hx=>?_,ih.1⟩
    obtain ⟨y,hy,rfl⟩:=List.mem_map.1 hx
    exact ih.2 y hy
   ·intro x hx
    rcases List.mem_cons.1 hx with rfl | hx
    ·exact h2
    ·exact ltB_trans h2 (ih.2 x hx)
theorem okLists_mem {lens:List Nat}:∀ {ls:List Lst} {before:Bs},OkLists lens before ls→∀ l∈ls,isTok l.1=true∧1≤l.2.length∧l.2.length≤lens.length∧LV lens 0 l.2
 | [],_,_,_,h=>by simp at h
 | l :: ls,before,⟨h1,_,h3,h4,h5,h6⟩,x,hx=>by
   rcases List.mem_cons.1 hx with rfl | hx
   ·exact ⟨h1,h3,h4,h5⟩
   ·exact okLists_mem h6 x hx
theorem docsFrom_get (ls:List Lst):∀ (ds:List DocP) (i j:Nat),(docsFrom ls i ds)[j]?=(ds[j]?).map fun d=>(d.2.1,d.1,toksAt ls (i+j))
 | [],_,_=>by simp [docsFrom]
 | d :: r,i,0=>by simp [docsFrom]
 | d :: r,i,j+1=>by
   simp only [docsFrom,List.getElem?_cons_succ,docsFrom_get ls r (i+1) j]
   rw [show i+1+j=i+(j+1) by omega]
theorem docsFrom_len (ls:List Lst):∀ (ds:List DocP) (i:Nat),(docsFrom ls i ds).length=ds.length
 | [],_=>rfl
 | d :: r,i=>by simp [docsFrom,docsFrom_len ls r]
theorem docsFrom_mem {ls:List Lst} {ds:List DocP} {x:DocR} (h:x∈docsFrom ls 0 ds):∃ (i:Nat) (d:DocP),ds[i]?=some d∧x=(d.2.1,d.1,toksAt ls i):=by
 obtain ⟨i,hi⟩:=List.mem_iff_getElem?.1 h
 rw [docsFrom_get] at hi
 cases hd:ds[i]? with
 | none=>rw [hd] at hi;simp at hi
 | some d =>
   rw [hd] at hi
   simp at hi
   exact ⟨i,d,hd,hi.symm⟩
theorem okDocs_mem:∀ {ds:List DocP} {before:Nat} {seen:List Bs},OkDocs before seen ds→∀ d∈ds,before < d.1∧d.1≤100∧d.2.2≤40∧keyOk d.2.1=true∧d.2.1 ∉ seen
 | [],_,_,_,_,h=>by simp at h
 | a :: r,before,seen,⟨h1,h2,h3,h4,h5,h6⟩,d,hd=>by
   rcases List.mem_cons.1 hd with rfl | hd
   ·exact ⟨h1,h2,h3,h4,h5⟩
   ·have:=okDocs_mem h6 d hd
    exact ⟨by omega,this.2.1,this.2.2.1,this.2.2.2.1,fun e=>this.2.2.2.2 (by simp [e])⟩
theorem okDocs_apart (ls:List Lst):∀ {ds:List DocP} {before:Nat} {seen:List Bs} (i:Nat),OkDocs before seen ds→(docsFrom ls i ds).Pairwise fun a b=>a.1≠b.1∧a.2.1 < b.2.1
 | [],_,_,_,_=>List.Pairwise.nil
 | a :: r,before,seen,i,⟨h1,h2,h3,h4,h5,h6⟩=>by
   simp only [docsFrom]
   refine List.pairwise_cons.2 ⟨fun x hx=>?_,okDocs_apart ls (i+1) h6⟩
   obtain ⟨j,hj⟩:=List.mem_iff_getElem?.1 hx
   rw [docsFrom_get] at hj
   cases hd:r[j]? with
   | none=>rw [hd] at hj;simp at hj
   | some d =>
     rw [hd] at hj
     simp at hj
     subst hj
     have:=okDocs_mem h6 d (List.mem_of_getElem? hd)
     exact ⟨fun e=>this.2.2.2.2 (by simp at e;simp [e]),this.1⟩
theorem vc_lens {c:Cont} (h:VC c) {i:Nat} {d:DocP} (hd:c.1[i]?=some d):(toksAt c.2 i).length=d.2.2:=by
 have hs:=h.sums
 unfold sumsOk at hs
 rw [List.all_eq_true] at hs
 have hi:i < c.1.length:=(List.getElem?_eq_some_iff.1 hd).1
 have:=hs i (List.mem_range.2 hi)
 rw [beq_iff_eq] at this
 rw [toksAt_len,this,List.getD_eq_getElem?_getD,lensOf,List.getElem?_map,hd]
 rfl
theorem could_docsOf {c:Cont} (h:VC c):Could (docsOf c):=by
 refine ⟨by rw [docsOf,docsFrom_len];exact h.some_,by rw [docsOf,docsFrom_len];exact h.most,fun x hx=>?_,okDocs_apart _ 0 h.docs⟩
 obtain ⟨i,d,hd,rfl⟩:=docsFrom_mem hx
 have hm:=okDocs_mem h.docs d (List.mem_of_getElem? hd)
 refine ⟨hm.2.2.2.1,hm.1,hm.2.1,by simp only;rw [vc_lens h hd];exact hm.2.2.1,fun t ht=>?_⟩
 simp only [toksAt,List.mem_flatMap,List.mem_replicate] at ht
 obtain ⟨l,hl,_,rfl⟩:=ht
 exact (okLists_mem h.lists l hl).1
theorem words_docsOf {c:Cont} (h:VC c):wordsOf (docsOf c)=c.2.map (·.1):=by
 have hs:=okLists_srt h.lists
 refine srt_unique (wordsOf_srt _) hs.1 fun x=>?_
 rw [wordsOf_mem]
 constructor
 ·rintro ⟨d,hd,hx⟩
  obtain ⟨i,d',hd',rfl⟩:=docsFrom_mem hd
  simp only [toksAt,List.mem_flatMap,List.mem_replicate] at hx
  obtain ⟨l,hl,_,rfl⟩:=hx
  exact List.mem_map.2 ⟨l,hl,rfl⟩
 ·intro hx
  obtain ⟨l,hl,rfl⟩:=List.mem_map.1 hx
  obtain ⟨h1,h2,h3,h4⟩:=okLists_mem h.lists l hl
  have hne:l.2≠[]:=by intro e;rw [e] at h2;simp at h2
  obtain ⟨p,hp⟩:=List.exists_mem_of_ne_nil _ hne
  have hpm:=h4.mem p hp
  rw [lensOf_len] at hpm
  have hc:=cntAt_mem h4.ris hp
  refine ⟨(docsFrom c.2 0 c.1)[p.1]'(by rw [docsFrom_len];exact hpm.2.1),List.getElem_mem _,?_⟩
  have hg:=docsFrom_get c.2 c.1 0 p.1
  rw [List.getElem?_eq_getElem (by rw [docsFrom_len];exact hpm.2.1),List.getElem?_eq_getElem hpm.2.1] at hg
  simp at hg
  rw [hg]
  simp only [toksAt,List.mem_flatMap,List.mem_replicate]
  exact ⟨l,hl,by omega,rfl⟩
theorem cont_docsOf {c:Cont} (h:VC c):cont (docsOf c)=c:=by
 have hw:=words_docsOf h
 have hs:=okLists_srt h.lists
 have e1:docsP (docsOf c)=c.1:=by
  apply List.ext_getElem?
  intro i
  rw [docsP,List.getElem?_map,docsOf,docsFrom_get]
  cases hd:c.1[i]? with
  | none=>rfl
  | some d =>
    have:=vc_lens h hd
    simp [this]
 have e2:listsP (docsOf c)=c.2:=by
  rw [listsP,hw,List.map_map]
  have:∀ l∈c.2,((fun w=>(w,plsFrom 0 (docsOf c) w)) ∘ fun x=>x.1) l=l:=by
   intro l hl
   obtain ⟨h1,h2,h3,h4⟩:=okLists_mem h.lists l hl
   have hp:plsFrom 0 (docsOf c) l.1=l.2:=by
    rw [docsOf,plsFrom_docs]
    refine plsC_ris (by rw [Nat.zero_add,← lensOf_len];exact h4.ris) fun j _=>?_
    exact count_toks (srt_nodup hs.1) hl
   simp [hp]
  rw [List.map_congr_left this]
  simp
 simp only [cont,e1,e2]
end Go.ScT
namespace Go.ScT
abbrev RSt:=Bs × Bool
def rByte (st:RSt):Nat × RSt:=match st with
 | (b :: t,false)=>(b.toNat,(t,false))
 | (r,_)=>(0,(r,true))
def rFin (most n:Nat) (st:RSt):Nat × RSt:=(n,(st.1,st.2 || decide (most < n)))
def rVar (most:Nat) (st:RSt):Nat × RSt :=
 if (rByte st).1 < 128 then rFin most (rByte st).1 (rByte st).2
 else if (rByte (rByte st).2).1 < 128 then rFin most ((rByte st).1 % 128+(rByte (rByte st).2).1 * 128) (rByte (rByte st).2).2
 else rFin most ((rByte st).1 % 128+(rByte (rByte st).2).1 % 128 * 128+(rByte (rByte (rByte st).2).2).1 % 128 * 16384) (rByte (rByte (rByte st).2).2).2
def rText (st:RSt):Bs × RSt :=
 if (rByte st).2.2=true∨(rByte st).2.1.length < (rByte st).1 then ([],((rByte st).2.1,true))
 else ((rByte st).2.1.take (rByte st).1,((rByte st).2.1.drop (rByte st).1,false))
abbrev RBt:=Nat × Nat × RSt
def rFill (x:RBt):RBt:=if x.2.1=0 then ((rByte x.2.2).1,8,(rByte x.2.2).2) else x
def rBit (x:RBt):Nat × RBt:=((rFill x).1 % 2,((rFill x).1 / 2,(rFill x).2.1 - 1,(rFill x).2.2))
def rNum:Nat→Nat→Nat→RBt→Nat × RBt
 | _,0,n,x=>(n,x)
 | k,m+1,n,x=>rNum (k+1) m (n+(rBit x).1 * 2 ^ k) (rBit x).2
def rNums (w:Nat):Nat→RBt→List Nat × RBt
 | 0,x=>([],x)
 | k+1,x=>((rNum 0 w 0 x).1 :: (rNums w k (rNum 0 w 0 x).2).1,(rNums w k (rNum 0 w 0 x).2).2)
def rBits (count w:Nat) (st:RSt):List Nat × RSt:=((rNums w count (0,0,st)).1,(rNums w count (0,0,st)).2.2.2)
def rPairs:Nat→RSt→(List Nat × List Nat) × RSt
 | 0,st=>(([],[]),st)
 | k+1,st=>(((rVar 100 st).1 :: (rPairs k (rVar 40 (rVar 100 st).2).2).1.1,(rVar 40 (rVar 100 st).2).1 :: (rPairs k (rVar 40 (rVar 100 st).2).2).1.2),(rPairs k (rVar 40 (rVar 100 st).2).2).2)
def addT (l:List DocR) (i n:Nat) (t:Bs):List DocR:=l.modify i fun d=>(d.1,d.2.1,d.2.2++List.replicate n t)
def toksL (l:List DocR) (i:Nat):Nat:=((l[i]?).map fun d=>d.2.2.length).getD 0
def rPut (t:Bs):List Nat→List Nat→Nat→List DocR→Bool × Nat × List DocR
 | s :: ss,q :: qq,next,l=>if l.length≤next+s∨40≤toksL l (next+s)+q then (true,next,l) else rPut t ss qq (next+s+1) (addT l (next+s) (q+1) t)
 | _,_,next,l=>(false,next,l)
def rHead (st:RSt):RSt:=(rVar 40 (rVar 40 (rVar 100 st).2).2).2
def rSteps (n:Nat) (st:RSt):Option (List Nat × List Nat) × RSt :=
 if n=4 then
  if 8 < (rByte st).1∨8 < (rByte (rByte st).2).1 then (none,((rByte (rByte st).2).2.1,true))
  else (some ((rBits 4 (rByte st).1 (rByte (rByte st).2).2).1,(rBits 4 (rByte (rByte st).2).1 (rBits 4 (rByte st).1 (rByte (rByte st).2).2).2).1),(rBits 4 (rByte (rByte st).2).1 (rBits 4 (rByte st).1 (rByte (rByte st).2).2).2).2)
 else (some (rPairs n st).1,(rPairs n st).2)
def rBlks (t:Bs):Nat→Nat→Nat→List DocR→RSt→List DocR × RSt
 | 0,_,_,l,st=>(l,st)
 | f+1,left,next,l,st=>if left=0∨st.2=true then (l,st) else
   match rSteps (min 4 left) (rHead st) with
   | (none,st')=>(l,st')
   | (some x,st')=>if st'.2=true then (l,st') else
     if (rPut t x.1 x.2 next l).1=true then ((rPut t x.1 x.2 next l).2.2,(st'.1,true))
     else rBlks t f (left - min 4 left) (rPut t x.1 x.2 next l).2.1 (rPut t x.1 x.2 next l).2.2 st'
def rTok (l:List DocR) (st:RSt):List DocR × RSt:=rBlks (rText st).1 (rVar l.length (rText st).2).1 (rVar l.length (rText st).2).1 0 l (rVar l.length (rText st).2).2
def rDocs:Nat→Nat→RSt→List DocR × RSt
 | 0,_,st=>([],st)
 | k+1,num,st=>if st.2=true then ([],st) else
   (((rText (rVar 40 (rVar 100 st).2).2).1,num+(rVar 100 st).1,[]) :: (rDocs k (num+(rVar 100 st).1) (rText (rVar 40 (rVar 100 st).2).2).2).1,(rDocs k (num+(rVar 100 st).1) (rText (rVar 40 (rVar 100 st).2).2).2).2)
def rLists:Nat→List DocR→RSt→List DocR × RSt
 | 0,l,st=>(l,st)
 | k+1,l,st=>if st.2=true then (l,st) else rLists k (rTok l st).1 (rTok l st).2
def rRead (s:Bs):Option (List DocR) :=
 if (rByte (s,false)).1≠83 then none
 else if (rByte (rByte (s,false)).2).1≠71 then none
 else
  let n:=rVar 100 (rByte (rByte (s,false)).2).2
  let d:=rDocs n.1 0 n.2
  let t:=rVar 4000 d.2
  let l:=rLists t.1 d.1 t.2
  if l.2.2=true then none else some l.1
theorem rByte_ok (n:Nat) (t:Bs) (h:n < 256):rByte (byt n :: t,false)=(n,(t,false)):=by simp [rByte,byt_lt n h]
theorem rVar_ok {most n:Nat} (t:Bs) (h:n≤most) (hm:most < 16384):rVar most (vi n++t,false)=(n,(t,false)):=by
 have hd:¬ most < n:=by omega
 by_cases hn:n < 128
 ·have e:rByte (vi n++t,false)=(n,(t,false)):=by simp only [vi,if_pos hn,List.cons_append,List.nil_append];exact rByte_ok n t (by omega)
  simp [rVar,e,hn,rFin,hd]
 ·have e:rByte (vi n++t,false)=(n % 128+128,(byt (n / 128) :: t,false)):=by
   simp only [vi,if_neg hn,List.cons_append,List.nil_append];exact rByte_ok _ _ (by omega)
  have e2:=rByte_ok (n / 128) t (by omega)
  have h1:¬ (n % 128+128 < 128):=by omega
  have h2:n / 128 < 128:=by omega
  have h3:(n % 128+128) % 128+n / 128 * 128=n:=by omega
  simp only [rVar,e,e2,if_neg h1,if_pos h2,rFin,h3,hd,decide_false,Bool.or_false]
theorem rText_ok {k:Bs} (t:Bs) (h:k.length < 256):rText (nm k++t,false)=(k,(t,false)):=by
 have e:rByte (nm k++t,false)=(k.length,(k++t,false)):=by simp only [nm,List.cons_append];exact rByte_ok _ _ h
 simp [rText,e]
theorem rBit_ok {m b have_ y:Nat} {t:Bs} (hh:have_≤7) (hb:b < 2 ^ have_) :
 ∃ b' h' y',rBit (b,have_,(leB ((m+1+7 - have_) / 8) y++t,false))=((b+2 ^ have_ * y) % 2,(b',h',(leB ((m+7 - h') / 8) y'++t,false)))∧h'≤7∧b' < 2 ^ h'∧b'+2 ^ h' * y'=(b+2 ^ have_ * y) / 2:=by
 by_cases h0:have_=0
 ·subst h0
  have hb0:b=0:=by simpa using hb
  subst hb0
  refine ⟨y % 256 / 2,7,y / 256,?_,by omega,by omega,?_⟩
  ·have e:(m+1+7 - 0) / 8=(m+7 - 7) / 8+1:=by omega
   rw [e]
   simp only [leB,List.cons_append,rBit,rFill,if_true,rByte,byt_toNat]
   simp only [Nat.pow_zero,Nat.one_mul,Nat.zero_add]
   rw [Nat.mod_mod_of_dvd _ (by decide)]
  ·simp only [Nat.pow_zero,Nat.one_mul,Nat.zero_add]
   omega
 ·obtain ⟨h1,rfl⟩:∃ h1,have_=h1+1:=⟨have_ - 1,by omega⟩
  refine ⟨b / 2,h1,y,?_,by omega,?_,?_⟩
  ·have e:(m+1+7 - (h1+1)) / 8=(m+7 - h1) / 8:=by omega
   rw [e]
   have e2:(b+2 ^ (h1+1) * y) % 2=b % 2:=by
    rw [Nat.pow_succ,Nat.mul_assoc,Nat.mul_comm,Nat.mul_assoc]
    rw [show b+2 * (y * 2 ^ h1)=b+2 * (y * 2 ^ h1) from rfl]
    omega
   simp [rBit,rFill,e2]
  ·rw [Nat.pow_succ] at hb;omega
  ·rw [Nat.pow_succ,show 2 ^ h1 * 2 * y=2 * (2 ^ h1 * y) by rw [Nat.mul_right_comm,Nat.mul_comm]]
   omega
theorem rNum_ok {t:Bs}:∀ {w k m n b h y:Nat},h≤7→b < 2 ^ h →
 ∃ b' h' y',rNum k w n (b,h,(leB ((m+w+7 - h) / 8) y++t,false))=(n+(b+2 ^ h * y) % 2 ^ w * 2 ^ k,(b',h',(leB ((m+7 - h') / 8) y'++t,false)))∧h'≤7∧b' < 2 ^ h'∧b'+2 ^ h' * y'=(b+2 ^ h * y) / 2 ^ w
 | 0,k,m,n,b,h,y,hh,hb=>⟨b,h,y,by simp [rNum,Nat.mod_one],hh,hb,by simp⟩
 | w+1,k,m,n,b,h,y,hh,hb=>by
   obtain ⟨b1,h1,y1,e1,hh1,hb1,ev1⟩:=@rBit_ok (m+w) b h y t hh hb
   obtain ⟨b2,h2,y2,e2,hh2,hb2,ev2⟩:=@rNum_ok t w (k+1) m (n+(b+2 ^ h * y) % 2 * 2 ^ k) b1 h1 y1 hh1 hb1
   refine ⟨b2,h2,y2,?_,hh2,hb2,?_⟩
   ·have e0:m+(w+1)+7 - h=m+w+1+7 - h:=by omega
    rw [e0]
    simp only [rNum,e1]
    rw [e2,ev1]
    congr 1
    rw [Nat.pow_succ 2 k,show 2 ^ (w+1)=2 * 2 ^ w by rw [Nat.pow_succ,Nat.mul_comm],Nat.mod_mul]
    generalize (b+2 ^ h * y) % 2=u
    generalize (b+2 ^ h * y) / 2 % 2 ^ w=v
    rw [Nat.add_mul,show v * (2 ^ k * 2)=2 * v * 2 ^ k by rw [Nat.mul_comm 2 v,Nat.mul_assoc,Nat.mul_comm 2]]
    omega
   ·rw [ev2,ev1,Nat.div_div_eq_div_mul,show 2 * 2 ^ w=2 ^ (w+1) by rw [Nat.pow_succ,Nat.mul_comm]]
theorem rNums_ok {w:Nat} {t:Bs}:∀ {k m b h y:Nat},h≤7→b < 2 ^ h →
 ∃ b' h' y',rNums w k (b,h,(leB ((m+k * w+7 - h) / 8) y++t,false))=(unp w k (b+2 ^ h * y),(b',h',(leB ((m+7 - h') / 8) y'++t,false)))∧h'≤7∧b' < 2 ^ h'
 | 0,m,b,h,y,hh,hb=>⟨b,h,y,by simp [rNums,unp],hh,hb⟩
 | k+1,m,b,h,y,hh,hb=>by
   obtain ⟨b1,h1,y1,e1,hh1,hb1,ev1⟩:=@rNum_ok t w 0 (m+k * w) 0 b h y hh hb
   obtain ⟨b2,h2,y2,e2,hh2,hb2⟩:=@rNums_ok w t k m b1 h1 y1 hh1 hb1
   refine ⟨b2,h2,y2,?_,hh2,hb2⟩
   have e0:m+(k+1) * w+7 - h=m+k * w+w+7 - h:=by rw [Nat.succ_mul];omega
   rw [e0]
   simp only [rNums,e1,e2,unp,ev1]
   simp
theorem rBits_ok {ns:List Nat} {w:Nat} (t:Bs) (h4:ns.length=4) (hw:wd ns=w):rBits 4 w (pk w ns++t,false)=(ns,(t,false)):=by
 have hlt:∀ n∈ns,n < 2 ^ w:=wd_le.1 (Nat.le_of_eq hw)
 obtain ⟨b',h',y',e,hh,hb⟩:=@rNums_ok w t 4 0 0 0 (wrd w ns) (by omega) (by simp)
 have e0:(0+4 * w+7 - 0) / 8=psz w:=by unfold psz;omega
 rw [e0] at e
 have hl:(0+7 - h') / 8=0:=by omega
 have u:=unp_wrd w ns hlt
 rw [h4] at u
 unfold rBits pk
 rw [e,hl]
 simp [leB,u]
theorem rPairs_ok:∀ {ss rr:List Nat} {k:Nat} (t:Bs),ss.length=k→rr.length=k→(∀ n∈ss,n≤99)→(∀ n∈rr,n≤39)→rPairs k (pairB ss rr++t,false)=((ss,rr),(t,false))
 | [],[],k,t,h1,_,_,_=>by
   simp only [List.length_nil] at h1
   subst h1
   simp [rPairs,pairB]
 | s :: ss,q :: rr,k,t,h1,h2,h3,h4=>by
   obtain ⟨k,rfl⟩:∃ j,k=j+1:=⟨k - 1,by simp at h1;omega⟩
   have e1:rVar 100 (pairB (s :: ss) (q :: rr)++t,false)=(s,(vi q++(pairB ss rr++t),false)):=by
    rw [show pairB (s :: ss) (q :: rr)++t=vi s++(vi q++(pairB ss rr++t)) by simp [pairB]]
    exact rVar_ok _ (by have:=h3 s (by simp);omega) (by omega)
   have e2:rVar 40 (vi q++(pairB ss rr++t),false)=(q,(pairB ss rr++t,false)):=rVar_ok _ (by have:=h4 q (by simp);omega) (by omega)
   have ih:=rPairs_ok (k:=k) t (ss:=ss) (rr:=rr) (by simpa using h1) (by simpa using h2) (fun n hn=>h3 n (by simp [hn])) (fun n hn=>h4 n (by simp [hn]))
   simp only [rPairs,e1,e2,ih]
 | [],_ :: _,k,t,h1,h2,_,_=>by simp at h1 h2;omega
 | _ :: _,[],k,t,h1,h2,_,_=>by simp at h1 h2;omega
theorem rSteps_ok {ss rr:List Nat} {n:Nat} (t:Bs) (hn:n≤4) (h1:ss.length=n) (h2:rr.length=n) (h3:∀ x∈ss,x≤99) (h4:∀ x∈rr,x≤39):rSteps n (body ss rr++t,false)=(some (ss,rr),(t,false)):=by
 unfold rSteps body
 by_cases h:n=4
 ·subst h
  have w1:wd ss≤8:=wd_le.2 fun x hx=>by have:=h3 x hx;omega
  have w2:wd rr≤8:=wd_le.2 fun x hx=>by have:=h4 x hx;omega
  rw [if_pos rfl,if_pos h1]
  have e1:rByte ([byt (wd ss),byt (wd rr)]++pk (wd ss) ss++pk (wd rr) rr++t,false)=(wd ss,(byt (wd rr) :: (pk (wd ss) ss++(pk (wd rr) rr++t)),false)):=by
   simp only [List.cons_append,List.nil_append,List.append_assoc];exact rByte_ok _ _ (by omega)
  have e2:=rByte_ok (wd rr) (pk (wd ss) ss++(pk (wd rr) rr++t)) (by omega)
  simp only [e1,e2]
  rw [if_neg (by omega),rBits_ok _ h1 rfl]
  simp only [rBits_ok t h2 rfl]
 ·rw [if_neg h,if_neg (by omega),rPairs_ok t h1 h2 h3 h4]
end Go.ScT
