import Derived.Test.YtaacjjhmojecnaaGreatDoorXE
import Derived.Test.YtaacjjhmojecnaaGreatDoorP03
import Derived.Test.YtaacjjhmojecnaaGreatDoorQ27
import Derived.Deep.LoopGhost
import Derived.Test.YtaacjjhmojecnaaGreatDoorRdP
namespace Go.Proofs.YtaacjjhmojecnaaGreatDoor
open Go.ScT
structure EDoc where
 key:Bs
 toks:List Bs
 live:Bool
 waits:Bool
def wdocs:Nat→List EDoc→List DocP
 | _,[]=>[]
 | n,d :: r=>if d.waits then (n+1,d.key,d.toks.length) :: wdocs (n+1) r else wdocs (n+1) r
def wplaces (k:Bs):Nat→List EDoc→Pls
 | _,[]=>[]
 | n,d :: r=>if d.waits && decide (0 < d.toks.count k) then (n+1,d.toks.count k) :: wplaces k (n+1) r else wplaces k (n+1) r
def killE (E:List EDoc) (i:Nat):List EDoc:=E.modify i (fun d=>{ d with live:=false,waits:=false })
theorem wdocs_gt:∀ (E:List EDoc) (n:Nat) (p:DocP),p∈wdocs n E→n < p.1∧p.1≤n+E.length
 | [],_,_,h=>by simp [wdocs] at h
 | d :: r,n,p,h=>by
   unfold wdocs at h
   split at h
   ·rcases List.mem_cons.1 h with rfl | h
    ·simp
    ·have:=wdocs_gt r (n+1) p h;simp;omega
   ·have:=wdocs_gt r (n+1) p h;simp;omega
theorem wplaces_gt (k:Bs):∀ (E:List EDoc) (n:Nat) (p:Nat × Nat),p∈wplaces k n E→n < p.1∧p.1≤n+E.length
 | [],_,_,h=>by simp [wplaces] at h
 | d :: r,n,p,h=>by
   unfold wplaces at h
   split at h
   ·rcases List.mem_cons.1 h with rfl | h
    ·simp
    ·have:=wplaces_gt k r (n+1) p h;simp;omega
   ·have:=wplaces_gt k r (n+1) p h;simp;omega
theorem lessD_all {num:Nat} {l:List DocP} (h:∀ p∈l,p.1≠num):lessD num l=l:=List.filter_eq_self.2 (fun p hp=>by simp [h p hp])
theorem less_all {num:Nat} {l:Pls} (h:∀ p∈l,p.1≠num):less num l=l:=List.filter_eq_self.2 (fun p hp=>by simp [h p hp])
theorem wdocs_kill:∀ (E:List EDoc) (n i:Nat),lessD (n+i+1) (wdocs n E)=wdocs n (killE E i)
 | [],n,i=>by simp [wdocs,lessD,killE]
 | d :: r,n,0=>by
   have h1:lessD (n+0+1) (wdocs (n+1) r)=wdocs (n+1) r:=lessD_all (fun p hp=>by have:=wdocs_gt r (n+1) p hp;omega)
   by_cases hw:d.waits=true
   ·simp [wdocs,killE,hw,lessD] at h1 ⊢
    exact h1
   ·simp [wdocs,killE,hw,lessD] at h1 ⊢
    exact h1
 | d :: r,n,i+1=>by
   have ih:=wdocs_kill r (n+1) i
   rw [show n+1+i+1=n+(i+1)+1 by omega] at ih
   by_cases hw:d.waits=true
   ·simp [wdocs,killE,hw,lessD] at ih ⊢
    exact ih
   ·simp [wdocs,killE,hw,lessD] at ih ⊢
    exact ih
theorem wplaces_kill (k:Bs):∀ (E:List EDoc) (n i:Nat),less (n+i+1) (wplaces k n E)=wplaces k n (killE E i)
 | [],n,i=>by simp [wplaces,less,killE]
 | d :: r,n,0=>by
   have h1:less (n+0+1) (wplaces k (n+1) r)=wplaces k (n+1) r:=less_all (fun p hp=>by have:=wplaces_gt k r (n+1) p hp;omega)
   by_cases hw:(d.waits && decide (0 < d.toks.count k))=true
   ·have e1:wplaces k n (d :: r)=(n+1,d.toks.count k) :: wplaces k (n+1) r:=by simp only [wplaces,hw,if_true]
    have e2:wplaces k n (killE (d :: r) 0)=wplaces k (n+1) r:=by simp [wplaces,killE]
    rw [e1,e2,← h1]
    simp [less]
   ·have e1:wplaces k n (d :: r)=wplaces k (n+1) r:=by simp only [wplaces,if_neg hw]
    have e2:wplaces k n (killE (d :: r) 0)=wplaces k (n+1) r:=by simp [wplaces,killE]
    rw [e1,e2,h1]
 | d :: r,n,i+1=>by
   have ih:=wplaces_kill k r (n+1) i
   rw [show n+1+i+1=n+(i+1)+1 by omega] at ih
   have e3:killE (d :: r) (i+1)=d :: killE r i:=by simp [killE]
   rw [e3]
   by_cases hw:(d.waits && decide (0 < d.toks.count k))=true
   ·simp only [wplaces,hw,if_true]
    rw [← ih]
    unfold less
    rw [List.filter_cons_of_pos (by simp)]
   ·simp only [wplaces,if_neg hw]
    exact ih
theorem wdocs_snoc:∀ (E:List EDoc) (n:Nat) (d:EDoc),wdocs n (E++[d])=wdocs n E++(if d.waits then [(n+E.length+1,d.key,d.toks.length)] else [])
 | [],n,d=>by simp [wdocs]
 | a :: r,n,d=>by
   have ih:=wdocs_snoc r (n+1) d
   rw [show n+1+r.length+1=n+(a :: r).length+1 by simp;omega] at ih
   simp only [List.cons_append,wdocs,ih]
   split <;> simp
theorem wplaces_snoc (k:Bs):∀ (E:List EDoc) (n:Nat) (d:EDoc),wplaces k n (E++[d])=wplaces k n E++(if d.waits && decide (0 < d.toks.count k) then [(n+E.length+1,d.toks.count k)] else [])
 | [],n,d=>by simp [wplaces]
 | a :: r,n,d=>by
   have ih:=wplaces_snoc k r (n+1) d
   rw [show n+1+r.length+1=n+(a :: r).length+1 by simp;omega] at ih
   simp only [List.cons_append,wplaces,ih]
   split <;> simp
theorem bump_new {l:Pls} {z:Nat} (h:∀ p∈l,p.1≠z):bump l z=l++[(z,1)]:=by
 rcases List.eq_nil_or_concat l with rfl | ⟨l',⟨x,c⟩,rfl⟩
 ·simp [bump]
 ·rw [List.concat_eq_append] at *
  have hx:x≠z:=h (x,c) (by simp)
  unfold bump
  simp [hx]
theorem bump_old (l:Pls) (z c:Nat):bump (l++[(z,c)]) z=l++[(z,c+1)]:=by
 unfold bump
 simp
theorem addF_eq {f:Bs→Pls} {num:Nat} (h:∀ k,∀ p∈f k,p.1≠num) (k:Bs):∀ ts:List Bs,addF f num ts.reverse k=f k++(if 0 < ts.count k then [(num,ts.count k)] else [])
 | []=>by simp [addF]
 | t :: r=>by
   have ih:=addF_eq h k r
   rw [List.reverse_cons,addF_snoc]
   by_cases e:k=t
   ·subst e
    rw [upd_same,ih,List.count_cons_self]
    by_cases h0:0 < r.count k
    ·rw [if_pos h0,bump_old]
     simp
    ·rw [if_neg h0,List.append_nil,bump_new (h k)]
     have:r.count k=0:=by omega
     simp [this]
   ·rw [upd_other e,ih,List.count_cons_of_ne (fun h=>e h.symm)]
theorem addF_wplaces (E:List EDoc) (key:Bs) (toks:List Bs):addF (fun k=>wplaces k 0 E) (E.length+1) toks=fun k=>wplaces k 0 (E++[⟨key,toks,true,true⟩]):=by
 funext k
 have h:=addF_eq (f:=fun k=>wplaces k 0 E) (num:=E.length+1) (fun k p hp=>by have:=wplaces_gt k E 0 p hp;omega) k toks.reverse
 rw [List.reverse_reverse,List.count_reverse] at h
 rw [h,wplaces_snoc]
 simp
theorem less_wplaces (E:List EDoc) (i:Nat):(fun k=>less (i+1) (wplaces k 0 E))=fun k=>wplaces k 0 (killE E i):=by
 funext k
 have:=wplaces_kill k E 0 i
 rwa [Nat.zero_add] at this
end Go.Proofs.YtaacjjhmojecnaaGreatDoor
namespace Go.ScT
def numsP:List DocR→Bs→Pls
 | [],_=>[]
 | d :: r,k=>if 0 < d.2.2.count k then (d.2.1,d.2.2.count k) :: numsP r k else numsP r k
theorem numsP_mem:∀ {l:List DocR} {k:Bs} {p:Nat × Nat},p∈numsP l k→∃ d∈l,p=(d.2.1,d.2.2.count k)∧0 < d.2.2.count k
 | [],_,_,h=>by simp [numsP] at h
 | d :: r,k,p,h=>by
   unfold numsP at h
   split at h
   ·rcases List.mem_cons.1 h with rfl | h
    ·exact ⟨d,by simp,rfl,by assumption⟩
    ·obtain ⟨d',h1,h2⟩:=numsP_mem h;exact ⟨d',by simp [h1],h2⟩
   ·obtain ⟨d',h1,h2⟩:=numsP_mem h;exact ⟨d',by simp [h1],h2⟩
theorem numsP_ne:∀ {l:List DocR} {k:Bs},numsP l k≠[] ↔ ∃ d∈l,k∈d.2.2
 | [],_=>by simp [numsP]
 | d :: r,k=>by
   unfold numsP
   split
   ·rename_i h
    simp only [ne_eq,reduceCtorEq,not_false_eq_true,List.mem_cons,true_iff]
    exact ⟨d,Or.inl rfl,List.count_pos_iff.1 h⟩
   ·rename_i h
    rw [numsP_ne]
    constructor
    ·rintro ⟨d',h1,h2⟩;exact ⟨d',by simp [h1],h2⟩
    ·rintro ⟨d',h1,h2⟩
     rcases List.mem_cons.1 h1 with rfl | h1
     ·exact absurd (List.count_pos_iff.2 h2) h
     ·exact ⟨d',h1,h2⟩
theorem numsP_len:∀ (l:List DocR) (k:Bs),(numsP l k).length≤l.length
 | [],_=>by simp [numsP]
 | d :: r,k=>by
   have:=numsP_len r k
   unfold numsP
   split <;> simp <;> omega
def ordP (l:List DocP) (n:Nat):Nat:=l.countP fun d=>decide (d.1 < n)
theorem ordP_at:∀ {l:List DocP} {i:Nat} {d:DocP},(l.Pairwise fun a b=>a.1 < b.1)→l[i]?=some d→ordP l d.1=i
 | [],i,d,_,h=>by simp at h
 | a :: r,0,d,hp,h=>by
   simp at h
   subst h
   have h0:ordP r a.1=0:=by
    unfold ordP
    rw [List.countP_eq_zero]
    intro x hx
    have:=(List.pairwise_cons.1 hp).1 x hx
    simp;omega
   unfold ordP at h0 ⊢
   rw [List.countP_cons_of_neg (by simp)]
   exact h0
 | a :: r,i+1,d,hp,h=>by
   simp at h
   have hm:=List.mem_of_getElem? h
   have hlt:=(List.pairwise_cons.1 hp).1 d hm
   have ih:=ordP_at (List.pairwise_cons.1 hp).2 h
   unfold ordP at ih ⊢
   rw [List.countP_cons_of_pos (by simpa using hlt),ih]
theorem plsFrom_nums (L:List DocP) (k:Bs):∀ (l:List DocR) (i:Nat),(∀ j d,l[j]?=some d→ordP L d.2.1=i+j)→(numsP l k).map (fun p=>(ordP L p.1,p.2))=plsFrom i l k
 | [],_,_=>by simp [numsP,plsFrom]
 | d :: r,i,h=>by
   have ih:=plsFrom_nums L k r (i+1) (fun j d hd=>by have:=h (j+1) d (by simpa using hd);omega)
   have h0:=h 0 d rfl
   unfold numsP plsFrom
   split
   ·simp only [List.map_cons,ih,h0,Nat.add_zero]
   ·exact ih
theorem plsFrom_all {l:List DocR} (hp:l.Pairwise fun a b=>a.2.1 < b.2.1) (k:Bs):(numsP l k).map (fun p=>(ordP (docsP l) p.1,p.2))=plsFrom 0 l k:=by
 refine plsFrom_nums (docsP l) k l 0 fun j d hd=>?_
 have hq:(docsP l).Pairwise fun a b=>a.1 < b.1:=by
  unfold docsP
  rw [List.pairwise_map]
  exact hp
 have:=ordP_at (l:=docsP l) (i:=j) (d:=(d.2.1,d.1,d.2.2.length)) hq (by unfold docsP;rw [List.getElem?_map,hd];rfl)
 simp at this
 omega
theorem ltB_le:∀ {a b:Bs},(a≤b)→a≠b→ltB a b=true
 | [],[],_,h=>absurd rfl h
 | [],b :: y,_,_=>by simp [ltB]
 | a :: x,[],h,_=>absurd h (by simp)
 | a :: x,b :: y,h,hne=>by
   simp only [ltB,Bool.or_eq_true,decide_eq_true_eq,Bool.and_eq_true,beq_iff_eq]
   rw [List.cons_le_cons_iff] at h
   rcases h with h | ⟨rfl,h⟩
   ·exact Or.inl h
   ·exact Or.inr ⟨rfl,ltB_le h (fun e=>hne (by rw [e]))⟩
theorem sorted_words {ss ks:List Bs} {l:List DocR} (hp:ss.Perm ks) (hn:ks.Nodup) (hk:∀ k,k∈ks ↔ ∃ d∈l,k∈d.2.2):ss.mergeSort (fun x y=>decide (x≤y))=wordsOf l:=by
 have hpm:(ss.mergeSort (fun x y=>decide (x≤y))).Perm ks:=(List.mergeSort_perm _ _).trans hp
 have hnd:(ss.mergeSort (fun x y=>decide (x≤y))).Nodup:=hpm.nodup_iff.2 hn
 have hle:(ss.mergeSort (fun x y=>decide (x≤y))).Pairwise fun a b=>a≤b:=by
  have:=List.pairwise_mergeSort (le:=fun (x y:Bs)=>decide (x≤y)) (fun a b c h1 h2=>by
   simp only [decide_eq_true_eq] at *;exact List.le_trans h1 h2) (fun a b=>by
   simp only [Bool.or_eq_true,decide_eq_true_eq];exact List.le_total a b) ss
  exact this.imp (fun h=>by simpa using h)
 refine srt_unique ?_ (wordsOf_srt l) fun x=>?_
 ·exact List.Pairwise.imp₂ (fun a b h1 h2=>ltB_le h1 h2) hle hnd
 ·rw [wordsOf_mem,hpm.mem_iff]
  exact hk x
end Go.ScT
namespace Go.Proofs.YtaacjjhmojecnaaGreatDoor
open Go.ScT
def waitR:Nat→List EDoc→List DocR
 | _,[]=>[]
 | n,d :: r=>if d.waits then (d.key,n+1,d.toks) :: waitR (n+1) r else waitR (n+1) r
theorem wdocs_R:∀ (E:List EDoc) (n:Nat),wdocs n E=docsP (waitR n E)
 | [],_=>rfl
 | d :: r,n=>by
   have:=wdocs_R r (n+1)
   unfold wdocs waitR
   split <;> simp [docsP,this]
theorem wplaces_R (k:Bs):∀ (E:List EDoc) (n:Nat),wplaces k n E=numsP (waitR n E) k
 | [],_=>rfl
 | d :: r,n=>by
   have ih:=wplaces_R k r (n+1)
   unfold wplaces waitR
   by_cases hw:d.waits=true
   ·by_cases hc:0 < d.toks.count k
    ·simp [hw,hc,numsP,ih]
    ·simp [hw,hc,numsP,ih]
   ·simp [hw,ih]
end Go.Proofs.YtaacjjhmojecnaaGreatDoor
namespace Go.Proofs.YtaacjjhmojecnaaGreatDoor
open Go.RowKit Go.ScT Go.Proofs Go.Shelf
set_option maxHeartbeats 400000 in
theorem isNaN_int (x:Int) (w:World):Calls Tryz.prog 255 #[.int .i64 x] w fun e w'=>e=.returned (.bool false)∧w'=w:=by
 go_enter Tryz.func255,Tryz.ntmps255
 go_wp2
 go_ret
 exact ⟨rfl,rfl⟩
set_option maxHeartbeats 1000000 in
theorem compare_int (x y:Int) (w:World):Calls Tryz.prog 204 #[.int .i64 x,.int .i64 y] w fun e w'=>(∃ r:Int,e=.returned (.int .i64 r)∧(r < 0 ↔ x < y))∧w'=w:=by
 have C:=hid isNaN_int
 by_cases h1:x < y
 ·go_enter Tryz.func204,Tryz.ntmps204
  go_wp2_with (go_at_call 255;refine (C.out _ _).mono ?_;rintro e w1 ⟨rfl,hw⟩;subst hw)
  go_ret
  exact ⟨⟨_,rfl,by simp [h1]⟩,rfl⟩
 ·by_cases h2:y < x
  ·have h1':y≤x:=by omega
   clear h1
   go_enter Tryz.func204,Tryz.ntmps204
   go_wp2_with (go_at_call 255;refine (C.out _ _).mono ?_;rintro e w1 ⟨rfl,hw⟩;subst hw)
   go_ret
   exact ⟨⟨_,rfl,by omega⟩,rfl⟩
  ·have h1':y=x:=by omega
   subst h1'
   clear h1 h2
   go_enter Tryz.func204,Tryz.ntmps204
   go_wp2_with (go_at_call 255;refine (C.out _ _).mono ?_;rintro e w1 ⟨rfl,hw⟩;subst hw)
   go_ret
   exact ⟨⟨_,rfl,by omega⟩,rfl⟩
set_option maxHeartbeats 1000000 in
theorem clo203 (p:DocP) (num:Nat) (w:World):Calls Tryz.prog 203 #[.agg #[.int .i64 (p.1:Int),lstV p.2.1,.int .i64 (p.2.2:Int)],.int .i64 (num:Int)] w fun e w'=>(∃ r:Int,e=.returned (.int .i64 r)∧(r < 0 ↔ p.1 < num))∧Below w.heap.size w w':=by
 have C:Hid (∀ w,Calls Tryz.prog 204 #[.int .i64 (p.1:Int),.int .i64 (num:Int)] w fun e w'=>(∃ r:Int,e=.returned (.int .i64 r)∧(r < 0 ↔ p.1 < num))∧w'=w):=fun w=>(compare_int (p.1:Int) (num:Int) w).mono fun e w' ⟨⟨r,h1,h2⟩,h3⟩=>⟨⟨r,h1,by omega⟩,h3⟩
 obtain ⟨lv,hlv⟩:∃ s,lstV p.2.1=.string s:=⟨_,rfl⟩
 rw [hlv]
 go_enter Tryz.func203,Tryz.ntmps203
 go_wp2_with (go_at_call 204;refine (C.out _).mono ?_;rintro e w1 ⟨⟨r,rfl,hr⟩,hw⟩;subst hw)
 go_ret
 exact ⟨⟨r,rfl,hr⟩,(Below.refl _ w).alloc (Nat.le_refl _) _⟩
theorem enters203:∀ args w,(callFunc 203 args).run Tryz.prog w=.ok (.enter 203 args) w:=enters_of Tryz.func203 (by kernel_rfl) rfl
theorem countP_bound (l:List DocP) (num i:Nat) (hi:i≤l.length) (h1:∀ t p,t < i→l[t]?=some p→p.1 < num) (h2:∀ t p,i≤t→l[t]?=some p→¬ p.1 < num):ordP l num=i:=by
 unfold ordP
 rw [← List.take_append_drop i l,List.countP_append]
 have e1:(l.take i).countP (fun d=>decide (d.1 < num))=i:=by
  have:(l.take i).countP (fun d=>decide (d.1 < num))=(l.take i).length:=List.countP_eq_length.2 (fun x hx=>by
   obtain ⟨t,ht⟩:=List.getElem?_of_mem hx
   rw [List.getElem?_take] at ht
   split at ht
   ·rename_i hlt
    simpa using h1 t x hlt ht
   ·cases ht)
  rw [this]
  simp;omega
 have e2:(l.drop i).countP (fun d=>decide (d.1 < num))=0:=List.countP_eq_zero.2 (fun x hx=>by
  obtain ⟨t,ht⟩:=List.getElem?_of_mem hx
  rw [List.getElem?_drop] at ht
  simpa using h2 (i+t) x (by omega) ht)
 omega
set_option maxHeartbeats 2000000 in
set_option maxRecDepth 1000000 in
theorem search_any {w:World} {base:Nat} {ao:Option Addr} {n cap num:Nat} {l:List DocP} (h:DRow w base (.slice ao n cap) l) (hln:n=l.length) (hn:n≤10000) (hp:l.Pairwise fun a b=>a.1 < b.1) :
 Calls Tryz.prog 202 #[.slice ao n cap,.int .i64 (num:Int),.func (.func 203) #[] #[]] w fun e w'=>(∃ b:Bool,e=.returned (.tuple #[.int .i64 (ordP l num:Int),.bool b]))∧Below w.heap.size w w':=by
 have HN:=hid hln
 have HH:Hid (∀ k p,l[k]?=some p→∃ g,ao=some ⟨g,0,none⟩∧g < w.heap.size∧w.cell? ⟨g,k * 3,none⟩=some (.int .i64 (p.1:Int))∧w.cell? ⟨g,k * 3+1,none⟩=some (lstV p.2.1)∧w.cell? ⟨g,k * 3+2,none⟩=some (.int .i64 (p.2.2:Int))):=by
  intro k p hp
  have hk:=(List.getElem?_eq_some_iff.1 hp).1
  obtain ⟨g,cap2,ao2,hv,hob,hao⟩:=ownsRow_shape h
  simp only [Value.slice.injEq] at hv
  obtain ⟨rfl,hl2,rfl⟩:=hv
  obtain rfl:=hao (by omega)
  have hw:w.ownsRow base 141 3 (.slice (some ⟨g,0,none⟩) n cap) n (docC l):=by have:=h;unfold DRow at this;rw [← hln] at this;exact this
  obtain ⟨cu,bq⟩:=ownsRow_block hw (g:=g) rfl
  have hc:=docC_get hp
  refine ⟨g,rfl,lt_of_block bq,?_,?_,?_⟩
  ·rw [hw.cellAt (k * 3) (by omega)];exact hc.1
  ·rw [hw.cellAt (k * 3+1) (by omega)];exact hc.2.1
  ·rw [hw.cellAt (k * 3+2) (by omega)];exact hc.2.2
 have M:Hid (∀ (a b:Nat) (p q:DocP),a≤b→l[a]?=some p→l[b]?=some q→p.1≤q.1):=by
  intro a b p q hab ha hb
  rcases Nat.lt_or_eq_of_le hab with hlt | rfl
  ·obtain ⟨h1,rfl⟩:=List.getElem?_eq_some_iff.1 ha
   obtain ⟨h2,rfl⟩:=List.getElem?_eq_some_iff.1 hb
   exact Nat.le_of_lt (List.pairwise_iff_getElem.1 hp a b h1 h2 hlt)
  ·rw [ha] at hb;cases hb;exact Nat.le_refl _
 have e203:=enters203
 have CL:Hid (∀ (p:DocP) (w:World),Calls Tryz.prog 203 #[.agg #[.int .i64 (p.1:Int),lstV p.2.1,.int .i64 (p.2.2:Int)],.int .i64 (num:Int)] w fun e w'=>(∃ r:Int,e=.returned (.int .i64 r)∧(r < 0 ↔ p.1 < num))∧Below w.heap.size w w'):=fun p w=>clo203 p num w
 clear h hln hp
 go_enter Tryz.func202,Tryz.ntmps202
 go_wp2
 go_loopg [9,10] n (fun kx s9 s10 wr=>∃ lo hi:Nat,s9=.int .i64 (lo:Int)∧s10=.int .i64 (hi:Int)∧lo≤hi∧hi≤n∧hi - lo≤kx∧Below w.heap.size w wr∧Hid ((∀ (t:Nat) (p:DocP),t < lo→l[t]?=some p→p.1 < num)∧(∀ (t:Nat) (p:DocP),hi≤t→l[t]?=some p→¬ p.1 < num)))
 case atStart=>exact ⟨0,n,rfl,rfl,Nat.zero_le _,Nat.le_refl _,by omega,Below.refl _ _,(⟨fun t p ht=>absurd ht (Nat.not_lt_zero _),fun t p h1 h2=>by have:=(List.getElem?_eq_some_iff.1 h2).1;have:=HN.out;omega⟩:_∧_)⟩
 case round =>
  obtain ⟨lo,hi,rfl,rfl,hlh,hin,hg,hbw,I⟩:=hrel
  have hsz:=hbw.size
  by_cases hlt:lo < hi
  ·obtain ⟨p,hpm⟩:∃ p,l[(lo+hi) / 2]?=some p:=⟨_,List.getElem?_eq_getElem (by have:=HN.out;omega)⟩
   obtain ⟨g,rfl,hgl,ha,hs,hb⟩:=HH.out _ p hpm
   have ha':=(hbw.cell (p:=⟨g,(lo+hi) / 2 * 3,none⟩) hgl).trans ha
   have hs':=(hbw.cell (p:=⟨g,(lo+hi) / 2 * 3+1,none⟩) hgl).trans hs
   have hb':=(hbw.cell (p:=⟨g,(lo+hi) / 2 * 3+2,none⟩) hgl).trans hb
   have hc:=hid (CL.out p wr)
   have PM:=hid hpm
   clear ha hs hb hpm
   by_cases hyx:p.1 < num
   ·go_wp2_with (go_at_fn 203;refine hc.out.mono ?_;rintro e w2 ⟨⟨r,rfl,hr⟩,hb2⟩;have hr0:r < 0:=hr.2 hyx;clear hr)
    go_roundg (hi - ((lo+hi) / 2+1))
    case measure=>omega
    case rel =>
     have I2:Hid ((∀ (t:Nat) (p:DocP),t < (lo+hi) / 2+1→l[t]?=some p→p.1 < num)∧(∀ (t:Nat) (p:DocP),hi≤t→l[t]?=some p→¬ p.1 < num)):=⟨fun t q ht hq=>by have:=M.out t ((lo+hi) / 2) q p (by omega) hq PM.out;omega,I.out.2⟩
     exact ⟨(lo+hi) / 2+1,hi,by rw [show ((lo:Int)+(hi:Int)) / 2+1=(((lo+hi) / 2+1:Nat):Int) by omega],rfl,by omega,hin,Nat.le_refl _,hbw.trans (hb2.mono hbw.size),I2⟩
   ·go_wp2_with (go_at_fn 203;refine hc.out.mono ?_;rintro e w2 ⟨⟨r,rfl,hr⟩,hb2⟩;have hr0:¬ r < 0:=fun h=>hyx (hr.1 h);clear hr)
    go_roundg ((lo+hi) / 2 - lo)
    case measure=>omega
    case rel =>
     have I2:Hid ((∀ (t:Nat) (p:DocP),t < lo→l[t]?=some p→p.1 < num)∧(∀ (t:Nat) (p:DocP),(lo+hi) / 2≤t→l[t]?=some p→¬ p.1 < num)):=⟨I.out.1,fun t q ht hq=>by have:=M.out ((lo+hi) / 2) t p q ht PM.out hq;omega⟩
     exact ⟨lo,(lo+hi) / 2,rfl,by rw [show ((lo:Int)+(hi:Int)) / 2=(((lo+hi) / 2:Nat):Int) by omega],by omega,by omega,Nat.le_refl _,hbw.trans (hb2.mono hbw.size),I2⟩
  ·obtain rfl:hi=lo:=by omega
   have HO:Hid (ordP l num=hi):=countP_bound l num hi (by have:=HN.out;omega) I.out.1 I.out.2
   clear hlt hg hlh
   by_cases hn2:hi < n
   ·obtain ⟨p,hpm⟩:∃ p,l[hi]?=some p:=⟨_,List.getElem?_eq_getElem (by have:=HN.out;omega)⟩
    obtain ⟨g,rfl,hgl,ha,hs,hb⟩:=HH.out _ p hpm
    have ha':=(hbw.cell (p:=⟨g,hi * 3,none⟩) hgl).trans ha
    have hs':=(hbw.cell (p:=⟨g,hi * 3+1,none⟩) hgl).trans hs
    have hb':=(hbw.cell (p:=⟨g,hi * 3+2,none⟩) hgl).trans hb
    have hc:=hid (CL.out p wr)
    clear ha hs hb hpm
    go_wp2_with (go_at_fn 203;refine hc.out.mono ?_;rintro e w2 ⟨⟨r,rfl,hr⟩,hb2⟩;clear hr)
    all_goals
     go_ret2
     refine ⟨?_,hbw.trans (hb2.mono hbw.size)⟩
     rw [HO.out]
     exact ⟨_,rfl⟩
   ·go_wp2
    go_ret2
    refine ⟨?_,hbw⟩
    rw [HO.out]
    exact ⟨_,rfl⟩
set_option maxHeartbeats 1000000 in
theorem ordinal_any {w:World} {base B o:Nat} {dv:Value} {num:Nat} {l:List DocP} (hc:w.cell? ⟨B,o,none⟩=some dv) (h:DRow w base dv l) (hn:l.length≤10000) (hp:l.Pairwise fun a b=>a.1 < b.1) :
 Calls Tryz.prog 127 #[.pointer (some ⟨B,o,none⟩),.int .i64 (num:Int)] w fun e w'=>e=.returned (.int .i64 (ordP l num:Int))∧Below w.heap.size w w':=by
 obtain ⟨g,cap,ao,rfl,_,_⟩:=ownsRow_shape h
 have C:=hid (search_any (num:=num) h rfl hn hp)
 obtain ⟨n,hnn⟩:∃ n,n=l.length:=⟨_,rfl⟩
 rw [← hnn] at hc C
 clear hnn hn hp h
 go_enter Tryz.func127,Tryz.ntmps127
 go_wp2_with (go_at_call 202;refine C.out.mono ?_;rintro e w1 ⟨⟨b,rfl⟩,hb1⟩)
 go_ret
 exact ⟨rfl,hb1⟩
end Go.Proofs.YtaacjjhmojecnaaGreatDoor
namespace Go.Proofs.YtaacjjhmojecnaaGreatDoor
open Go.RowKit Go.ScT Go.Proofs
theorem pList_eq (lens:List Nat) (bf r:Bs):pList lens bf r=(pTok bf r).bind fun k=>(pBlocks lens k.2).map fun y=>((k.1,y.1),y.2):=by
 unfold pList pBlocks
 congr 1
 funext k
 cases pNum 1 lens.length k.2 with
 | none=>rfl
 | some c =>
   simp only [Option.bind_some]
   cases pPls lens c.1 c.1 0 c.2 <;> rfl
def TokEnds (w w':World) (b:Nat) (A:Nat→Addr) (s:ByteArray) (D L:Value) (e:Ending) (R:Option (Bs × Bs)):Prop :=
 ((∃ k t,R=some (k,t)∧e=.returned (.tuple #[lstV k,.nilIface])∧PAt w' b s t D L)∨(R=none∧∃ ev,e=.returned (.tuple #[lstV [],ev])∧Chain w' A 0 ev))∧Turned (fun i=>i=b) w w'
theorem readToken_any {w:World} {b base:Nat} {A:Nat→Addr} {s:ByteArray} {r bf:Bs} {D L:Value} (h:PAt w b s r D L) (hS:Sent w A base) (hb:base≤b) (hs:s.size≤60000) :
 Calls Tryz.prog 237 #[.pointer (some ⟨b,0,none⟩),lstV bf] w fun e w'=>TokEnds w w' b A s D L e (pTok bf r):=by
 cases h1:pTok bf r with
 | none=>exact (readToken_no h hS hb hs h1).mono fun e w' ⟨ev,h1,h2,h3⟩=>⟨Or.inr ⟨rfl,ev,h1,h2⟩,h3⟩
 | some y=>exact (readToken_ok h hs h1).mono fun e w' ⟨h1,h2,h3⟩=>⟨Or.inl ⟨_,_,rfl,h1,h2⟩,h3⟩
def ListEnds (w w':World) (b:Nat) (A:Nat→Addr) (s:ByteArray) (D L:Value) (lens:List Nat) (e:Ending) (R:Option (Lst × Bs)):Prop :=
 ((∃ tk ps t vP vH,R=some ((tk,ps),t)∧e=.returned (.tuple #[.agg #[lstV tk,vP,vH],.nilIface])∧PAt w' b s t D L∧PRow w' w.heap.size vP ps∧HRow w' w.heap.size vH (hdsOf lens ps))∨(R=none∧∃ n ev,n≤1∧e=.returned (.tuple #[.agg #[.string ⟨#[]⟩,.slice none 0 0,.slice none 0 0],ev])∧Chain w' A n ev))∧Turned (fun i=>i=b) w w'
abbrev ld0:Obj:=.cells #[.string ⟨#[]⟩,.slice none 0 0,.slice none 0 0] 167
set_option maxHeartbeats 1000000 in
set_option maxRecDepth 1000000 in
theorem readList_any {w:World} {b base base2 cD gD:Nat} {A:Nat→Addr} {s:ByteArray} {r bf:Bs} {L:Value} {ds:List DocP} (h:PAt w b s r (.slice (some ⟨gD,0,none⟩) ds.length cD) L) (hD:DRow w base2 (.slice (some ⟨gD,0,none⟩) ds.length cD) ds) (hb2:b < base2) (hS:Sent w A base) (hb:base≤b) (hs:s.size≤60000) (hn1:1≤ds.length) (hn:ds.length≤100) (hdl:∀ d∈ds,d.2.2≤1000) :
 Calls Tryz.prog 169 #[.pointer (some ⟨b,0,none⟩),lstV bf] w fun e w'=>ListEnds w w' b A s (.slice (some ⟨gD,0,none⟩) ds.length cD) L (lensOf ds) e (pList (lensOf ds) bf r):=by
 have hbl:=h.lt
 obtain ⟨R,hR⟩:∃ R,R=pList (lensOf ds) bf r:=⟨_,rfl⟩
 rw [← hR]
 rw [pList_eq] at hR
 have HR:=hid hR
 obtain ⟨D,hDD⟩:∃ D,D=Value.slice (some ⟨gD,0,none⟩) ds.length cD:=⟨_,rfl⟩
 have HDD:=hid hDD
 rw [← hDD] at h hD ⊢
 have HDL:=hid hdl
 have HT0:=hid (Turned.ofAlloc (Z:=fun i=>i=b) w ld0)
 have HP0:=hid (h.turned (Turned.ofAlloc (Z:=fun _=>False) w ld0) (fun e=>e))
 have HS0:=hid (hS.below ((Below.refl w.heap.size w).alloc (Nat.le_refl _) ld0))
 have HD0:=hid (ownsRow_turned hD (Turned.ofAlloc (Z:=fun _=>False) w ld0) (fun _ _ e=>e))
 have HN:=hid (heap_alloc_new w ld0)
 have hsz0:w.heap.size < (w.alloc ld0).heap.size:=by simp
 have C1:=hid (readToken_any (bf:=bf) HP0.out HS0.out hb hs)
 have HN1':=hid hn1
 have HN2':=hid hn
 clear hR h hS hD hDD hdl hn1 hn
 go_enter Tryz.func169,Tryz.ntmps169
 go_wp2_with (fail)
 generalize w.alloc ld0=w0 at *
 refine C1.out.mono ?_
 rintro e w1 ⟨⟨tk,t,h1,rfl,hP1⟩ | ⟨h1,ev,rfl,hC⟩,hT1⟩
 ·rw [h1] at HR
  simp only [Option.bind_some] at HR
  have hTa:=Turned.ofAlloc (Z:=fun i=>i=b) w1 (.cells #[lstV tk,.slice none 0 0,.slice none 0 0] 167)
  have HN1:=hid (kept_new hT1 HN.out (by omega))
  have HN2:=hid (kept_new hTa HN1.out (by omega))
  have HG:Hid (LAt (w1.alloc (.cells #[lstV tk,.slice none 0 0,.slice none 0 0] 167)) w1.heap.size (lstV tk) (.slice none 0 0) (.slice none 0 0)):=heap_alloc_new w1 (.cells #[lstV tk,.slice none 0 0,.slice none 0 0] 167)
  have HS1:=hid ((HS0.out.turned hT1 (fun i hi e=>by omega)).turned hTa (fun i hi e=>by omega))
  have HT1:=hid ((HT0.out.trans hT1).trans hTa)
  have HP1:=hid (hP1.turned (Turned.ofAlloc (Z:=fun _=>False) w1 (.cells #[lstV tk,.slice none 0 0,.slice none 0 0] 167)) (fun e=>e))
  have HD1:=hid (ownsRow_turned (HD0.out) (hT1.trans hTa) (fun g hg e=>by have:=(HD0.out.lt g hg).1;omega))
  have hsz1:=hT1.size
  have hszb:=HS1.out.size
  have hba:base≤w1.heap.size:=by omega
  have C2:Hid (Calls Tryz.prog 238 #[.pointer (some ⟨b,0,none⟩),.pointer (some ⟨w1.heap.size,0,none⟩)] (w1.alloc (.cells #[lstV tk,.slice none 0 0,.slice none 0 0] 167)) fun e w'=>BlocksEnd (w1.alloc (.cells #[lstV tk,.slice none 0 0,.slice none 0 0] 167)) w' b w1.heap.size A s D L (lstV tk) (lensOf ds) e (pBlocks (lensOf ds) t)):=by
   have hq:=HDD.out
   have p1:=HP1.out
   have p2:=HD1.out
   rw [hq] at p1 p2 ⊢
   exact readBlocks_any p1 p2 hb2 HS1.out hb hs HN1'.out HN2'.out HDL.out HG.out hba
  have hG1:w1.heap.size < (w1.alloc (.cells #[lstV tk,.slice none 0 0,.slice none 0 0] 167)).heap.size:=by simp
  clear C1 hT1 hTa hP1 HD0 HS0 HN1 HT0 HP0 HN h1 HD1 HP1 HG HS1
  go_wp2_with (fail)
  refine C2.out.mono ?_
  generalize w1.alloc (.cells #[lstV tk,.slice none 0 0,.slice none 0 0] 167)=wa at *
  generalize w1.heap.size=l at *
  rintro e w2 ⟨⟨ps,t2,vP,vH,h2,rfl,hP2,hL2,hPR,hHR⟩ | ⟨h2,n,ev,rfl,hn,hC⟩,hT2⟩
  ·rw [h2] at HR
   have HR2:Hid (R=some ((tk,ps),t2)):=HR.out
   obtain ⟨gp,cp,aop,hvP,_,_⟩:=ownsRow_shape hPR
   obtain ⟨gh,ch,aoh,hvH,_,_⟩:=ownsRow_shape hHR
   have HP2:=hid hP2
   have HPR:=hid (hPR.mono (show w.heap.size≤wa.heap.size by omega))
   have HHR:=hid (hHR.mono (show w.heap.size≤wa.heap.size by omega))
   have HPL:=hid (fun g hg=>(hPR.lt g hg).1)
   have HHL:=hid (fun g hg=>(hHR.lt g hg).1)
   have HN3:=hid ((hT2.block w.heap.size (by omega) (by omega)).trans HN2.out)
   have HT2:=hid (Turned.over HT1.out hT2 (fun i hi e=>by omega))
   obtain ⟨k0,k1,k2,kf⟩:=cell_three hL2
   obtain ⟨j0,j1,j2,jf⟩:=cell_three HN3.out
   have f0:=jf 0
   have f1:=jf 1
   have f2:=jf 2
   clear kf jf C2 hP2 hPR hHR hL2 h2 hT2
   subst hvP hvH
   go_wp2
   have hTS:=turned_set3 w2 w.heap.size (lstV tk) (.slice aop ps.length cp) (.slice aoh (hdsOf (lensOf ds) ps).length ch)
   refine bodyPost_ret (v:=.tuple #[.agg #[lstV tk,.slice aop ps.length cp,.slice aoh (hdsOf (lensOf ds) ps).length ch],.nilIface]) (by simp [results,Tryz.results169,go_sem,j0,j1,j2]) rfl ⟨Or.inl ⟨tk,ps,t2,_,_,HR2.out,rfl,HP2.out.turned hTS (by omega),?_,?_⟩,Turned.over HT2.out hTS (fun i hi e=>by omega)⟩
   ·exact ownsRow_turned HPR.out hTS (fun g hg e=>by have:=HPL.out g hg;omega)
   ·exact ownsRow_turned HHR.out hTS (fun g hg e=>by have:=HHL.out g hg;omega)
  ·rw [h2] at HR
   have HC:=hid hC
   obtain ⟨u,x2,rfl⟩:=hC.iface
   have HN3:=hid ((hT2.block w.heap.size (by omega) (by omega)).trans HN2.out)
   have HT2:=hid (Turned.over HT1.out hT2 (fun i hi e=>by omega))
   obtain ⟨k0,k1,k2,kf⟩:=cell_three HN3.out
   have f0:=kf 0
   have f1:=kf 1
   have f2:=kf 2
   clear kf C2 hT2 hC h2
   go_wp2
   have hTS:=turned_set3 w2 w.heap.size (.string ⟨#[]⟩) (.slice none 0 0) (.slice none 0 0)
   refine bodyPost_ret (v:=.tuple #[.agg #[.string ⟨#[]⟩,.slice none 0 0,.slice none 0 0],.iface u x2]) (by simp [results,Tryz.results169,go_sem,k0,k1,k2]) rfl ⟨Or.inr ⟨HR.out,n,_,hn,rfl,HC.out.turnT hTS HN3.out (by decide) (by decide)⟩,Turned.over HT2.out hTS (fun i hi e=>by omega)⟩
 ·rw [h1] at HR
  have HC:=hid hC
  obtain ⟨u,x2,rfl⟩:=hC.iface
  have HN2:=hid (kept_new hT1 HN.out (by omega))
  have HT2:=hid (HT0.out.trans hT1)
  clear C1 hT1 hC h1
  obtain ⟨k0,k1,k2,kf⟩:=cell_three HN2.out
  have f0:=kf 0
  have f1:=kf 1
  have f2:=kf 2
  clear kf
  go_wp2
  have hTS:=turned_set3 w1 w.heap.size (.string ⟨#[]⟩) (.slice none 0 0) (.slice none 0 0)
  refine bodyPost_ret (v:=.tuple #[.agg #[.string ⟨#[]⟩,.slice none 0 0,.slice none 0 0],.iface u x2]) (by simp [results,Tryz.results169,go_sem,k0,k1,k2]) rfl ⟨Or.inr ⟨HR.out,0,_,by omega,rfl,HC.out.turnT hTS HN2.out (by decide) (by decide)⟩,Turned.over HT2.out hTS (fun i hi e=>by omega)⟩
end Go.Proofs.YtaacjjhmojecnaaGreatDoor
