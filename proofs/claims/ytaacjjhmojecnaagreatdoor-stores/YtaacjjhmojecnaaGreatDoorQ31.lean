import Derived.Test.YtaacjjhmojecnaaGreatDoorQ30
import Derived.Deep.OwnRows
import Derived.Test.YtaacjjhmojecnaaGreatDoorQ21
import Derived.Laws.EntriesVeiled
namespace Go.ScT
def joinT (a:List Lst) (x:Option (List Lst × Bs)):Option (List Lst × Bs):=x.map fun y=>(a++y.1,y.2)
theorem pLists_no {lens:List Nat} {k:Nat} {bf r:Bs} {a:List Lst} (h:pList lens bf r=none):joinT a (pLists lens (k+1) bf r)=none:=by simp [pLists,h,joinT]
theorem pLists_go {lens:List Nat} {k:Nat} {bf r t:Bs} {l:Lst} {a:List Lst} (h:pList lens bf r=some (l,t)):joinT a (pLists lens (k+1) bf r)=joinT (a++[l]) (pLists lens k l.1 t):=by
 simp only [pLists,h,Option.bind_some,joinT]
 cases pLists lens k l.1 t <;> simp
theorem pLists_end {lens:List Nat} {bf r:Bs} {a:List Lst}:joinT a (pLists lens 0 bf r)=some (a,r):=by simp [pLists,joinT]
def pListsN (lens:List Nat) (r:Bs):Option (List Lst × Bs):=(pNum 0 4000 r).bind fun k=>pLists lens k.1 [] k.2
end Go.ScT
namespace Go.Proofs.YtaacjjhmojecnaaGreatDoor
open Go.RowKit Go.ScT Go.Proofs
abbrev LstV:=Lst × Value × Value
def lsC:List LstV→List Value
 | []=>[]
 | x :: r=>lstV x.1.1 :: x.2.1 :: x.2.2 :: lsC r
theorem lsC_app:∀ (a b:List LstV),lsC (a++b)=lsC a++lsC b
 | [],_=>rfl
 | e :: r,q=>by simp [lsC,lsC_app r q]
theorem lsC_get:∀ {xs:List LstV} {i:Nat} {x:LstV},xs[i]?=some x→(lsC xs)[i * 3]?=some (lstV x.1.1)∧(lsC xs)[i * 3+1]?=some x.2.1∧(lsC xs)[i * 3+2]?=some x.2.2
 | e :: r,0,d,h=>by simp at h;subst h;simp [lsC]
 | e :: r,i+1,d,h=>by
   simp only [List.getElem?_cons_succ] at h
   have:=lsC_get h
   rw [show (i+1) * 3=i * 3+3 by omega]
   simpa [lsC] using this
 | [],i,d,h=>by simp at h
abbrev LRow (w:World) (base:Nat) (L:Value) (xs:List LstV):Prop:=w.ownsRow base 167 3 L xs.length (lsC xs)
def Named (w:World) (base:Nat) (lens:List Nat) (xs:List LstV):Prop:=∀ x∈xs,PRow w base x.2.1 x.1.2∧HRow w base x.2.2 (hdsOf lens x.1.2)
def ListsAt (w:World) (base:Nat) (lens:List Nat) (L:Value) (ls:List Lst):Prop:=∃ xs,xs.map (·.1)=ls∧LRow w base L xs∧Named w base lens xs
theorem Named.turned {w w':World} {Z:Nat→Prop} {base:Nat} {lens:List Nat} {xs:List LstV} (h:Named w base lens xs) (ht:Turned Z w w') (hz:∀ g c t f,base≤g→w.heap[g]?=some (.cells c t f)→t=169∨t=295→¬ Z g):Named w' base lens xs:=fun x hx=>by
 obtain ⟨h1,h2⟩:=h x hx
 exact ⟨ownsRow_turned h1 ht (fun g hg=>by obtain ⟨c,hc⟩:=ownsRow_block h1 hg;exact hz g c _ _ (h1.lt g hg).1 hc (Or.inl rfl)),ownsRow_turned h2 ht (fun g hg=>by obtain ⟨c,hc⟩:=ownsRow_block h2 hg;exact hz g c _ _ (h2.lt g hg).1 hc (Or.inr rfl))⟩
theorem ListsAt.turned {w w':World} {Z:Nat→Prop} {base:Nat} {lens:List Nat} {L:Value} {ls:List Lst} (h:ListsAt w base lens L ls) (ht:Turned Z w w') (hz:∀ g,base≤g→¬ Z g):ListsAt w' base lens L ls:=by
 obtain ⟨xs,h1,h2,h3⟩:=h
 exact ⟨xs,h1,ownsRow_turned h2 ht (fun g hg=>hz g (h2.lt g hg).1),h3.turned ht (fun g _ _ _ hg _ _=>hz g hg)⟩
theorem list_push {w w3:World} {b base gA cA:Nat} {s:ByteArray} {r:Bs} {D L:Value} {xs:List LstV} {x:LstV} {o:Obj} (hP:PAt w b s r D L) (hL:LRow w base L xs) (hg:(w.alloc o).grownBy w3 L.ownBlock)
 (hown:w3.ownsRow base 167 3 (.slice (some ⟨gA,0,none⟩) (xs.length+1) cA) (xs.length+1) (lsC xs++[lstV x.1.1,x.2.1,x.2.2])) :
 PAt (w3.setCell ⟨b,3,none⟩ (.slice (some ⟨gA,0,none⟩) (xs.length+1) cA)) b s r D (.slice (some ⟨gA,0,none⟩) (xs.length+1) cA)∧LRow (w3.setCell ⟨b,3,none⟩ (.slice (some ⟨gA,0,none⟩) (xs.length+1) cA)) base (.slice (some ⟨gA,0,none⟩) (xs.length+1) cA) (xs++[x]) ∧
 Turned (fun i=>i=b∨L.ownBlock=some i) w (w3.setCell ⟨b,3,none⟩ (.slice (some ⟨gA,0,none⟩) (xs.length+1) cA)):=by
 have hlt:=hP.lt
 obtain ⟨at_,h,ha,hr⟩:=hP
 have hvy:L.ownBlock≠some b:=fun e=>by
  obtain ⟨cu,bq⟩:=ownsRow_block hL e
  exact tag_ne h bq (by decide) rfl
 have h3:w3.heap[b]?=some (.cells #[.string s,.int .i64 (at_:Int),D,L] 152 (0,0)):=by
  rw [hg.block b (by simp;omega) (fun e=>hvy e.symm),Below.heap_alloc _ _ _ hlt]
  exact h
 refine ⟨⟨at_,heap_setCell_same w3 b 3 _ 152 _ h3,ha,hr⟩,?_,?_⟩
 ·have h4:=ownsRow_setCell_other (a:=⟨b,3,none⟩) hown (fun e=>by
   obtain ⟨cu,bq⟩:=ownsRow_block hown e
   exact tag_ne h3 bq (by decide) rfl) (.slice (some ⟨gA,0,none⟩) (xs.length+1) cA)
  unfold LRow
  rw [lsC_app]
  simpa [lsC] using h4
 ·exact (((Turned.ofAlloc w o).trans (Turned.ofGrown hg (fun j hj _=>Or.inr hj))).trans (Turned.ofSet _ _ _ (Or.inl rfl)))
theorem info167:(Tryz.prog.info? 167).map (fun i=>(i.zero,i.size,i.bytes))=some (some (.agg #[.string ⟨#[]⟩,.slice none 0 0,.slice none 0 0]),3,64):=by kernel_rfl
set_option maxHeartbeats 2000000 in
set_option maxRecDepth 1000000 in
theorem readLists_any {w:World} {b base base2 cD gD:Nat} {A:Nat→Addr} {s:ByteArray} {r:Bs} {ds:List DocP} (h:PAt w b s r (.slice (some ⟨gD,0,none⟩) ds.length cD) (.slice none 0 0)) (hD:DRow w base2 (.slice (some ⟨gD,0,none⟩) ds.length cD) ds) (hb2:b < base2) (hS:Sent w A base) (hb:base≤b) (hs:s.size≤60000) (hn1:1≤ds.length) (hn:ds.length≤100) (hdl:∀ d∈ds,d.2.2≤1000) :
 Calls Tryz.prog 86 #[.pointer (some ⟨b,0,none⟩)] w fun e w'=>PartEnds w w' b A e (∃ ls t L,pListsN (lensOf ds) r=some (ls,t)∧PAt w' b s t (.slice (some ⟨gD,0,none⟩) ds.length cD) L∧ListsAt w' w.heap.size (lensOf ds) L ls) (pListsN (lensOf ds) r=none):=by
 have hbl:=h.lt
 obtain ⟨D,hDD⟩:∃ D,D=Value.slice (some ⟨gD,0,none⟩) ds.length cD:=⟨_,rfl⟩
 have HDD:=hid hDD
 have HDo:Hid (∀ g,D.ownBlock=some g→g=gD):=by
  intro g hg
  rw [hDD] at hg
  simpa [Value.ownBlock] using hg.symm
 have hgDl:=(hD.lt gD rfl).2
 rw [← hDD] at h hD ⊢
 obtain ⟨R,hR⟩:∃ R,R=pListsN (lensOf ds) r:=⟨_,rfl⟩
 rw [← hR]
 unfold pListsN at hR
 have HR:=hid hR
 have HDL:=hid hdl
 have HS:=hid hS
 have HD:=hid hD
 have HN1':=hid hn1
 have HN2':=hid hn
 have C:=hid (number_any (lo:=0) (hi:=4000) 0 4000 rfl rfl h hS hb hs)
 clear hR h hS hD hDD hdl hn1 hn
 obtain ⟨i167,hi1,ha0,ha1,ha2⟩:=info_parts info167
 go_enter Tryz.func86,Tryz.ntmps86
 go_wp2_with (fail)
 refine C.out.mono ?_
 rintro e w1 ⟨⟨n,r1,h1,rfl,hP1⟩ | ⟨h1,ev,rfl,hC⟩,hT1⟩
 ·have hn4:=(pNum_iff (by omega)).1 h1
  have hn4':n≤4000:=hn4.2.2
  rw [h1] at HR
  simp only [Option.bind_some] at HR
  have HP1:=hid hP1
  have HT1:=hid hT1
  have HS1:=hid (HS.out.turned hT1 (fun i hi e=>by omega))
  have HD1:=hid (ownsRow_turned HD.out hT1 (fun g hg e=>by have:=(HD.out.lt g hg).1;omega))
  clear hn4 h1 hP1 hT1 C HS HD
  go_wp2_with (fail)
  go_loopw [5,20] (fun s5 s20 wr=>∃ (i:Nat) (bf:Bs) (xs:List LstV) (r2:Bs) (L2:Value),s20=.int .i64 (i:Int)∧s5=lstV bf∧i≤n∧xs.length=i∧Hid (PAt wr b s r2 D L2)∧Hid (LRow wr w.heap.size L2 xs)∧Hid (Named wr w.heap.size (lensOf ds) xs)∧Hid (DRow wr base2 D ds)∧Hid (Turned (fun i=>i=b) w wr)∧Hid (Sent wr A base)∧Hid (R=joinT (xs.map (·.1)) (pLists (lensOf ds) (n - i) bf r2))) (fun _ s20 _=>n - (intOf s20).toNat)
  case atStart =>
   refine ⟨0,[],[],r1,.slice none 0 0,rfl,rfl,by omega,rfl,HP1,hid ⟨rfl,Or.inl ⟨rfl,rfl⟩⟩,fun x hx=>by simp at hx,HD1,HT1,HS1,?_⟩
   show _=_
   rw [HR.out]
   simp only [joinT,Nat.sub_zero,List.map_nil,List.nil_append]
   cases pLists (lensOf ds) n [] r1 <;> rfl
  case round =>
   obtain ⟨i,bf,xs,r2,L2,rfl,rfl,hi,rfl,HP,HL,HNm,HD,HT,HSr,HE⟩:=hrel
   have hszr:=HT.out.size
   by_cases hlt:xs.length < n
   ·have hlti:(xs.length:Int) < (n:Int):=by omega
    have C:Hid (Calls Tryz.prog 169 #[.pointer (some ⟨b,0,none⟩),lstV bf] wr fun e w'=>ListEnds wr w' b A s D L2 (lensOf ds) e (pList (lensOf ds) bf r2)):=by
     have hq:=HDD.out
     have p1:=HP.out
     have p2:=HD.out
     rw [hq] at p1 p2 ⊢
     exact readList_any p1 p2 hb2 HSr.out hb hs HN1'.out HN2'.out HDL.out
    have hk:n - xs.length=(n - (xs.length+1))+1:=by omega
    rw [hk] at HE
    clear hk
    go_wp2_with (fail)
    refine C.out.mono ?_
    rintro e w2 ⟨⟨tk,ps,t2,vP,vH,hB,rfl,hP2,hPR,hHR⟩ | ⟨hB,m,ev,hm,rfl,hC⟩,hT2⟩
    ·rw [pLists_go hB] at HE
     obtain ⟨gp,cp,aop,hvP,_,_⟩:=ownsRow_shape hPR
     obtain ⟨gh,ch,aoh,hvH,_,_⟩:=ownsRow_shape hHR
     obtain ⟨hh,hhh⟩:∃ h,h=(hdsOf (lensOf ds) ps).length:=⟨_,rfl⟩
     rw [← hhh] at hvH
     have HHH:=hid hhh
     obtain ⟨pl,hpl⟩:∃ h,h=ps.length:=⟨_,rfl⟩
     rw [← hpl] at hvP
     clear hhh hpl
     subst hvP hvH
     go_wp2_with (fail)
     have HTa:=hid (hT2.trans (Turned.ofAlloc (Z:=fun i=>i=b) w2 (.cells #[lstV tk,.slice aop pl cp,.slice aoh hh ch] 167)))
     have HPa:=hid (hP2.turned (Turned.ofAlloc (Z:=fun _=>False) w2 (.cells #[lstV tk,.slice aop pl cp,.slice aoh hh ch] 167)) (fun e=>e))
     have HPRa:=hid (ownsRow_turned (hPR.mono hszr) (Turned.ofAlloc (Z:=fun _=>False) w2 (.cells #[lstV tk,.slice aop pl cp,.slice aoh hh ch] 167)) (fun _ _ e=>e))
     have HHRa:=hid (ownsRow_turned (hHR.mono hszr) (Turned.ofAlloc (Z:=fun _=>False) w2 (.cells #[lstV tk,.slice aop pl cp,.slice aoh hh ch] 167)) (fun _ _ e=>e))
     have HLa:=hid (ownsRow_turned HL.out HTa.out (fun g hg e=>by have:=(HL.out.lt g hg).1;omega))
     have HNa:=hid (HNm.out.turned HTa.out (fun g _ _ _ hg _ _ e=>by omega))
     have HN:=hid (heap_alloc_new w2 (.cells #[lstV tk,.slice aop pl cp,.slice aoh hh ch] 167))
     have hgd:w2.heap.size < (w2.alloc (.cells #[lstV tk,.slice aop pl cp,.slice aoh hh ch] 167)).heap.size:=by simp
     have hsz2:=hT2.size
     generalize w2.alloc (.cells #[lstV tk,.slice aop pl cp,.slice aoh hh ch] 167)=W at *
     generalize w2.heap.size=gd at *
     clear hP2 hT2 C hPR hHR hB
     obtain ⟨n0,n1,n2,nf⟩:=cell_three HN.out
     clear nf
     have hbW:=HPa.out.lt
     obtain ⟨gL,capL,ao,hLe,_,_⟩:=ownsRow_shape HLa.out
     subst hLe
     obtain ⟨at_,hPc,_⟩:=HPa.out
     obtain ⟨c0,c1,c2,c3,cf⟩:=cell_par hPc
     have hne:(Value.slice ao xs.length capL).ownBlock≠some b:=fun e=>by
      obtain ⟨cu,bq⟩:=ownsRow_block HLa.out e
      exact tag_ne hPc bq (by decide) rfl
     have hneg:(Value.slice ao xs.length capL).ownBlock≠some gd:=fun e=>by
      have:=(HL.out.lt gd e).2
      omega
     have f3:=cf 3
     have d2':∀ n' o,((W.drewN n').alloc o).cell? ⟨b,3,none⟩=some (.slice ao xs.length capL):=fun n' o=>by rw [World.cell?_of_block (Below.heap_alloc _ _ _ hbW)];exact c3
     have f2':∀ n' o,((W.drewN n').alloc o).frozen? ⟨b,3,none⟩=false:=fun n' o=>by rw [World.frozen?_of_block (Below.heap_alloc _ _ _ hbW)];exact f3
     clear hPc cf c0 c1 c2
     go_region_law
      ((refine step_append_lies _ (by rfl) _ _ _ (by rfl) w.heap.size 167 i167 _ 3 64 Tryz.underlying89 hi1 ha0 ha1 ha2 rfl (by omega) (.slice ao xs.length capL) xs.length (lsC xs) (by rfl) (by exact HLa.out.alloc _)
         ⟨W.heap.size,0,none⟩ 1 1 [lstV tk,.slice aop pl cp,.slice aoh hh ch] (by rfl) (by rfl) (World.news_of_block (cs:=#[lstV tk,.slice aop pl cp,.slice aoh hh ch]) (t:=167) (fr:=(0,0)) (heap_alloc_new W _)) (by simp [Value.oneCell'])
         (by omega) (by unfold maxLen;omega) (by omega) (by simp;omega) (W.heap.size+1) (by simp) ?_;intro gA capA w3 hownA hgrowA hatA hltA;have e0:=(hgrowA.cell_far ⟨b,3,none⟩ (by simp;omega) (Ne.symm hne)).trans (d2' _ _);have e1:=(hgrowA.frozen_far ⟨b,3,none⟩ (by simp;omega) (Ne.symm hne)).trans (f2' _ _)))
     all_goals
      have HPP:=list_push (w:=W.drewN 1) (x:=((tk,ps),.slice aop pl cp,.slice aoh hh ch)) HPa.out HLa.out hgrowA hownA
      generalize w3.setCell ⟨b,3,none⟩ (Value.slice (some ⟨gA,0,none⟩) (xs.length+1) capA)=W3 at HPP ⊢
      have n3:W3.cell? ⟨gd,0,none⟩=some (lstV tk):=by
       rw [World.cell?_of_block (HPP.2.2.block gd hgd (by rintro (e | e);omega;exact hneg e))]
       exact n0
      have HPQ:=hid HPP
      clear HPP
      go_wp2
      go_roundw
      case rel =>
       have hTW:=((Turned.refl (fun i=>i=b∨(Value.slice ao xs.length capL).ownBlock=some i) W).ofDrew 1).trans HPQ.out.2.2
       have hTT:Turned (fun i=>i=b) w W3:=Turned.over (Z':=fun i=>i=b∨(Value.slice ao xs.length capL).ownBlock=some i) (HT.out.trans HTa.out) hTW (by rintro j hj (e | e);exact e;have:=(HL.out.lt j e).1;omega)
       have hSS:Sent W3 A base:=(HSr.out.turned HTa.out (fun i hi e=>by omega)).turned (Z:=fun i=>i=b∨(Value.slice ao xs.length capL).ownBlock=some i) hTW (by rintro j hj (e | e);omega;have:=(HL.out.lt j e).1;omega)
       have hNz:∀ g c t f,w.heap.size≤g→W.heap[g]?=some (.cells c t f)→t=169∨t=295→¬ (g=b∨(Value.slice ao xs.length capL).ownBlock=some g):=by
        rintro g c t f hg hc ht (e | e)
        ·omega
        ·obtain ⟨cu,bq⟩:=ownsRow_block HLa.out e
         exact tag_ne hc bq (by rcases ht with rfl | rfl <;> decide) rfl
       refine ⟨xs.length+1,tk,xs++[((tk,ps),Value.slice aop pl cp,Value.slice aoh hh ch)],t2,_,by go_num,rfl,by omega,by simp,HPQ.out.1,HPQ.out.2.1,?_,?_,hTT,hSS,?_⟩
       ·intro x hx
        rcases List.mem_append.1 hx with hx | hx
        ·exact HNa.out.turned hTW hNz x hx
        ·have hx2:x=((tk,ps),.slice aop pl cp,.slice aoh hh ch):=by simpa using hx
         subst hx2
         have hone:Named W w.heap.size (lensOf ds) [((tk,ps),.slice aop pl cp,.slice aoh hh ch)]:=fun y hy=>by
          have hy2:y=((tk,ps),.slice aop pl cp,.slice aoh hh ch):=by simpa using hy
          subst hy2
          exact ⟨HPRa.out,HHRa.out⟩
         exact hone.turned hTW hNz _ (by simp)
       ·exact ownsRow_turned (ownsRow_turned HD.out HTa.out (fun g hg e=>by have:=(HD.out.lt g hg).1;omega)) hTW (by
         rintro g hg (e | e)
         ·have:=(HD.out.lt g hg).1;omega
         ·exact rows_apart HD.out HL.out (by decide) g hg e)
       ·show _=_
        rw [HE.out]
        simp
      case measure=>simp [intOf];omega
    ·rw [pLists_no hB] at HE
     have CI:Hid (∀ w' ev,Sent w' A base→Chain w' A m ev→Calls Tryz.prog 168 #[lstV [116,111,107,101,110],.int .i64 (xs.length:Int),ev] w' fun e w''=>∃ ev',e=.returned ev'∧Chain w'' A (m+1) ev'∧Below w'.heap.size w' w''):=fun w' ev h1 h2=>inOneOf_any w' A base m _ xs.length ev h1 h2 (by simp) (by omega)
     have HC:=hid hC
     obtain ⟨u,x,rfl⟩:=hC.iface
     have HSa:=hid ((HSr.out.turned hT2 (fun i hi e=>by omega)).below ((Below.refl w2.heap.size w2).alloc (Nat.le_refl _) ld0))
     have HCa:=hid (HC.out.kept ((Below.refl w2.heap.size w2).alloc (Nat.le_refl _) ld0))
     have HTa:=hid ((HT.out.trans hT2).trans (Turned.ofAlloc w2 ld0))
     clear hC hT2 hB C
     go_wp2_with (fail)
     refine (CI.out _ _ HSa.out HCa.out).mono ?_
     rintro e w4 ⟨ev',rfl,hC4,hb4⟩
     have HC4:=hid hC4
     obtain ⟨u4,x4,rfl⟩:=hC4.iface
     clear hC4
     go_wp2
     go_ret
     exact ⟨Or.inr ⟨HE.out,m+1,_,rfl,by omega,HC4.out⟩,HTa.out.trans (Turned.ofBelow hb4)⟩
   ·have hlti:¬ ((xs.length:Int) < (n:Int)):=by omega
    have HE2:Hid (R=some (xs.map (·.1),r2)):=show _=_ by rw [HE.out,show n - xs.length=0 by omega,pLists_end]
    go_wp2
    go_ret
    exact ⟨Or.inl ⟨⟨xs.map (·.1),r2,HE2.out,_,HP.out,xs,rfl,HL.out,HNm.out⟩,rfl⟩,HT.out⟩
 ·rw [h1] at HR
  have HC:=hid hC
  obtain ⟨u,x,rfl⟩:=hC.iface
  clear hC h1 C
  go_wp2
  go_ret
  exact ⟨Or.inr ⟨HR.out,0,_,rfl,by omega,HC.out⟩,hT1⟩
end Go.Proofs.YtaacjjhmojecnaaGreatDoor
namespace Go.ScT
def addP (S:Nat→Nat) (p:Nat × Nat):Nat→Nat:=fun j=>if j=p.1 then S p.1+p.2 else S j
def addPs (S:Nat→Nat) (ps:Pls):Nat→Nat:=ps.foldl addP S
def addLs (S:Nat→Nat) (ls:List Lst):Nat→Nat:=ls.foldl (fun S l=>addPs S l.2) S
theorem addPs_at:∀ (ps:Pls) (S:Nat→Nat) (j:Nat),addPs S ps j=S j+((ps.filter (·.1 == j)).map (·.2)).sum
 | [],S,j=>by simp [addPs]
 | p :: r,S,j=>by
   have ih:=addPs_at r (addP S p) j
   rw [show addPs S (p :: r)=addPs (addP S p) r from rfl,ih]
   by_cases h:p.1=j
   ·subst h
    simp [addP,Nat.add_assoc]
   ·have h2:¬ j=p.1:=fun e=>h e.symm
    simp [addP,h,h2]
theorem addLs_at:∀ (ls:List Lst) (S:Nat→Nat) (j:Nat),addLs S ls j=S j+sumAt ls j
 | [],S,j=>by simp [addLs,sumAt]
 | l :: r,S,j=>by
   have ih:=addLs_at r (addPs S l.2) j
   rw [show addLs S (l :: r)=addLs (addPs S l.2) r from rfl,ih,addPs_at]
   simp [sumAt,Nat.add_assoc]
theorem sumsOk_iff {ds:List DocP} {ls:List Lst}:sumsOk ds ls=true ↔ ∀ i,i < ds.length→addLs (fun _=>0) ls i=(lensOf ds).getD i 0:=by
 unfold sumsOk
 simp [List.all_eq_true,addLs_at]
end Go.ScT
namespace Go.Proofs.YtaacjjhmojecnaaGreatDoor
open Go.RowKit Go.ScT Go.Proofs
theorem cmp_make (n:Nat) (hn:n≤1000) (w:World):(Instr.makeSlice 35 (.int .i64 (n:Int)) (.int .i64 (n:Int))).run Tryz.prog w=.ok (.slice (some ⟨w.heap.size,0,none⟩) n n) (w.alloc (.cells (madeCells #[.int .i64 0] n) 3)) :=
 run_make_row' (P:=Tryz.prog) 35 3 (.int .i64 0) 8 Tryz.underlying35 (by kernel_rfl) rfl .i64 .i64 n (by omega) (by omega) w
set_option maxHeartbeats 2000000 in
set_option maxRecDepth 1000000 in
theorem compareLengths_any {w:World} {b base base2 base3 cD gD:Nat} {A:Nat→Addr} {s:ByteArray} {r:Bs} {L:Value} {ds:List DocP} {ls:List Lst} (h:PAt w b s r (.slice (some ⟨gD,0,none⟩) ds.length cD) L) (hD:DRow w base2 (.slice (some ⟨gD,0,none⟩) ds.length cD) ds) (hS:Sent w A base) (hL:ListsAt w base3 (lensOf ds) L ls) (hn:ds.length≤100) (hdl:∀ d∈ds,d.2.2≤1000)
 (h4:ls.length≤4000) (hl1:∀ l∈ls,l.2.length≤100) (hl2:∀ l∈ls,∀ p∈l.2,p.1 < ds.length∧p.2≤256) :
 Calls Tryz.prog 87 #[.pointer (some ⟨b,0,none⟩)] w fun e w'=>((sumsOk ds ls=true∧e=.returned .nilIface)∨(sumsOk ds ls=false∧∃ ev,e=.returned ev∧Chain w' A 1 ev))∧Below w.heap.size w w':=by
 obtain ⟨xs,hxs,hLR,hNm⟩:=hL
 have hbl:=h.lt
 have hgDl:=(hD.lt gD rfl).2
 obtain ⟨gL,cL,ao,hLe,hLo,hLa⟩:=ownsRow_shape hLR
 subst hLe
 have hgL:0 < xs.length→gL < w.heap.size:=fun hp=>(hLR.lt gL (by rw [hLa hp];rfl)).2
 obtain ⟨at_,hpc,hat,_⟩:=h
 have hsl:=hat
 obtain ⟨c0,c1,c2,c3,_⟩:=cell_par hpc
 obtain ⟨n,hnn⟩:∃ n,n=ds.length:=⟨_,rfl⟩
 have HNN:=hid hnn
 rw [← hnn] at hn hD c2
 have hmk:=cmp_make n (by omega) w
 obtain ⟨m,hmm⟩:∃ m,m=xs.length:=⟨_,rfl⟩
 have HMM:=hid hmm
 have hm4:m≤4000:=by rw [hmm,← List.length_map (f:=fun x:LstV=>x.1),hxs];exact h4
 rw [← hmm] at hLR c3 hgL hLa
 have HLR:=hid hLR
 have HNm:=hid hNm
 have HD:=hid hD
 have HS:=hid hS
 have HDL:=hid hdl
 have HX:=hid hxs
 have HL1:=hid hl1
 have HL2:=hid hl2
 have HRW:=hid (World.rowIs_made w (.int .i64 0) n 3)
 have HB0:=hid ((Below.refl w.heap.size w).alloc (Nat.le_refl _) (.cells (madeCells #[.int .i64 0] n) 3))
 have C2:=hid c2
 have C1:=hid c1
 have d2:=below_c HB0.out hbl c2
 have d3:=below_c HB0.out hbl c3
 clear hpc hat hLR hNm hD hS hdl hxs hl1 hl2 hnn hmm h4 c0 c1 c3
 go_enter Tryz.func87,Tryz.ntmps87
 go_wp2_with (fail)
 generalize w.alloc (.cells (madeCells #[.int .i64 0] n) 3)=w0 at *
 clear hmk
 go_wp2_with (fail)
 go_loopw [23] (fun s23 wr=>∃ (i:Nat) (S:Nat→Nat),s23=.int .i64 (i:Int)∧i≤m∧Hid (∀ j,S j≤i * 30000)∧Hid (wr.rowIs w.heap.size 3 n (fun j=>natV (S j)))∧Hid (Below w.heap.size w wr)∧Hid (addLs S (ls.drop i)=addLs (fun _=>0) ls)) (fun s23 _=>m - (intOf s23).toNat)
 case atStart=>exact ⟨0,fun _=>0,rfl,by omega,fun j=>by simp,HRW,HB0,rfl⟩
 case round =>
  obtain ⟨i,S,rfl,hi,HSb,HR,HB,HE⟩:=hrel
  by_cases hlt:i < m
  ·have hlti:(i:Int) < (m:Int):=by omega
   obtain ⟨x,hx⟩:∃ x,xs[i]?=some x:=⟨_,List.getElem?_eq_getElem (by rw [← HMM.out];exact hlt)⟩
   have hxm:=List.mem_of_getElem? hx
   have hlx:ls[i]?=some x.1:=by rw [← HX.out,List.getElem?_map,hx];rfl
   have hlm:=List.mem_of_getElem? hlx
   obtain ⟨hPR,hHR⟩:=HNm.out x hxm
   have hq1:=HL1.out _ hlm
   have hq2:=HL2.out _ hlm
   obtain rfl:=hLa (by omega)
   have hgl:=hgL (by omega)
   obtain ⟨e0,e1,e2⟩:=lsC_get hx
   have q0:w.ownsRow base3 167 3 (.slice (some ⟨gL,0,none⟩) m cL) m (lsC xs):=by
    have h1:=HLR.out
    unfold LRow at h1
    rw [← HMM.out] at h1
    exact h1
   have q1:=q0.cellAt (i * 3) (by omega)
   have q2:=q0.cellAt (i * 3+1) (by omega)
   have q3:=q0.cellAt (i * 3+2) (by omega)
   rw [e0] at q1
   rw [e1] at q2
   rw [e2] at q3
   rw [← HB.out.cell hgl] at q1 q2 q3
   rw [drop_at hlx] at HE
   obtain ⟨⟨tk,ps⟩,vP,vH⟩:=x
   simp only at q1 q2 q3 hPR hHR hq1 hq2
   obtain ⟨gP,cP,aoP,hvP,_,hPa⟩:=ownsRow_shape hPR
   obtain ⟨gH,cH,aoH,hvH,_,_⟩:=ownsRow_shape hHR
   have hgP:0 < ps.length→gP < w.heap.size:=fun hp=>(hPR.lt gP (by rw [hvP,hPa hp];rfl)).2
   obtain ⟨k,hk⟩:∃ k,k=ps.length:=⟨_,rfl⟩
   obtain ⟨k2,hk2⟩:∃ k,k=(hdsOf (lensOf ds) ps).length:=⟨_,rfl⟩
   rw [← hk2] at hvH
   rw [← hk] at hvP hPa hq1 hgP
   have HPR:=hid hPR
   have HK:=hid hk
   have HQ2:=hid hq2
   subst hvP hvH
   have hwsz:=HB.out.size
   have hrsz:=HR.out.lt
   clear e0 e1 e2 q0 hx hxm hlx hlm hPR hHR hk hk2 hq2
   go_wp2_with (fail)
   have HB2:=hid (HB.out.trans (((Below.refl wr.heap.size wr).alloc (Nat.le_refl _) (.cells #[lstV tk,.slice aoP k cP,.slice aoH k2 cH] 167)).mono hwsz))
   have HR2:=hid (HR.out.alloc (.cells #[lstV tk,.slice aoP k cP,.slice aoH k2 cH] 167))
   generalize wr.alloc (.cells #[lstV tk,.slice aoP k cP,.slice aoH k2 cH] 167)=w5 at *
   clear q1 q2 q3
   go_loopw [30] (fun s30 wr=>∃ (u:Nat) (T:Nat→Nat),s30=.int .i64 (u:Int)∧u≤k∧Hid (∀ j,T j≤i * 30000+u * 256)∧Hid (wr.rowIs w.heap.size 3 n (fun j=>natV (T j)))∧Hid (Below w.heap.size w wr)∧Hid (addPs T (ps.drop u)=addPs S ps)) (fun s30 _=>k - (intOf s30).toNat)
   case atStart=>exact ⟨0,S,rfl,by omega,fun j=>by have:=HSb.out j;omega,HR2,HB2,rfl⟩
   case round =>
    obtain ⟨u,T,rfl,hu,HTb,HRq,HBq,HEq⟩:=hrel
    by_cases hlu:u < k
    ·have hlui:(u:Int) < (k:Int):=by omega
     obtain ⟨p,hp⟩:∃ p,ps[u]?=some p:=⟨_,List.getElem?_eq_getElem (by rw [← HK.out];exact hlu)⟩
     obtain ⟨hp1,hp2⟩:=HQ2.out p (List.mem_of_getElem? hp)
     rw [← HNN.out] at hp1
     obtain rfl:=hPa (by omega)
     have hgp:=hgP (by omega)
     obtain ⟨e0,e1⟩:=plC_get hp
     have q0:w.ownsRow base3 169 2 (.slice (some ⟨gP,0,none⟩) k cP) k (plC ps):=by
      have h1:=HPR.out
      unfold PRow at h1
      rw [← HK.out] at h1
      exact h1
     have q1:=q0.cellAt (u * 2) (by omega)
     have q2:=q0.cellAt (u * 2+1) (by omega)
     rw [e0] at q1
     rw [e1] at q2
     rw [← HBq.out.cell hgp] at q1 q2
     rw [drop_at hp] at HEq
     obtain ⟨x,y⟩:=p
     simp only at q1 q2 hp1 hp2
     have htb:=HTb.out x
     have hqsz:=HRq.out.lt
     have hqw:=HBq.out.size
     clear e0 e1 q0 hp
     go_wp2_with (fail)
     have r0:=(HRq.out.alloc (.cells #[.int .i64 (x:Int),.int .i64 (y:Int)] 169)).cell hp1
     have r1:=(HRq.out.alloc (.cells #[.int .i64 (x:Int),.int .i64 (y:Int)] 169)).frozen x
     have HN:=heap_alloc_new wr (.cells #[.int .i64 (x:Int),.int .i64 (y:Int)] 169)
     have r2:=cell_of_block2 (j:=0) HN
     have r3:=cell_of_block2 (j:=1) HN
     have HB6:=hid (HBq.out.trans (((Below.refl wr.heap.size wr).alloc (Nat.le_refl _) (.cells #[.int .i64 (x:Int),.int .i64 (y:Int)] 169)).mono hqw))
     have HR6:=hid (HRq.out.alloc (.cells #[.int .i64 (x:Int),.int .i64 (y:Int)] 169))
     generalize wr.alloc (.cells #[.int .i64 (x:Int),.int .i64 (y:Int)] 169)=w6 at *
     have r2':w6.cell? ⟨wr.heap.size,0,none⟩=some (.int .i64 (x:Int)):=r2
     have r3':w6.cell? ⟨wr.heap.size,1,none⟩=some (.int .i64 (y:Int)):=r3
     have hxi:(x:Int) < (n:Int):=by omega
     clear HN r2 r3 q1 q2
     generalize hTx:T x=tx at *
     have HTX:=hid hTx
     clear hTx
     go_region
     have hTs:Turned (fun j=>j=w.heap.size) w6 (w6.setCell ⟨w.heap.size,x,none⟩ (.int .i64 ((tx:Int)+(y:Int)))).drew:=(Turned.ofSet (Z:=fun j=>j=w.heap.size) _ _ _ rfl).trans (Turned.drw _)
     have HB7:=hid (below_turned HB6.out hTs (HB6.out.size) (fun j hj=>by omega))
     have HR7:Hid ((w6.setCell ⟨w.heap.size,x,none⟩ (.int .i64 ((tx:Int)+(y:Int)))).drew.rowIs w.heap.size 3 n (fun j=>natV (addP T (x,y) j))):=((HR6.out.set x (.int .i64 ((tx:Int)+(y:Int)))).drew).congr (fun j hj=>by
      by_cases e:j=x
      ·simp only [addP,e,if_true]
       rw [HTX.out]
       exact congrArg (Value.int .i64) (by omega)
      ·simp only [addP,e,if_false])
     generalize (w6.setCell ⟨w.heap.size,x,none⟩ (.int .i64 ((tx:Int)+(y:Int)))).drew=w7 at *
     have HTb7:Hid (∀ j,addP T (x,y) j≤i * 30000+(u+1) * 256):=fun j=>by
      have h1:=HTb.out j
      have h2:=HTb.out x
      simp only [addP]
      split <;> omega
     go_wp2_with (fail)
     go_roundw
     case rel=>exact ⟨u+1,addP T (x,y),by go_num,by omega,HTb7,HR7,HB7,HEq⟩
     case measure=>simp [intOf];omega
    ·have hlui:¬ ((u:Int) < (k:Int)):=by omega
     obtain rfl:u=k:=by omega
     have HTe:Hid (T=addPs S ps):=show _=_ by
      rw [← HEq.out,HK.out,List.drop_length];rfl
     go_wp2_with (fail)
     go_roundw
     case rel =>
      refine ⟨i+1,T,by go_num,by omega,fun j=>by have:=HTb.out j;omega,HRq,HBq,?_⟩
      show _=_
      rw [HTe.out,← HE.out]
      rfl
     case measure=>simp [intOf];omega
  ·have hlti:¬ ((i:Int) < (m:Int)):=by omega
   have HSe:Hid (S=addLs (fun _=>0) ls):=show _=_ by
    rw [← HE.out,List.drop_eq_nil_of_le]
    ·rfl
    ·rw [← HX.out,List.length_map,← HMM.out];omega
   have d2r:=below_c HB.out hbl C2.out
   have d1r:=below_c HB.out hbl C1.out
   clear hLa hgL
   go_wp2_with (fail)
   go_loopw [51] (fun s51 wr=>∃ (u:Nat),s51=.int .i64 (u:Int)∧u≤n∧Hid (∀ j,j < u→S j=(lensOf ds).getD j 0)∧Hid (wr.rowIs w.heap.size 3 n (fun j=>natV (S j)))∧Hid (Below w.heap.size w wr)) (fun s51 _=>n - (intOf s51).toNat)
   case atStart=>exact ⟨0,rfl,by omega,fun j hj=>by omega,HR,HB⟩
   case round =>
    obtain ⟨u,rfl,hu,HQ,HRq,HBq⟩:=hrel
    by_cases hlu:u < n
    ·have hlui:(u:Int) < (n:Int):=by omega
     obtain ⟨d,hd⟩:∃ d,ds[u]?=some d:=⟨_,List.getElem?_eq_getElem (by rw [← HNN.out];exact hlu)⟩
     have hdx:=HDL.out d (List.mem_of_getElem? hd)
     have hlen:(lensOf ds).getD u 0=d.2.2:=by simp [lensOf,hd]
     obtain ⟨q0,q1,q2⟩:=HD.out.cells hd
     rw [← HBq.out.cell hgDl] at q0 q1 q2
     obtain ⟨z1,z2,z3⟩:=d
     simp only at q0 q1 q2 hdx hlen
     have HLe:=hid hlen
     have hqsz:=HRq.out.lt
     have hqw:=HBq.out.size
     have hsb:=HSb.out u
     clear hd hlen
     go_wp2_with (fail)
     have r0:=(HRq.out.alloc (.cells #[.int .i64 (z1:Int),lstV z2,.int .i64 (z3:Int)] 141)).cell hlu
     have HN:=heap_alloc_new wr (.cells #[.int .i64 (z1:Int),lstV z2,.int .i64 (z3:Int)] 141)
     have r2:(wr.alloc (.cells #[.int .i64 (z1:Int),lstV z2,.int .i64 (z3:Int)] 141)).cell? ⟨wr.heap.size,2,none⟩=some (.int .i64 (z3:Int)):=cell_of_block2 (j:=2) HN
     have HB6:=hid (HBq.out.trans (((Below.refl wr.heap.size wr).alloc (Nat.le_refl _) (.cells #[.int .i64 (z1:Int),lstV z2,.int .i64 (z3:Int)] 141)).mono hqw))
     have HR6:=hid (HRq.out.alloc (.cells #[.int .i64 (z1:Int),lstV z2,.int .i64 (z3:Int)] 141))
     generalize wr.alloc (.cells #[.int .i64 (z1:Int),lstV z2,.int .i64 (z3:Int)] 141)=w6 at *
     clear HN q0 q1 q2
     generalize hSu:S u=su at *
     have HSu:=hid hSu
     clear hSu
     by_cases heq:su=z3
     ·subst heq
      go_quiet (fail)
      go_wp2_with (fail)
      go_roundw
      case rel =>
       refine ⟨u+1,by go_num,by omega,fun j hj=>?_,HR6,⟨HB6.out.os,HB6.out.tape,HB6.out.output,HB6.out.size,HB6.out.block⟩⟩
       by_cases e:j=u
       ·subst e;rw [HSu.out,HLe.out]
       ·exact HQ.out j (by omega)
      case measure=>simp [intOf];omega
     ·have hne:¬ ((su:Int)=(z3:Int)):=by omega
      go_quiet (fail)
      go_wp2_with (fail)
      have HB8:Hid (Below w.heap.size w (w6.drewN nq)):=⟨HB6.out.os,HB6.out.tape,HB6.out.output,HB6.out.size,HB6.out.block⟩
      generalize w6.drewN nq=w8 at HB8 ⊢
      have d1r2:=below_c HB8.out hbl C1.out
      have HS8:=hid (HS.out.below HB8.out)
      have g3:=HS8.out.cell 3 (by simp)
      have hsz8:=HB8.out.size
      have HOB:=hid (heap_alloc_new w8 (.cells #[.int .i64 (at_:Int),.iface 404 (.pointer (some (A 3)))] 253))
      have CI:Hid (Calls Tryz.prog 168 #[lstV [100,111,99,117,109,101,110,116],.int .i64 (u:Int),.iface 116 (.pointer (some ⟨w8.heap.size,0,none⟩))] (w8.alloc (.cells #[.int .i64 (at_:Int),.iface 404 (.pointer (some (A 3)))] 253)).drew fun e w''=>∃ ev',e=.returned ev'∧Chain w'' A (0+1) ev'∧Below w.heap.size w w''):=by
       have hb1:=(Below.refl w8.heap.size w8).alloc (Nat.le_refl _) (.cells #[.int .i64 (at_:Int),.iface 404 (.pointer (some (A 3)))] 253)
       have hs1:Sent (w8.alloc (.cells #[.int .i64 (at_:Int),.iface 404 (.pointer (some (A 3)))] 253)).drew A base:=(HS8.out.below hb1).turned (Turned.drw (Z:=fun _=>False) _) (fun _ _ e=>e)
       have hc1:Chain (w8.alloc (.cells #[.int .i64 (at_:Int),.iface 404 (.pointer (some (A 3)))] 253)).drew A 0 (.iface 116 (.pointer (some ⟨w8.heap.size,0,none⟩))):=Chain.at_ (k:=3) (z:=at_) HOB.out (by simp) (by decide)
       have hb2:=HB8.out.trans (hb1.mono hsz8)
       refine (inOneOf_any _ A base 0 _ u _ hs1 hc1 (by simp) (by omega)).mono fun e w'' ⟨ev',h1,h2,h3⟩=>⟨ev',h1,h2,below_turned hb2 (Turned.ofBelow (Z:=fun _=>False) (⟨h3.os,h3.tape,h3.output,h3.size,h3.block⟩:Below (w8.alloc (.cells #[.int .i64 (at_:Int),.iface 404 (.pointer (some (A 3)))] 253)).heap.size (w8.alloc (.cells #[.int .i64 (at_:Int),.iface 404 (.pointer (some (A 3)))] 253)) w'')) hb2.size (fun _ _ e=>e)⟩
      have HF:Hid (sumsOk ds ls=false):=show _=_ by
       cases hso:sumsOk ds ls with
       | false=>rfl
       | true =>
         have h1:=sumsOk_iff.1 hso u (by rw [← HNN.out];exact hlu)
         rw [← HSe.out,HSu.out,HLe.out] at h1
         exact absurd h1 heq
      clear heq
      go_region_with (first | (go_at_call 168;refine CI.out.mono ?_;rintro e w4 ⟨ev',rfl,hC4,hb4⟩;have HC4:=hid hC4;obtain ⟨u4,x4,rfl⟩:=hC4.iface;clear hC4))
      all_goals
       go_wp2
       go_ret
       exact ⟨Or.inr ⟨HF.out,_,rfl,HC4.out⟩,hb4⟩
    ·have hlui:¬ ((u:Int) < (n:Int)):=by omega
     have HF:Hid (sumsOk ds ls=true):=sumsOk_iff.2 (fun j hj=>by rw [← HSe.out];exact HQ.out j (by rw [← HNN.out] at hj;omega))
     go_wp2
     go_ret
     exact ⟨Or.inl ⟨HF.out,rfl⟩,HBq.out⟩
end Go.Proofs.YtaacjjhmojecnaaGreatDoor
namespace Go.ScT
def pRest4 (S:Bs) (c:Cont) (r:Bs):Option Cont:=(Go.Proofs.YtaacjjhmojecnaaGreatDoor.pChk S r).bind fun t=>if t=[] then some c else none
def pRest2 (S:Bs) (ds:List DocP) (r:Bs):Option Cont:=(pListsN (lensOf ds) r).bind fun l=>if sumsOk ds l.1=true then pRest4 S (ds,l.1) l.2 else none
def pRest1 (S r:Bs):Option Cont:=(Go.Proofs.YtaacjjhmojecnaaGreatDoor.pDocsN r).bind fun d=>pRest2 S d.1 d.2
theorem pRead_eq (S:Bs):pRead S=(pTake 2 S).bind fun m=>if m.1=[83,71] then pRest1 S m.2 else none:=by
 unfold pRead pBodyC
 cases pTake 2 S with
 | none=>rfl
 | some m =>
   simp only [Option.bind_some]
   by_cases hm:m.1=[83,71]
   ·simp only [hm,if_true,pRest1,Go.Proofs.YtaacjjhmojecnaaGreatDoor.pDocsN]
    cases pNum 1 100 m.2 with
    | none=>rfl
    | some n =>
      simp only [Option.bind_some]
      cases pDocs n.1 0 [] n.2 with
      | none=>rfl
      | some d =>
        simp only [Option.bind_some,pRest2,pListsN]
        cases pNum 0 4000 d.2 with
        | none=>rfl
        | some k =>
          simp only [Option.bind_some]
          cases pLists (lensOf d.1) k.1 [] k.2 with
          | none=>rfl
          | some l =>
            simp only [Option.bind_some,pRest4,Go.Proofs.YtaacjjhmojecnaaGreatDoor.pChk]
            by_cases hs:sumsOk d.1 l.1=true
            ·simp only [hs,if_true]
             cases pTake 4 l.2 with
             | none=>rfl
             | some c =>
               simp only [Option.bind_some]
               by_cases hc:c.1=chk (S.take (S.length - l.2.length))
               ·simp [hc]
               ·simp [hc]
            ·simp [hs]
   ·simp [hm]
def GoodDs (ds:List DocP):Prop:=1≤ds.length∧ds.length≤100∧∀ d∈ds,d.2.2≤1000
theorem okDocs_len:∀ {ds:List DocP} {b:Nat} {seen:List Bs},OkDocs b seen ds→∀ d∈ds,d.2.2≤40
 | [],_,_,_,d,h=>by simp at h
 | e :: r,b,seen,h,d,hd=>by
   rcases List.mem_cons.1 hd with rfl | hd
   ·exact h.2.2.1
   ·exact okDocs_len h.2.2.2.2.2 d hd
theorem pDocsN_good {r t:Bs} {ds:List DocP} (h:Go.Proofs.YtaacjjhmojecnaaGreatDoor.pDocsN r=some (ds,t)):GoodDs ds:=by
 obtain ⟨⟨n,t1⟩,h1,h2⟩:=Option.bind_eq_some_iff.1 h
 have hn:=(pNum_iff (by omega)).1 h1
 obtain ⟨_,h3,h4⟩:=pDocs_iff.1 h2
 simp only at h3 h4 hn
 exact ⟨by omega,by omega,fun d hd=>by have:=okDocs_len h4 d hd;omega⟩
def GoodLs (ds:List DocP) (ls:List Lst):Prop:=ls.length≤4000∧(∀ l∈ls,l.2.length≤100)∧∀ l∈ls,∀ p∈l.2,p.1 < ds.length∧p.2≤256
theorem okLists_all {lens:List Nat}:∀ {ls:List Lst} {b:Bs},OkLists lens b ls→∀ l∈ls,l.2.length≤lens.length∧LV lens 0 l.2
 | [],_,_,l,h=>by simp at h
 | e :: r,b,h,l,hl=>by
   rcases List.mem_cons.1 hl with rfl | hl
   ·exact ⟨h.2.2.2.1,h.2.2.2.2.1⟩
   ·exact okLists_all h.2.2.2.2.2 l hl
theorem pListsN_good {ds:List DocP} {r t:Bs} {ls:List Lst} (hd:GoodDs ds) (h:pListsN (lensOf ds) r=some (ls,t)):GoodLs ds ls:=by
 obtain ⟨⟨n,t1⟩,h1,h2⟩:=Option.bind_eq_some_iff.1 h
 have hn:=(pNum_iff (by omega)).1 h1
 have hll:=lensOf_len ds
 have h100:=hd.2.1
 obtain ⟨_,h3,h4⟩:=(pLists_iff (by omega)).1 h2
 simp only at h3 h4 hn
 refine ⟨by omega,fun l hl=>by have:=(okLists_all h4 l hl).1;omega,fun l hl p hp=>?_⟩
 have:=(okLists_all h4 l hl).2.mem p hp
 exact ⟨by omega,by omega⟩
end Go.ScT
namespace Go.Proofs.YtaacjjhmojecnaaGreatDoor
open Go.RowKit Go.ScT Go.Proofs
theorem ListsAt.mono {w:World} {b1 b2:Nat} {lens:List Nat} {L:Value} {ls:List Lst} (h:ListsAt w b2 lens L ls) (hb:b1≤b2):ListsAt w b1 lens L ls:=by
 obtain ⟨xs,h1,h2,h3⟩:=h
 exact ⟨xs,h1,World.ownsRow.mono h2 hb,fun x hx=>⟨World.ownsRow.mono (h3 x hx).1 hb,World.ownsRow.mono (h3 x hx).2 hb⟩⟩
def Stg (b:Nat) (s:ByteArray) (R:Option Cont):Nat→World→Prop
 | 0,w=>PAt w b s s.data.toList (.slice none 0 0) (.slice none 0 0)∧R=pRead s.data.toList
 | 1,w=>∃ r,PAt w b s r (.slice none 0 0) (.slice none 0 0)∧R=pRest1 s.data.toList r
 | 2,w=>∃ r ds gD cD,PAt w b s r (.slice (some ⟨gD,0,none⟩) ds.length cD) (.slice none 0 0)∧DRow w (b+1) (.slice (some ⟨gD,0,none⟩) ds.length cD) ds∧GoodDs ds∧R=pRest2 s.data.toList ds r
 | k+3,w=>∃ r ds gD cD ls L,PAt w b s r (.slice (some ⟨gD,0,none⟩) ds.length cD) L∧DRow w (b+1) (.slice (some ⟨gD,0,none⟩) ds.length cD) ds∧GoodDs ds∧ListsAt w (b+1) (lensOf ds) L ls∧GoodLs ds ls ∧
     R=match k with | 0=>(if sumsOk ds ls=true then pRest4 s.data.toList (ds,ls) r else none) | 1=>pRest4 s.data.toList (ds,ls) r | 2=>(if r=[] then some (ds,ls) else none) | _=>some (ds,ls)
theorem Stg.turned {b:Nat} {s:ByteArray} {R:Option Cont} {Z:Nat→Prop} {w w':World}:∀ {i:Nat},Stg b s R i w→Turned Z w w'→(∀ g,b≤g→g < w.heap.size→¬ Z g)→Stg b s R i w'
 | 0,⟨h,hr⟩,ht,hz=>⟨h.turned ht (hz b (Nat.le_refl _) h.lt),hr⟩
 | 1,⟨r,h,hr⟩,ht,hz=>⟨r,h.turned ht (hz b (Nat.le_refl _) h.lt),hr⟩
 | 2,⟨r,ds,gD,cD,h,hD,hg,hr⟩,ht,hz=>⟨r,ds,gD,cD,h.turned ht (hz b (Nat.le_refl _) h.lt),ownsRow_turned hD ht (fun g hg=>hz g (by have:=(hD.lt g hg).1;omega) (hD.lt g hg).2),hg,hr⟩
 | k+3,⟨r,ds,gD,cD,ls,L,h,hD,hg,⟨xs,h1,h2,h3⟩,hgl,hr⟩,ht,hz=>⟨r,ds,gD,cD,ls,L,h.turned ht (hz b (Nat.le_refl _) h.lt),ownsRow_turned hD ht (fun g hg=>hz g (by have:=(hD.lt g hg).1;omega) (hD.lt g hg).2),hg,
     ⟨xs,h1,ownsRow_turned h2 ht (fun g hg=>hz g (by have:=(h2.lt g hg).1;omega) (h2.lt g hg).2),h3.turned ht (fun g c t f hg hc _=>hz g (by omega) (lt_of_block' hc))⟩,hgl,hr⟩
def StepEnds (w w':World) (b:Nat) (A:Nat→Addr) (s:ByteArray) (R:Option Cont) (i:Nat) (e:Ending):Prop :=
 ((e=.returned .nilIface∧Stg b s R (i+1) w')∨(R=none∧∃ n ev,e=.returned ev∧n≤2∧Chain w' A n ev))∧Turned (fun i=>i=b) w w'
theorem step_any {w:World} {b base:Nat} {A:Nat→Addr} {s:ByteArray} {R:Option Cont} (hS:Sent w A base) (hb:base≤b) (hs:s.size≤60000):∀ {i:Nat},i < 6→Stg b s R i w→Calls Tryz.prog (84+i) #[.pointer (some ⟨b,0,none⟩)] w fun e w'=>StepEnds w w' b A s R i e
 | 0,_,⟨h,hr⟩=>by
   rw [pRead_eq] at hr
   cases h1:pTake 2 s.data.toList with
   | none =>
     rw [h1] at hr
     exact (readMark_e0 h hS hs h1).mono fun e w' ⟨ev,h1,h2,h3⟩=>⟨Or.inr ⟨hr,0,ev,h1,by omega,h2⟩,h3⟩
   | some y =>
     obtain ⟨x,t⟩:=y
     rw [h1] at hr
     simp only [Option.bind_some] at hr
     by_cases hx:x=[83,71]
     ·subst hx
      simp only [if_true] at hr
      exact (readMark_ok h hs h1).mono fun e w' ⟨h1,h2,h3⟩=>⟨Or.inl ⟨h1,t,h2,hr⟩,h3⟩
     ·rw [if_neg hx] at hr
      exact (readMark_e1 h hS hb hs h1 hx).mono fun e w' ⟨ev,h1,h2,h3⟩=>⟨Or.inr ⟨hr,0,ev,h1,by omega,h2⟩,h3⟩
 | 1,_,⟨r,h,hr⟩=>by
   have hbl:=h.lt
   refine (readDocuments_any h hS hb hs).mono ?_
   rintro e w' ⟨⟨⟨ds,t,D,h1,h2,h3⟩,rfl⟩ | ⟨h1,n,ev,rfl,hn,hC⟩,hT⟩
   ·have hg:=pDocsN_good h1
    unfold pRest1 at hr
    rw [h1] at hr
    obtain ⟨gD,cD,rfl,hgD,_⟩:=h3.form (show 0 < ds.length by have:=hg.1;omega)
    exact ⟨Or.inl ⟨rfl,t,ds,gD,cD,h2,World.ownsRow.mono h3 (by omega),hg,hr⟩,hT⟩
   ·unfold pRest1 at hr
    rw [h1] at hr
    exact ⟨Or.inr ⟨hr,n,ev,rfl,hn,hC⟩,hT⟩
 | 2,_,⟨r,ds,gD,cD,h,hD,hg,hr⟩=>by
   have hbl:=h.lt
   refine (readLists_any h hD (by omega) hS hb hs hg.1 hg.2.1 hg.2.2).mono ?_
   rintro e w' ⟨⟨⟨ls,t,L,h1,h2,h3⟩,rfl⟩ | ⟨h1,n,ev,rfl,hn,hC⟩,hT⟩
   ·unfold pRest2 at hr
    rw [h1] at hr
    exact ⟨Or.inl ⟨rfl,t,ds,gD,cD,ls,L,h2,ownsRow_turned hD hT (fun g hg e=>by have:=(hD.lt g hg).1;omega),hg,h3.mono (by omega),pListsN_good hg h1,hr⟩,hT⟩
   ·unfold pRest2 at hr
    rw [h1] at hr
    exact ⟨Or.inr ⟨hr,n,ev,rfl,hn,hC⟩,hT⟩
 | 3,_,⟨r,ds,gD,cD,ls,L,h,hD,hg,hL,hgl,hr⟩=>by
   refine (compareLengths_any h hD hS hL hg.2.1 hg.2.2 hgl.1 hgl.2.1 hgl.2.2).mono ?_
   rintro e w' ⟨⟨h1,rfl⟩ | ⟨h1,ev,rfl,hC⟩,hB⟩
   ·have hT:=Turned.ofBelow (Z:=fun _=>False) hB
    simp only [h1,if_true] at hr
    exact ⟨Or.inl ⟨rfl,r,ds,gD,cD,ls,L,h.turned hT (fun e=>e),ownsRow_turned hD hT (fun _ _ e=>e),hg,hL.turned hT (fun _ _ e=>e),hgl,hr⟩,Turned.ofBelow hB⟩
   ·simp only [h1] at hr
    exact ⟨Or.inr ⟨hr,1,ev,rfl,by omega,hC⟩,Turned.ofBelow hB⟩
 | 4,_,⟨r,ds,gD,cD,ls,L,h,hD,hg,hL,hgl,hr⟩=>by
   refine (readCheck_any h hS hb hs).mono ?_
   rintro e w' ⟨⟨t,h1,rfl,h2⟩ | ⟨h1,ev,rfl,hC⟩,hT⟩
   ·simp only [pRest4,h1,Option.bind_some] at hr
    exact ⟨Or.inl ⟨rfl,t,ds,gD,cD,ls,L,h2,ownsRow_turned hD hT (fun g hg e=>by have:=(hD.lt g hg).1;omega),hg,hL.turned hT (fun g hg e=>by omega),hgl,hr⟩,hT⟩
   ·simp only [pRest4,h1] at hr
    exact ⟨Or.inr ⟨hr,0,ev,rfl,by omega,hC⟩,hT⟩
 | 5,_,⟨r,ds,gD,cD,ls,L,h,hD,hg,hL,hgl,hr⟩=>by
   refine (readEnd_any h hS).mono ?_
   rintro e w' ⟨⟨h1,rfl,h2⟩ | ⟨h1,ev,rfl,hC⟩,hT⟩
   ·simp only [h1,if_true] at hr
    exact ⟨Or.inl ⟨rfl,r,ds,gD,cD,ls,L,h2,ownsRow_turned hD hT (fun g hg e=>by have:=(hD.lt g hg).1;omega),hg,hL.turned hT (fun g hg e=>by omega),hgl,hr⟩,hT⟩
   ·simp only [h1,if_false] at hr
    exact ⟨Or.inr ⟨hr,0,ev,rfl,by omega,hC⟩,hT⟩
 | i+6,h,_=>by omega
abbrev ct0:Obj:=.cells #[.slice none 0 0,.slice none 0 0] 91
abbrev pr0 (s:ByteArray):Obj:=.cells #[.string s,.int .i64 0,.slice none 0 0,.slice none 0 0] 152
abbrev ptV (b:Nat):Array Value:=#[.string ⟨#[109,97,114,107]⟩,.func (.func 84) #[.pointer (some ⟨b,0,none⟩)] #[],.string ⟨#[100,111,99,117,109,101,110,116,115]⟩,.func (.func 85) #[.pointer (some ⟨b,0,none⟩)] #[],
 .string ⟨#[116,111,107,101,110,115]⟩,.func (.func 86) #[.pointer (some ⟨b,0,none⟩)] #[],.string ⟨#[108,101,110,103,116,104,115]⟩,.func (.func 87) #[.pointer (some ⟨b,0,none⟩)] #[],
 .string ⟨#[99,104,101,99,107]⟩,.func (.func 88) #[.pointer (some ⟨b,0,none⟩)] #[],.string ⟨#[101,110,100]⟩,.func (.func 89) #[.pointer (some ⟨b,0,none⟩)] #[]]
theorem ptV_at (b:Nat):∀ i,i < 6→∃ nm:ByteArray,(ptV b)[i * 2]?=some (.string nm)∧(ptV b)[i * 2+1]?=some (.func (.func (84+i)) #[.pointer (some ⟨b,0,none⟩)] #[])
 | 0,_=>⟨_,rfl,rfl⟩
 | 1,_=>⟨_,rfl,rfl⟩
 | 2,_=>⟨_,rfl,rfl⟩
 | 3,_=>⟨_,rfl,rfl⟩
 | 4,_=>⟨_,rfl,rfl⟩
 | 5,_=>⟨_,rfl,rfl⟩
 | i+6,h=>by omega
theorem entersPart:∀ i,i < 6→∀ args w,(callFunc (84+i) args).run Tryz.prog w=.ok (.enter (84+i) args) w
 | 0,_=>enters_of Tryz.func84 (by kernel_rfl) rfl
 | 1,_=>enters_of Tryz.func85 (by kernel_rfl) rfl
 | 2,_=>enters_of Tryz.func86 (by kernel_rfl) rfl
 | 3,_=>enters_of Tryz.func87 (by kernel_rfl) rfl
 | 4,_=>enters_of Tryz.func88 (by kernel_rfl) rfl
 | 5,_=>enters_of Tryz.func89 (by kernel_rfl) rfl
 | i+6,h=>absurd h (Nat.not_lt.2 (Nat.le_add_left 6 i))
theorem cell_two2 {w:World} {y:Nat} {v1 v2:Value} {t:TypeId} (h:w.heap[y]?=some (.cells #[v1,v2] t (0,0))) :
 w.cell? ⟨y,0,none⟩=some v1∧w.cell? ⟨y,1,none⟩=some v2∧(∀ j,w.frozen? ⟨y,j,none⟩=false):=by
 simp [World.cell?,World.frozen?,h]
theorem turned_set2 (w:World) (g:Nat) (v0 v1:Value):Turned (fun i=>i=g) w ((w.setCell ⟨g,0,none⟩ v0).setCell ⟨g,1,none⟩ v1) :=
 (Turned.ofSet (Z:=fun i=>i=g) w ⟨g,0,none⟩ v0 rfl).trans (Turned.ofSet (Z:=fun i=>i=g) _ ⟨g,1,none⟩ v1 rfl)
def ReadEnds (w w':World) (A:Nat→Addr) (S:Bs) (e:Ending):Prop :=
 ((∃ ds ls D L,pRead S=some (ds,ls)∧e=.returned (.tuple #[.agg #[D,L],.nilIface])∧GoodDs ds∧GoodLs ds ls∧DRow w' w.heap.size D ds∧ListsAt w' w.heap.size (lensOf ds) L ls)∨(pRead S=none∧∃ n ev,n≤3∧e=.returned (.tuple #[.agg #[.slice none 0 0,.slice none 0 0],ev])∧Chain w' A n ev))∧Below w.heap.size w w'
set_option maxHeartbeats 1000000 in
set_option maxRecDepth 1000000 in
theorem progRead_any {w:World} {base:Nat} {A:Nat→Addr} {s:ByteArray} (hS:Sent w A base) (hs:s.size≤60000) :
 Calls Tryz.prog 48 #[.string s] w fun e w'=>ReadEnds w w' A s.data.toList e:=by
 have hsi:¬ ((60000:Int) < (s.size:Int)):=by omega
 obtain ⟨R,hR⟩:∃ R,R=pRead s.data.toList:=⟨_,rfl⟩
 have HRR:=hid hR
 have hsz:=hS.size
 have hB1:=((Below.refl w.heap.size w).alloc (Nat.le_refl _) ct0)
 have hB2:=hB1.alloc (by simp) (pr0 s)
 have hB3:=hB2.alloc (by simp;omega) (.cells (ptV (w.heap.size+1)) 154)
 have HB:=hid hB3
 have HP:Hid (PAt (((w.alloc ct0).alloc (pr0 s)).alloc (.cells (ptV (w.heap.size+1)) 154)) (w.heap.size+1) s s.data.toList (.slice none 0 0) (.slice none 0 0)):=by
  have h1:=heap_alloc_new (w.alloc ct0) (pr0 s)
  rw [show (w.alloc ct0).heap.size=w.heap.size+1 by simp] at h1
  have h2:=(Turned.ofAlloc (Z:=fun _=>False) ((w.alloc ct0).alloc (pr0 s)) (.cells (ptV (w.heap.size+1)) 154)).block (w.heap.size+1) (by simp) (fun e=>e)
  exact ⟨0,h2.trans h1,by omega,rfl⟩
 have HG:Hid ((((w.alloc ct0).alloc (pr0 s)).alloc (.cells (ptV (w.heap.size+1)) 154)).heap[w.heap.size]?=some (.cells #[.slice none 0 0,.slice none 0 0] 91 (0,0))):=by
  have h1:=heap_alloc_new w ct0
  have h2:=(Turned.ofAlloc (Z:=fun _=>False) (w.alloc ct0) (pr0 s)).block w.heap.size (by simp) (fun e=>e)
  have h3:=(Turned.ofAlloc (Z:=fun _=>False) ((w.alloc ct0).alloc (pr0 s)) (.cells (ptV (w.heap.size+1)) 154)).block w.heap.size (by simp;omega) (fun e=>e)
  exact (h3.trans h2).trans h1
 have HT:Hid ((((w.alloc ct0).alloc (pr0 s)).alloc (.cells (ptV (w.heap.size+1)) 154)).heap[w.heap.size+1+1]?=some (.cells (ptV (w.heap.size+1)) 154 (0,0))):=by
  have h1:=heap_alloc_new ((w.alloc ct0).alloc (pr0 s)) (.cells (ptV (w.heap.size+1)) 154)
  rw [show ((w.alloc ct0).alloc (pr0 s)).heap.size=w.heap.size+1+1 by simp] at h1
  exact h1
 have HS:=hid (hS.below HB.out)
 have HST:Hid (Stg (w.heap.size+1) s R 0 (((w.alloc ct0).alloc (pr0 s)).alloc (.cells (ptV (w.heap.size+1)) 154))):=⟨HP.out,hR⟩
 clear hR hS hB1 hB2 hB3 HP
 go_enter Tryz.func48,Tryz.ntmps48
 go_wp2_with (fail)
 generalize ((w.alloc ct0).alloc (pr0 s)).alloc (.cells (ptV (w.heap.size+1)) 154)=w0 at *
 go_loopw [39] (fun s39 wr=>∃ i:Nat,s39=.int .i64 (i:Int)∧i≤6∧Hid (Stg (w.heap.size+1) s R i wr)∧Hid (wr.heap[w.heap.size]?=some (.cells #[.slice none 0 0,.slice none 0 0] 91 (0,0)))∧Hid (wr.heap[w.heap.size+1+1]?=some (.cells (ptV (w.heap.size+1)) 154 (0,0)))∧Hid (Below w.heap.size w wr)∧Hid (Sent wr A base)) (fun s39 _=>6 - (intOf s39).toNat)
 case atStart=>exact ⟨0,rfl,by omega,HST,HG,HT,HB,HS⟩
 case round =>
  obtain ⟨i,rfl,hi,HSt,HGr,HTr,HBr,HSr⟩:=hrel
  have hszr:=HBr.out.size
  have hlt2:=lt_of_block' HTr.out
  by_cases hlt:i < 6
  ·have hlti:(i:Int) < 6:=by omega
   obtain ⟨nm,t0,t1⟩:=ptV_at (w.heap.size+1) i hlt
   have q0:=cell_of_block2 (j:=i * 2) HTr.out
   have q1:=cell_of_block2 (j:=i * 2+1) HTr.out
   rw [t0] at q0
   rw [t1] at q1
   have hent:=entersPart i hlt
   obtain ⟨f,hf⟩:∃ f,f=84+i:=⟨_,rfl⟩
   rw [← hf] at q1 hent
   have HTa:=hid (Turned.ofAlloc (Z:=fun i=>i=w.heap.size+1) wr (.cells #[.string nm,.func (.func f) #[.pointer (some ⟨w.heap.size+1,0,none⟩)] #[]] 154))
   have HN:=hid (heap_alloc_new wr (.cells #[.string nm,.func (.func f) #[.pointer (some ⟨w.heap.size+1,0,none⟩)] #[]] 154))
   have HSa:=hid (HSr.out.turned HTa.out (fun i hi e=>by omega))
   have C:Hid (Calls Tryz.prog f #[.pointer (some ⟨w.heap.size+1,0,none⟩)] (wr.alloc (.cells #[.string nm,.func (.func f) #[.pointer (some ⟨w.heap.size+1,0,none⟩)] #[]] 154)) fun e w'=>StepEnds (wr.alloc (.cells #[.string nm,.func (.func f) #[.pointer (some ⟨w.heap.size+1,0,none⟩)] #[]] 154)) w' (w.heap.size+1) A s R i e):=by
    rw [hf] at HSa ⊢
    exact step_any HSa.out (by omega) hs hlt (HSt.out.turned (Turned.ofAlloc (Z:=fun _=>False) wr (.cells #[.string nm,.func (.func (84+i)) #[.pointer (some ⟨w.heap.size+1,0,none⟩)] #[]] 154)) (fun _ _ _ e=>e))
   clear hf t0 t1
   go_wp2_with (fail)
   refine C.out.mono ?_
   have hpb:w.heap.size+1+1 < wr.heap.size:=hlt2
   have hwa:wr.heap.size < (wr.alloc (.cells #[.string nm,.func (.func f) #[.pointer (some ⟨w.heap.size+1,0,none⟩)] #[]] 154)).heap.size:=by simp
   have HBa:=hid (HBr.out.trans (((Below.refl wr.heap.size wr).alloc (Nat.le_refl _) (.cells #[.string nm,.func (.func f) #[.pointer (some ⟨w.heap.size+1,0,none⟩)] #[]] 154)).mono hszr))
   have HGa:=hid ((HTa.out.block _ (lt_of_block' HGr.out) (by omega)).trans HGr.out)
   have HTTa:=hid ((HTa.out.block _ (lt_of_block' HTr.out) (by omega)).trans HTr.out)
   generalize wr.alloc (.cells #[.string nm,.func (.func f) #[.pointer (some ⟨w.heap.size+1,0,none⟩)] #[]] 154)=wa at *
   rintro e w2 ⟨⟨rfl,hSt⟩ | ⟨hRn,n,ev,rfl,hn,hC⟩,hT2⟩
   ·have HG2:=hid ((hT2.block _ (lt_of_block' HGa.out) (by omega)).trans HGa.out)
    have HT2:=hid ((hT2.block _ (lt_of_block' HTTa.out) (by omega)).trans HTTa.out)
    have HB2:=hid (below_turned HBa.out hT2 HBa.out.size (fun i hi=>by omega))
    have HS2:=hid (HSa.out.turned hT2 (fun i hi e=>by omega))
    have HSt2:=hid hSt
    clear C hT2 hSt q0 q1
    go_wp2_with (fail)
    go_roundw
    case rel=>exact ⟨i+1,by go_num,by omega,HSt2,HG2,HT2,HB2,HS2⟩
    case measure=>simp [intOf];omega
   ·have HC:=hid hC
    obtain ⟨u,x,rfl⟩:=hC.iface
    have HG2:=hid ((hT2.block _ (lt_of_block' HGa.out) (by omega)).trans HGa.out)
    have HN2:=hid ((hT2.block _ (lt_of_block' HN.out) (by omega)).trans HN.out)
    have HB2:=hid (below_turned HBa.out hT2 HBa.out.size (fun i hi=>by omega))
    have hsz2:=hT2.size
    obtain ⟨l0,l1,lf⟩:=cell_two2 HG2.out
    obtain ⟨n0,n1,_⟩:=cell_two2 HN2.out
    have f0:=lf 0
    have f1:=lf 1
    have HRn:=hid hRn
    generalize wr.heap.size=pb at *
    have a1:¬ pb=w.heap.size:=by omega
    have a2:¬ w.heap.size=pb:=by omega
    have a3:¬ w.heap.size=w2.heap.size:=by omega
    have a4:¬ w2.heap.size=w.heap.size:=by omega
    have a5:¬ pb=w2.heap.size:=by omega
    have a6:¬ w2.heap.size=pb:=by omega
    have a7:w.heap.size < w2.heap.size:=by omega
    have a8:pb < w2.heap.size:=by omega
    clear C hT2 hC q0 q1 lf hRn hent
    go_wp2_with (fail)
    go_region
    have hTS:=turned_set2 w2 w.heap.size (.slice none 0 0) (.slice none 0 0)
    have hXs:((w2.setCell ⟨w.heap.size,0,none⟩ (.slice none 0 0)).setCell ⟨w.heap.size,1,none⟩ (.slice none 0 0)).heap.size=w2.heap.size:=by simp [World.setCell]
    have hC1:=HC.out.turnT hTS HG2.out (by decide) (by decide)
    have hBB:Below ((w2.setCell ⟨w.heap.size,0,none⟩ (.slice none 0 0)).setCell ⟨w.heap.size,1,none⟩ (.slice none 0 0)).heap.size ((w2.setCell ⟨w.heap.size,0,none⟩ (.slice none 0 0)).setCell ⟨w.heap.size,1,none⟩ (.slice none 0 0)) (((w2.setCell ⟨w.heap.size,0,none⟩ (.slice none 0 0)).setCell ⟨w.heap.size,1,none⟩ (.slice none 0 0)).alloc (.cells #[.string nm,.iface u x] 158)).drew:=by
     have h1:=(Below.refl _ ((w2.setCell ⟨w.heap.size,0,none⟩ (.slice none 0 0)).setCell ⟨w.heap.size,1,none⟩ (.slice none 0 0))).alloc (Nat.le_refl _) (.cells #[.string nm,.iface u x] 158)
     exact ⟨h1.os,h1.tape,h1.output,h1.size,h1.block⟩
    have HNf:=hid (heap_alloc_new ((w2.setCell ⟨w.heap.size,0,none⟩ (.slice none 0 0)).setCell ⟨w.heap.size,1,none⟩ (.slice none 0 0)) (.cells #[.string nm,.iface u x] 158))
    rw [hXs] at HNf
    have HCf:=hid (hC1.kept hBB)
    have HBf:=hid (below_turned (below_turned HB2.out hTS HB2.out.size (fun i hi=>by omega)) (Turned.ofBelow (Z:=fun _=>False) hBB) (by rw [hXs];omega) (fun _ _ e=>e))
    have e1:=heap_setCell_same w2 w.heap.size 0 _ 91 (.slice none 0 0) HG2.out
    have e2:=heap_setCell_same _ w.heap.size 1 _ 91 (.slice none 0 0) e1
    obtain ⟨m0,m1,_⟩:=cell_two2 (show (((w2.setCell ⟨w.heap.size,0,none⟩ (.slice none 0 0)).setCell ⟨w.heap.size,1,none⟩ (.slice none 0 0)).alloc (.cells #[.string nm,.iface u x] 158)).heap[w.heap.size]?=some (.cells #[.slice none 0 0,.slice none 0 0] 91 (0,0)) from (hBB.block _ (by rw [hXs];exact a7)).trans e2)
    clear e1 e2 hBB hC1
    go_wp2
    refine bodyPost_ret (v:=.tuple #[.agg #[.slice none 0 0,.slice none 0 0],.iface 156 (.pointer (some ⟨w2.heap.size,0,none⟩))]) (by simp [results,Tryz.results48,go_sem,m0,m1]) rfl ⟨Or.inr ⟨by rw [← HRR.out];exact HRn.out,n+1,_,by omega,rfl,Chain.in_ HNf.out HCf.out⟩,HBf.out⟩
  ·have hlti:¬ ((i:Int) < 6):=by omega
   obtain rfl:i=6:=by omega
   obtain ⟨r,ds,gD,cD,ls,L,hP,hD,hg,hL,hgl,hr⟩:=HSt.out
   have HRe:Hid (R=some (ds,ls)):=hr
   obtain ⟨at_,hp,_⟩:=hP
   obtain ⟨_,_,c2,c3,_⟩:=cell_par hp
   obtain ⟨xs,hx1,hx2,hx3⟩:=hL
   obtain ⟨gL,cL,ao,hLe,_,_⟩:=ownsRow_shape hx2
   have HD:=hid hD
   have HL:Hid (ListsAt wr (w.heap.size+1+1) (lensOf ds) L ls):=⟨xs,hx1,hx2,hx3⟩
   have HGd:=hid hg
   have HGl:=hid hgl
   obtain ⟨l0,l1,lf⟩:=cell_two2 HGr.out
   have f0:=lf 0
   have f1:=lf 1
   obtain ⟨xl,hxl⟩:∃ k,k=xs.length:=⟨_,rfl⟩
   obtain ⟨dl,hdl⟩:∃ k,k=ds.length:=⟨_,rfl⟩
   rw [← hxl] at hLe
   rw [← hdl] at c2 HD
   have HDL:=hid hdl
   subst hLe
   clear hD hx1 hx2 hx3 hg hgl hr lf hp hxl hdl HSt
   go_wp2
   have hTS:=turned_set2 wr w.heap.size (.slice (some ⟨gD,0,none⟩) dl cD) (.slice ao xl cL)
   have hm:=HBr.out.size
   refine bodyPost_ret (v:=.tuple #[.agg #[.slice (some ⟨gD,0,none⟩) dl cD,.slice ao xl cL],.nilIface]) (by simp [results,Tryz.results48,go_sem,l0,l1]) rfl ⟨Or.inl ⟨ds,ls,_,_,by rw [← HRR.out];exact HRe.out,rfl,HGd.out,HGl.out,?_,?_⟩,below_turned HBr.out hTS hm (fun j hj=>by omega)⟩
   ·exact World.ownsRow.mono (ownsRow_turned HD.out hTS (fun g hg e=>by have:=(HD.out.lt g hg).1;omega)) (by omega)
   ·exact (HL.out.turned hTS (fun g hg e=>by omega)).mono (by omega)
end Go.Proofs.YtaacjjhmojecnaaGreatDoor
