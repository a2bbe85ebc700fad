import Derived.Test.YtaacjjhmojecnaaGreatDoorQ23
namespace Go.ScT
abbrev Hds:=List (Nat × Nat × Nat)
def headsOf (lens:List Nat):Nat→Pls→Hds
 | 0,_=>[]
 | f+1,ps=>if ps=[] then [] else (lastO (ps.take 4),mxC (ps.take 4),mnL lens (ps.take 4)) :: headsOf lens f (ps.drop 4)
theorem headsOf_snoc (lens:List Nat) {b:Pls} (hb:b≠[]) (h4:b.length≤4):∀ (k:Nat) {f g:Nat} {ps:Pls},ps.length=4 * k→ps.length≤f→(ps++b).length≤g→headsOf lens g (ps++b)=headsOf lens f ps++[(lastO b,mxC b,mnL lens b)]
 | 0,f,g,ps,hk,h1,h2=>by
   have:ps=[]:=List.length_eq_zero_iff.1 (by omega)
   subst this
   have hp:=List.length_pos_iff.2 hb
   obtain ⟨g,rfl⟩:∃ g',g=g'+1:=⟨g - 1,by simp at h2;omega⟩
   have e0:headsOf lens f []=[]:=by cases f <;> simp [headsOf]
   rw [e0,List.nil_append,List.nil_append]
   unfold headsOf
   rw [if_neg hb,List.take_of_length_le h4,List.drop_eq_nil_of_le h4]
   cases g <;> simp [headsOf]
 | k+1,f,g,ps,hk,h1,h2=>by
   have hne:ps≠[]:=fun e=>by subst e;simp at hk
   obtain ⟨f,rfl⟩:∃ f',f=f'+1:=⟨f - 1,by omega⟩
   obtain ⟨g,rfl⟩:∃ g',g=g'+1:=⟨g - 1,by simp at h2;omega⟩
   unfold headsOf
   rw [if_neg hne,if_neg (by simp [hne]),List.take_append_of_le_length (by omega),List.drop_append_of_le_length (by omega)]
   rw [headsOf_snoc lens hb h4 k (f:=f) (g:=g) (ps:=ps.drop 4) (by simp;omega) (by simp;omega) (by simp at h2 ⊢;omega)]
   simp
theorem headsOf_len (lens:List Nat):∀ (f:Nat) (ps:Pls),(headsOf lens f ps).length≤ps.length
 | 0,ps=>by simp [headsOf]
 | f+1,ps=>by
   unfold headsOf
   by_cases h:ps=[]
   ·simp [h]
   ·have h1:=headsOf_len lens f (ps.drop 4)
    have h2:=List.length_pos_iff.2 h
    rw [if_neg h]
    simp at h1 ⊢
    omega
def hdsOf (lens:List Nat) (ps:Pls):Hds:=headsOf lens ps.length ps
theorem hdsOf_snoc (lens:List Nat) {ps b:Pls} (hb:b≠[]) (h4:b.length≤4) (hk:ps.length % 4=0):hdsOf lens (ps++b)=hdsOf lens ps++[(lastO b,mxC b,mnL lens b)] :=
 headsOf_snoc lens hb h4 (ps.length / 4) (by omega) (Nat.le_refl _) (Nat.le_refl _)
theorem pBlk_props {lens:List Nat} {size next:Nat} {r t:Bs} {b:Pls} (hz1:1≤size) (hz:size≤4) (hn:lens.length≤100) (h:pBlk lens size next r=some (b,t)):b.length=size∧b≠[]∧lastO b < lens.length:=by
 obtain ⟨_,h2,h3⟩:=(pBlk_iff hz1 hz hn).1 h
 have hb:b≠[]:=fun e=>by subst e;simp at h2;omega
 obtain ⟨p,hp,hq⟩:=lastO_mem hb
 exact ⟨h2,hb,by rw [hq];exact (h3.mem p hp).2.1⟩
def joinL (a:Pls) (x:Option (Pls × Bs)):Option (Pls × Bs):=x.map fun y=>(a++y.1,y.2)
theorem pPls_no {lens:List Nat} {f k next:Nat} {r:Bs} {a:Pls} (hk:0 < k) (hf:k≤f) (h:pBlk lens (min 4 k) next r=none):joinL a (pPls lens f k next r)=none:=by
 obtain ⟨f,rfl⟩:∃ f',f=f'+1:=⟨f - 1,by omega⟩
 simp [pPls,h,joinL,show ¬ k=0 by omega]
theorem pPls_go {lens:List Nat} {f k next:Nat} {r t:Bs} {a b:Pls} (hk:0 < k) (hf:k≤f) (h:pBlk lens (min 4 k) next r=some (b,t)):joinL a (pPls lens f k next r)=joinL (a++b) (pPls lens (f - 1) (k - min 4 k) (lastO b+1) t):=by
 obtain ⟨f,rfl⟩:∃ f',f=f'+1:=⟨f - 1,by omega⟩
 simp only [pPls,h,joinL,if_neg (show ¬ k=0 by omega),Option.bind_some,Nat.add_sub_cancel]
 cases pPls lens f (k - min 4 k) (lastO b+1) t <;> simp
theorem pPls_end {lens:List Nat} {f next:Nat} {r:Bs} {a:Pls}:joinL a (pPls lens f 0 next r)=some (a,r):=by
 cases f <;> simp [pPls,joinL]
end Go.ScT
namespace Go.Proofs.YtaacjjhmojecnaaGreatDoor
open Go.RowKit Go.ScT Go.Proofs
def hdC:Hds→List Value
 | []=>[]
 | h :: r=>natV h.1 :: natV h.2.1 :: natV h.2.2 :: hdC r
theorem hdC_app:∀ (a b:Hds),hdC (a++b)=hdC a++hdC b
 | [],_=>rfl
 | e :: r,q=>by simp [hdC,hdC_app r q]
abbrev HRow (w:World) (base:Nat) (v:Value) (hs:Hds):Prop:=w.ownsRow base 295 3 v hs.length (hdC hs)
def LAt (w:World) (l:Nat) (tok vP vH:Value):Prop:=w.heap[l]?=some (.cells #[tok,vP,vH] 167 (0,0))
theorem rows_apart {w:World} {b1 b2 e1 e2 s1 s2 n1 n2:Nat} {v u:Value} {xs ys:List Value} (h1:w.ownsRow b1 e1 s1 v n1 xs) (h2:w.ownsRow b2 e2 s2 u n2 ys) (hne:e1≠e2):∀ g,v.ownBlock=some g→¬ (u.ownBlock=some g):=fun g a b=>by
 obtain ⟨_,x1⟩:=ownsRow_block h1 a
 obtain ⟨_,x2⟩:=ownsRow_block h2 b
 exact tag_ne x1 x2 hne rfl
theorem heads_push {w w3:World} {l base gA cA:Nat} {tok vP vH:Value} {hs:Hds} {x:Nat × Nat × Nat} {o:Obj} (hL:LAt w l tok vP vH) (hH:HRow w base vH hs) (hg:(w.alloc o).grownBy w3 vH.ownBlock)
 (hown:w3.ownsRow base 295 3 (.slice (some ⟨gA,0,none⟩) (hs.length+1) cA) (hs.length+1) (hdC hs++[natV x.1,natV x.2.1,natV x.2.2])) :
 LAt (w3.setCell ⟨l,2,none⟩ (.slice (some ⟨gA,0,none⟩) (hs.length+1) cA)) l tok vP (.slice (some ⟨gA,0,none⟩) (hs.length+1) cA)∧HRow (w3.setCell ⟨l,2,none⟩ (.slice (some ⟨gA,0,none⟩) (hs.length+1) cA)) base (.slice (some ⟨gA,0,none⟩) (hs.length+1) cA) (hs++[x]) ∧
 Turned (fun i=>i=l∨vH.ownBlock=some i) w (w3.setCell ⟨l,2,none⟩ (.slice (some ⟨gA,0,none⟩) (hs.length+1) cA)):=by
 have hlt:=lt_of_block hL
 have hvy:vH.ownBlock≠some l:=fun e=>by
  obtain ⟨cu,bq⟩:=ownsRow_block hH e
  exact tag_ne hL bq (by decide) rfl
 have h3:w3.heap[l]?=some (.cells #[tok,vP,vH] 167 (0,0)):=by
  rw [hg.block l (by simp;omega) (fun e=>hvy e.symm),Below.heap_alloc _ _ _ hlt]
  exact hL
 refine ⟨heap_setCell_same w3 l 2 _ 167 _ h3,?_,?_⟩
 ·have h4:=ownsRow_setCell_other (a:=⟨l,2,none⟩) hown (fun e=>by
   obtain ⟨cu,bq⟩:=ownsRow_block hown e
   exact tag_ne h3 bq (by decide) rfl) (.slice (some ⟨gA,0,none⟩) (hs.length+1) cA)
  unfold HRow
  rw [hdC_app]
  simpa [hdC] using h4
 ·exact (((Turned.ofAlloc w o).trans (Turned.ofGrown hg (fun j hj _=>Or.inr hj))).trans (Turned.ofSet _ _ _ (Or.inl rfl)))
theorem places_push {w w3:World} {l base gA cA:Nat} {tok vP vH:Value} {ps qs:Pls} (hL:LAt w l tok vP vH) (hP:PRow w base vP ps) (hg:w.grownBy w3 vP.ownBlock)
 (hown:w3.ownsRow base 169 2 (.slice (some ⟨gA,0,none⟩) (ps.length+qs.length) cA) (ps.length+qs.length) (plC ps++plC qs)) :
 LAt (w3.setCell ⟨l,1,none⟩ (.slice (some ⟨gA,0,none⟩) (ps.length+qs.length) cA)) l tok (.slice (some ⟨gA,0,none⟩) (ps.length+qs.length) cA) vH∧PRow (w3.setCell ⟨l,1,none⟩ (.slice (some ⟨gA,0,none⟩) (ps.length+qs.length) cA)) base (.slice (some ⟨gA,0,none⟩) (ps.length+qs.length) cA) (ps++qs) ∧
 Turned (fun i=>i=l∨vP.ownBlock=some i) w (w3.setCell ⟨l,1,none⟩ (.slice (some ⟨gA,0,none⟩) (ps.length+qs.length) cA)):=by
 have hlt:=lt_of_block hL
 have hvy:vP.ownBlock≠some l:=fun e=>by
  obtain ⟨cu,bq⟩:=ownsRow_block hP e
  exact tag_ne hL bq (by decide) rfl
 have h3:w3.heap[l]?=some (.cells #[tok,vP,vH] 167 (0,0)):=by
  rw [hg.block l (by omega) (fun e=>hvy e.symm)]
  exact hL
 refine ⟨heap_setCell_same w3 l 1 _ 167 _ h3,?_,?_⟩
 ·have h4:=ownsRow_setCell_other (a:=⟨l,1,none⟩) hown (fun e=>by
   obtain ⟨cu,bq⟩:=ownsRow_block hown e
   exact tag_ne h3 bq (by decide) rfl) (.slice (some ⟨gA,0,none⟩) (ps.length+qs.length) cA)
  unfold PRow
  rw [plC_app]
  simpa using h4
 ·exact (Turned.ofGrown hg (fun j hj _=>Or.inr hj)).trans (Turned.ofSet _ _ _ (Or.inl rfl))
theorem info295:(Tryz.prog.info? 295).map (fun i=>(i.zero,i.size,i.bytes))=some (some (.agg #[.int .i64 0,.int .i64 0,.int .i64 0]),3,24):=by kernel_rfl
theorem row_news {w:World} {base e size g n cap:Nat} {xs:List Value} (h:w.ownsRow base e size (.slice (some ⟨g,0,none⟩) n cap) n xs):∀ j u,xs[j]?=some u→w.cell? ((⟨g,0,none⟩:Addr).add j)=some u:=fun j u hu=>by
 have hj:=(List.getElem?_eq_some_iff.1 hu).1
 have hadd:(⟨g,0,none⟩:Addr).add j=⟨g,j,none⟩:=by unfold Addr.add;split <;> simp_all
 rw [hadd,h.cellAt j (by rw [← h.1];exact hj),hu]
theorem plC_one:∀ (ps:Pls),∀ u∈plC ps,u.oneCell'=true
 | [],u,h=>by simp [plC] at h
 | p :: r,u,h=>by
   simp only [plC,List.mem_cons] at h
   rcases h with rfl | rfl | h
   ·rfl
   ·rfl
   ·exact plC_one r u h
def BlocksEnd (w w':World) (b l:Nat) (A:Nat→Addr) (s:ByteArray) (D L tok:Value) (lens:List Nat) (e:Ending) (R:Option (Pls × Bs)):Prop :=
 ((∃ ps t vP vH,R=some (ps,t)∧e=.returned .nilIface∧PAt w' b s t D L∧LAt w' l tok vP vH∧PRow w' w.heap.size vP ps∧HRow w' w.heap.size vH (hdsOf lens ps))∨(R=none∧∃ n ev,e=.returned ev∧n≤1∧Chain w' A n ev))∧Turned (fun i=>i=b∨i=l) w w'
def pBlocks (lens:List Nat) (r:Bs):Option (Pls × Bs):=(pNum 1 lens.length r).bind fun c=>pPls lens c.1 c.1 0 c.2
set_option maxHeartbeats 2000000 in
set_option maxRecDepth 1000000 in
theorem readBlocks_any {w:World} {b l base base2 cD gD:Nat} {A:Nat→Addr} {s:ByteArray} {r:Bs} {L tok:Value} {ds:List DocP} (h:PAt w b s r (.slice (some ⟨gD,0,none⟩) ds.length cD) L) (hD:DRow w base2 (.slice (some ⟨gD,0,none⟩) ds.length cD) ds) (hb2:b < base2) (hS:Sent w A base) (hb:base≤b) (hs:s.size≤60000) (hn1:1≤ds.length) (hn:ds.length≤100) (hdl:∀ d∈ds,d.2.2≤1000)
 (hL:LAt w l tok (.slice none 0 0) (.slice none 0 0)) (hbl2:base≤l) :
 Calls Tryz.prog 238 #[.pointer (some ⟨b,0,none⟩),.pointer (some ⟨l,0,none⟩)] w fun e w'=>BlocksEnd w w' b l A s (.slice (some ⟨gD,0,none⟩) ds.length cD) L tok (lensOf ds) e (pBlocks (lensOf ds) r):=by
 have hbl:=h.lt
 have hll:=lt_of_block hL
 have HLn:=hid (lensOf_len ds)
 obtain ⟨R,hR⟩:∃ R,R=pBlocks (lensOf ds) r:=⟨_,rfl⟩
 rw [← hR]
 unfold pBlocks at hR
 rw [HLn.out] at hR
 have HR:=hid hR
 have c2:=h.c2
 have HP0:=hid (h.turned (Turned.drw (Z:=fun _=>False) w) (fun e=>e))
 have HS0:=hid (hS.turned (Turned.drw (Z:=fun _=>False) w) (fun _ _ e=>e))
 have hlb:l≠b:=by
  obtain ⟨at_,h',_⟩:=h
  exact tag_ne hL h' (by decide)
 have hlD:l≠gD:=by
  obtain ⟨cu,x⟩:=ownsRow_block hD (g:=gD) rfl
  exact tag_ne hL x (by decide)
 have hgD:=(hD.lt gD rfl).1
 have hgDl:=(hD.lt gD rfl).2
 have HL:=hid hL
 have HD:=hid hD
 have HS:=hid hS
 have HDL:=hid hdl
 obtain ⟨n,hnn⟩:∃ n,n=ds.length:=⟨_,rfl⟩
 have HNN:=hid hnn
 rw [← hnn] at c2 HP0 HR hn1 hn HD h ⊢
 clear hR hL hD hS hdl hnn
 cases h1:pNum 1 n r with
 | none =>
   rw [h1] at HR
   have C1:Hid (Calls Tryz.prog 166 #[.pointer (some ⟨b,0,none⟩),.int .i64 1,.int .i64 (n:Int)] w.drew fun e w''=>∃ ev,e=.returned (.tuple #[.int .i64 0,ev])∧Chain w'' A 0 ev∧Turned (fun i=>i=b) w w'') :=
    (number_noz 1 (n:Int) rfl rfl HP0.out HS0.out hb hs h1).mono fun e w' ⟨ev,h1,h2,h3⟩=>⟨ev,h1,h2,(Turned.drw w).trans h3⟩
   clear h1 h
   go_enter Tryz.func238,Tryz.ntmps238
   go_wp2_with (fail)
   go_region_with (first | (go_at_call 166;refine C1.out.mono ?_;rintro e w1 ⟨ev,rfl,hC,hT1⟩;have HC:=hid hC;obtain ⟨u,x,rfl⟩:=hC.iface;clear hC))
   go_wp2
   go_ret
   exact ⟨Or.inr ⟨HR.out,0,_,rfl,by omega,HC.out⟩,hT1.mono (fun i _ e=>Or.inl e)⟩
 | some y =>
   obtain ⟨c,r1⟩:=y
   rw [h1] at HR
   simp only [Option.bind_some] at HR
   have hc:=(pNum_iff (by omega)).1 h1
   have hc1:1≤c:=hc.2.1
   have hc2:c≤n:=hc.2.2
   have C1:Hid (Calls Tryz.prog 166 #[.pointer (some ⟨b,0,none⟩),.int .i64 1,.int .i64 (n:Int)] w.drew fun e w''=>e=.returned (.tuple #[.int .i64 (c:Int),.nilIface])∧PAt w'' b s r1 (.slice (some ⟨gD,0,none⟩) n cD) L∧Turned (fun i=>i=b) w w'') :=
    (number_okz 1 (n:Int) rfl rfl HP0.out hs h1).mono fun e w' ⟨h1,h2,h3⟩=>⟨h1,h2,(Turned.drw w).trans h3⟩
   clear h1 h hc
   go_enter Tryz.func238,Tryz.ntmps238
   go_wp2_with (fail)
   go_region_with (first | (go_at_call 166;refine C1.out.mono ?_;rintro e w1 ⟨rfl,hP1,hT1⟩))
   have HP1:=hid hP1
   have HT1:=hid (hT1.mono (Z':=fun i=>i=b∨i=l) (fun i _ e=>Or.inl e))
   have HS1:=hid (HS.out.turned hT1 (fun i hi e=>by omega))
   have HL1:Hid (LAt w1 l tok (.slice none 0 0) (.slice none 0 0)):=(hT1.block l hll hlb).trans HL.out
   have HD1:=hid (ownsRow_turned HD.out hT1 (fun g hg e=>by have:=(HD.out.lt g hg).1;omega))
   clear C1 hP1 hT1 HP0 HS0 c2 HS HL HD
   go_wp2_with (fail)
   obtain ⟨i169,hi1,ha0,ha1,ha2⟩:=info_parts info169
   obtain ⟨i295,hj1,hq0,hq1,hq2⟩:=info_parts info295
   go_loopw [7,8] (fun s7 s8 wr=>∃ (ps:Pls) (nx i f:Nat) (r2:Bs) (vP vH:Value),s7=.int .i64 (nx:Int)∧s8=.int .i64 (i:Int)∧i≤ps.length∧ps.length≤c∧nx≤100∧Hid (c - ps.length≤f)∧Hid (ps.length < c→ps.length % 4=0)∧Hid (PAt wr b s r2 (.slice (some ⟨gD,0,none⟩) n cD) L)∧Hid (LAt wr l tok vP vH)∧Hid (PRow wr w.heap.size vP ps)∧Hid (HRow wr w.heap.size vH (hdsOf (lensOf ds) ps))∧Hid (DRow wr base2 (.slice (some ⟨gD,0,none⟩) n cD) ds)∧Hid (Turned (fun i=>i=b∨i=l) w wr)∧Hid (Sent wr A base)∧Hid (R=joinL ps (pPls (lensOf ds) f (c - ps.length) nx r2))) (fun _ s8 _=>c - (intOf s8).toNat)
   case atStart =>
    refine ⟨[],0,0,c,r1,.slice none 0 0,.slice none 0 0,rfl,rfl,by simp,by simp,by omega,by simp [Hid],fun _=>rfl,HP1,HL1,hid ⟨rfl,Or.inl ⟨rfl,rfl⟩⟩,hid ⟨rfl,Or.inl ⟨rfl,rfl⟩⟩,HD1,HT1,HS1,?_⟩
    show _=_
    rw [HR.out]
    simp only [joinL,List.length_nil,Nat.sub_zero,List.nil_append]
    cases pPls (lensOf ds) c c 0 r1 <;> rfl
   case round =>
    obtain ⟨ps,nx,i,f,r2,vP,vH,rfl,rfl,hi,hps,hnx,HF,H4,HP,HLr,HPR,HHR,HD,HT,HSr,HE⟩:=hrel
    obtain ⟨gp,cp,aop,hvP,hvPo,_⟩:=ownsRow_shape HPR.out
    obtain ⟨gh,ch,aoh,hvH,hvHo,_⟩:=ownsRow_shape HHR.out
    have hhl:(hdsOf (lensOf ds) ps).length≤100:=by have:=headsOf_len (lensOf ds) ps.length ps;unfold hdsOf;omega
    obtain ⟨hs2,hhs⟩:∃ h,h=hdsOf (lensOf ds) ps:=⟨_,rfl⟩
    have HHS:=hid hhs
    rw [← hhs] at HHR hvH hhl
    clear hhs
    subst hvP hvH
    obtain ⟨c0,c1,c2,cf⟩:=cell_three HLr.out
    have hszr:=HT.out.size
    by_cases hlt:ps.length < c
    ·have hlti:(ps.length:Int) < (c:Int):=by omega
     have hmin:min (4:Int) ((c:Int) - (ps.length:Int))=((min 4 (c - ps.length):Nat):Int):=by omega
     have C:Hid (∀ z,z=((min 4 (c - ps.length):Nat):Int)→Calls Tryz.prog 279 #[.pointer (some ⟨b,0,none⟩),.int .i64 z,.int .i64 (nx:Int)] wr fun e w'=>BlockEnds wr w' b A s (.slice (some ⟨gD,0,none⟩) n cD) L (lensOf ds) e (pBlk (lensOf ds) (min 4 (c - ps.length)) nx r2)):=by
      intro z hz
      subst hz
      have hn2:=HNN.out
      have hx:=readBlock_any (size:=min 4 (c - ps.length)) (next:=nx) (ds:=ds) (cD:=cD) (gD:=gD) (by rw [← hn2];exact HP.out) (by rw [← hn2];exact HD.out) hb2 HSr.out hb hs (by omega) (by omega) HDL.out (by omega) (by omega) (by omega)
      rw [← hn2] at hx
      exact hx
     go_wp2_with (fail)
     refine (C.out _ (by first | exact hmin | rfl)).mono ?_
     rintro e w2 ⟨⟨blk,t2,v,hB,rfl,hP2,hPR2⟩ | ⟨hB,ev,rfl,hC⟩,hT2⟩
     ·obtain ⟨hbl1,hbl2,hbl3⟩:=pBlk_props (by omega) (by omega) (by rw [HLn.out,← HNN.out];exact hn) hB
      rw [pPls_go (by omega) HF.out hB] at HE
      rw [HLn.out,← HNN.out] at hbl3
      obtain ⟨gv,cv,rfl,hgv,hgvl⟩:=hPR2.form (List.length_pos_iff.2 hbl2)
      have HHS2:Hid (hs2++[(lastO blk,mxC blk,mnL (lensOf ds) blk)]=hdsOf (lensOf ds) (ps++blk)):=show _=_ by
       rw [hdsOf_snoc _ hbl2 (by omega) (H4.out hlt),HHS.out]
      have HBL1:=hid hbl1
      have hblp:=List.length_pos_iff.2 hbl2
      have hbl4:blk.length≤4:=by omega
      have hblc:ps.length+blk.length≤c:=by omega
      have H4b:Hid ((ps++blk).length < c→(ps++blk).length % 4=0):=by
       intro h
       have:=H4.out hlt
       simp at h ⊢
       omega
      have HFb:Hid (c - (ps++blk).length≤f - 1):=by
       have:=HF.out
       show _≤_
       simp
       omega
      have HEb:Hid (R=joinL (ps++blk) (pPls (lensOf ds) (f - 1) (c - (ps++blk).length) (lastO blk+1) t2)):=show _=_ by
       rw [HE.out,List.length_append,hbl1,Nat.sub_sub]
      clear hbl1 hbl2 HE HF H4
      generalize lastO blk=x at *
      generalize mxC blk=y at *
      generalize mnL (lensOf ds) blk=z at *
      go_wp2_with (fail)
      have HTa:=hid (hT2.trans (Turned.ofAlloc (Z:=fun i=>i=b) w2 (.cells #[.int .i64 (x:Int),.int .i64 (y:Int),.int .i64 (z:Int)] 295)))
      have HPa:=hid (hP2.turned (Turned.ofAlloc (Z:=fun _=>False) w2 (.cells #[.int .i64 (x:Int),.int .i64 (y:Int),.int .i64 (z:Int)] 295)) (fun e=>e))
      have HLa:Hid (LAt (w2.alloc (.cells #[.int .i64 (x:Int),.int .i64 (y:Int),.int .i64 (z:Int)] 295)) l tok (.slice aop ps.length cp) (.slice aoh hs2.length ch)):=(HTa.out.block l (by omega) hlb).trans HLr.out
      have HPRa:=hid (ownsRow_turned HPR.out HTa.out (fun g hg e=>by have:=(HPR.out.lt g hg).1;omega))
      have HHRa:=hid (ownsRow_turned HHR.out HTa.out (fun g hg e=>by have:=(HHR.out.lt g hg).1;omega))
      have HBRa:=hid (ownsRow_turned hPR2 (Turned.ofAlloc (Z:=fun _=>False) w2 (.cells #[.int .i64 (x:Int),.int .i64 (y:Int),.int .i64 (z:Int)] 295)) (fun _ _ e=>e))
      have HN:=hid (heap_alloc_new w2 (.cells #[.int .i64 (x:Int),.int .i64 (y:Int),.int .i64 (z:Int)] 295))
      have hgd:w2.heap.size < (w2.alloc (.cells #[.int .i64 (x:Int),.int .i64 (y:Int),.int .i64 (z:Int)] 295)).heap.size:=by simp
      have hsz2:=hT2.size
      have hphl:∀ g,(Value.slice aop ps.length cp).ownBlock=some g→g < wr.heap.size:=fun g hg=>(HPR.out.lt g hg).2
      have hhhl:∀ g,(Value.slice aoh hs2.length ch).ownBlock=some g→g < wr.heap.size:=fun g hg=>(HHR.out.lt g hg).2
      generalize w2.alloc (.cells #[.int .i64 (x:Int),.int .i64 (y:Int),.int .i64 (z:Int)] 295)=W at *
      generalize w2.heap.size=gd at *
      clear hP2 hT2 C hPR2 hB c0 c1 c2 cf HHR
      obtain ⟨n0,n1,n2,nf⟩:=cell_three HN.out
      clear nf
      have hlW:l < W.heap.size:=lt_of_block HLa.out
      obtain ⟨c0,c1,c2,cf⟩:=cell_three HLa.out
      have hne:(Value.slice aoh hs2.length ch).ownBlock≠some l:=fun e=>by
       obtain ⟨cu,bq⟩:=ownsRow_block HHRa.out e
       exact tag_ne HLa.out bq (by decide) rfl
      have f2:=cf 2
      have d2':∀ n' o,((W.drewN n').alloc o).cell? ⟨l,2,none⟩=some (.slice aoh hs2.length ch):=fun n' o=>by rw [World.cell?_of_block (Below.heap_alloc _ _ _ hlW)];exact c2
      have f2':∀ n' o,((W.drewN n').alloc o).frozen? ⟨l,2,none⟩=false:=fun n' o=>by rw [World.frozen?_of_block (Below.heap_alloc _ _ _ hlW)];exact f2
      clear cf c0 c1
      go_region_law
       ((refine step_append_lies _ (by rfl) _ _ _ (by rfl) w.heap.size 295 i295 _ 3 24 Tryz.underlying165 hj1 hq0 hq1 hq2 rfl (by omega) (.slice aoh hs2.length ch) hs2.length (hdC hs2) (by rfl) (by exact HHRa.out.alloc _)
          ⟨W.heap.size,0,none⟩ 1 1 [natV x,natV y,natV z] (by rfl) (by rfl) (World.news_of_block (cs:=#[natV x,natV y,natV z]) (t:=295) (fr:=(0,0)) (heap_alloc_new W _)) (by simp [Value.oneCell'])
          (by omega) (by unfold maxLen;omega) (by omega) (by simp;omega) (W.heap.size+1) (by simp) ?_;intro gA capA w3 hownA hgrowA hatA hltA;have e0:=(hgrowA.cell_far ⟨l,2,none⟩ (by simp;omega) (Ne.symm hne)).trans (d2' _ _);have e1:=(hgrowA.frozen_far ⟨l,2,none⟩ (by simp;omega) (Ne.symm hne)).trans (f2' _ _)))
      all_goals
       have HPP:=heads_push (w:=W.drewN 1) (x:=(x,y,z)) HLa.out HHRa.out hgrowA hownA
       generalize w3.setCell ⟨l,2,none⟩ (Value.slice (some ⟨gA,0,none⟩) (hs2.length+1) capA)=W3 at HPP ⊢
       have n3:W3.cell? ⟨gd,0,none⟩=some (.int .i64 (x:Int)):=by
        rw [World.cell?_of_block (HPP.2.2.block gd hgd (by rintro (e | e);omega;have:=hhhl gd e;omega))]
        exact n0
       have HPR3:=hid (ownsRow_turned (w:=W.drewN 1) HPRa.out HPP.2.2 (by
        rintro g hg (e | e)
        ·have:=(HPRa.out.lt g hg).1;omega
        ·exact rows_apart HPRa.out HHRa.out (by decide) g hg e))
       have HB3:=hid (ownsRow_turned (w:=W.drewN 1) HBRa.out HPP.2.2 (by
        rintro g hg (e | e)
        ·have:=(HBRa.out.lt g hg).1;omega
        ·have:=(HBRa.out.lt g hg).1;have:=hhhl g e;omega))
       obtain ⟨m0,m1,m2,mf⟩:=cell_three HPP.1
       have fm1:=mf 1
       have hneP:(Value.slice aop ps.length cp).ownBlock≠some l:=fun e=>by have:=(HPRa.out.lt l e).1;omega
       have hnegP:(Value.slice aop ps.length cp).ownBlock≠some gd:=fun e=>by have:=hphl gd e;omega
       have hW3:=HPP.2.2.size
       have hW3':W.heap.size≤W3.heap.size:=hW3
       have HPQ:=hid HPP
       have hgdl:¬ gd=l:=by omega
       have hgdl':¬ l=gd:=by omega
       clear HPP mf e0 e1 hownA hgrowA hatA hltA m0 m2
       go_wp2_with (at_builtin;refine wpList_append_lies _ rfl _ _ 164 rfl w.heap.size 169 i169 _ 2 16 Tryz.underlying164 hi1 ha0 ha1 ha2 rfl (by decide) _ _ _ rfl HPR3.out ⟨gv,0,none⟩ blk.length cv (plC blk) rfl (plC_len blk) (row_news HB3.out) (plC_one blk) (by omega) (by unfold maxLen;omega) (by omega) (by omega) W3.heap.size rfl ?_;intro gB capB w5 hownB hgrowB hatB hltB;have e2:=(hgrowB.cell_far ⟨l,1,none⟩ (by simp only;omega) (Ne.symm hneP)).trans m1;have e3:=(hgrowB.frozen_far ⟨l,1,none⟩ (by simp only;omega) (Ne.symm hneP)).trans fm1;have e4:=(hgrowB.cell_far ⟨gd,0,none⟩ (by simp only;omega) (Ne.symm hnegP)).trans n3)
       have HPS:=hid (places_push HPQ.out.1 HPR3.out hgrowB hownB)
       go_roundw
       case rel =>
        have t1:Turned (fun i=>i=l∨w.heap.size≤i) W W3:=((Turned.refl _ W).ofDrew 1).trans (HPQ.out.2.2.mono (by rintro j hj (e | e);exact Or.inl e;exact Or.inr (HHRa.out.lt j e).1))
        have t2':=t1.trans (HPS.out.2.2.mono (Z':=fun i=>i=l∨w.heap.size≤i) (by rintro j hj (e | e);exact Or.inl e;exact Or.inr (HPRa.out.lt j e).1))
        refine ⟨ps++blk,x+1,i+1,f - 1,t2,_,_,by go_num,by go_num,by simp;omega,by simp;omega,by omega,HFb,H4b,HPa.out.turned t2' (by omega),HPS.out.1,HPS.out.2.1,?_,?_,?_,?_,HEb⟩
        ·have hH3:=ownsRow_turned HPQ.out.2.1 HPS.out.2.2 (by
          rintro g hg (e | e)
          ·obtain ⟨cu,bq⟩:=ownsRow_block HPQ.out.2.1 hg
           exact tag_ne HPQ.out.1 bq (by decide) e.symm
          ·exact rows_apart HPR3.out HPQ.out.2.1 (by decide) g e hg)
         rw [← HHS2.out]
         exact hH3
        ·exact ownsRow_turned (ownsRow_turned HD.out HTa.out (fun g hg e=>by have:=(HD.out.lt g hg).1;omega)) t2' (fun g hg=>by
          have e2:gD=g:=by simpa [Value.ownBlock] using hg
          omega)
        ·exact Turned.over (HT.out.trans (HTa.out.mono (Z':=fun i=>i=b∨i=l) (fun i _ e=>Or.inl e))) t2' (fun i hi e=>by omega)
        ·exact (HSr.out.turned HTa.out (fun i hi e=>by omega)).turned t2' (fun i hi=>by omega)
       case measure=>simp [intOf];omega
     ·rw [pPls_no (by omega) HF.out hB] at HE
      have CI:Hid (∀ w' ev,Sent w' A base→Chain w' A 0 ev→Calls Tryz.prog 168 #[lstV [98,108,111,99,107],.int .i64 (i:Int),ev] w' fun e w''=>∃ ev',e=.returned ev'∧Chain w'' A (0+1) ev'∧Below w'.heap.size w' w''):=fun w' ev h1 h2=>inOneOf_any w' A base 0 _ i ev h1 h2 (by simp) (by omega)
      have HC:=hid hC
      obtain ⟨u,x,rfl⟩:=hC.iface
      have HSa:=hid ((HSr.out.turned hT2 (fun i hi e=>by omega)).below ((Below.refl w2.heap.size w2).alloc (Nat.le_refl _) (.cells #[.int .i64 0,.int .i64 0,.int .i64 0] 295)))
      have HCa:=hid (HC.out.kept ((Below.refl w2.heap.size w2).alloc (Nat.le_refl _) (.cells #[.int .i64 0,.int .i64 0,.int .i64 0] 295)))
      have HTa:=hid ((HT.out.trans (hT2.mono (Z':=fun i=>i=b∨i=l) (fun i _ e=>Or.inl e))).trans (Turned.ofAlloc w2 (.cells #[.int .i64 0,.int .i64 0,.int .i64 0] 295)))
      clear hC hT2 hB C
      go_wp2_with (fail)
      refine (CI.out _ _ HSa.out HCa.out).mono ?_
      rintro e w4 ⟨ev',rfl,hC4,hb4⟩
      have HC4:=hid hC4
      obtain ⟨u4,x4,rfl⟩:=hC4.iface
      clear hC4
      go_wp2
      go_ret
      exact ⟨Or.inr ⟨HE.out,1,_,rfl,by omega,HC4.out⟩,HTa.out.trans (Turned.ofBelow hb4)⟩
    ·have hlti:¬ ((ps.length:Int) < (c:Int)):=by omega
     have HE2:Hid (R=some (ps,r2)):=show _=_ by rw [HE.out,show c - ps.length=0 by omega,pPls_end]
     go_wp2
     go_ret
     refine ⟨Or.inl ⟨ps,r2,_,_,HE2.out,rfl,HP.out,HLr.out,HPR.out,?_⟩,HT.out⟩
     rw [← HHS.out]
     exact HHR.out
end Go.Proofs.YtaacjjhmojecnaaGreatDoor
