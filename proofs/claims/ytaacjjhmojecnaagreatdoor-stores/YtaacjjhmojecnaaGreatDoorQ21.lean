import Derived.Test.YtaacjjhmojecnaaGreatDoorQ20
namespace Go.ScT
theorem itoa_dec (n:Nat):Lib.itoa (n:Int)=dec n:=by
 have key:∀ k n,n≤k→Lib.decDigits n=dec n:=by
  intro k
  induction k with
  | zero=>intro n hn;have:n=0:=by omega
          subst this;rw [Lib.decDigits,dif_pos (by omega),dec_low (by omega)];rfl
  | succ k ih =>
    intro n hn
    by_cases h:n < 10
    ·rw [Lib.decDigits,dif_pos h,dec_low (by omega)];rfl
    ·rw [Lib.decDigits,dif_neg h,dec_high (by omega),ih (n / 10) (by omega)];rfl
 unfold Lib.itoa
 rw [if_neg (by omega)]
 exact key n _ (by simp)
end Go.ScT
namespace Go.Proofs.YtaacjjhmojecnaaGreatDoor
open Go.RowKit Go.ScT Go.Proofs Go.Shelf
theorem below_grown (w:World) (k:Nat) (os:Array Obj):Below w.heap.size w (Go.Sort.grow (w.drewN k) os):=by
 refine ⟨rfl,rfl,rfl,?_,fun i hi=>?_⟩
 ·show w.heap.size≤(w.heap++os).size
  simp
 ·show (w.heap++os)[i]?=w.heap[i]?
  rw [Array.getElem?_append_left hi]
theorem itoa_any (n:Nat) (hn:n≤1000000000) (w:World) (A:Nat→Addr) (base:Nat) (hS:Sent w A base):Calls Tryz.prog 81 #[.int .i64 (n:Int)] w fun e w'=>e=.returned (lstV (dec n))∧Below w.heap.size w w':=by
 refine (Tryz.strconv_Itoa (n:Int) (by omega) (by omega) w hS.tab).mono ?_
 rintro e w' ⟨rfl,k,os,rfl⟩
 exact ⟨by rw [itoa_dec],below_grown w k os⟩
set_option maxHeartbeats 1000000 in
set_option maxRecDepth 1000000 in
theorem inOneOf_any (w:World) (A:Nat→Addr) (base n:Nat) (kind:Bs) (i:Nat) (ev:Value) (hS:Sent w A base) (hC:Chain w A n ev) (hk:kind.length≤100) (hi:i≤100000) :
 Calls Tryz.prog 168 #[lstV kind,.int .i64 (i:Int),ev] w fun e w'=>∃ ev',e=.returned ev'∧Chain w' A (n+1) ev'∧Below w.heap.size w w':=by
 have C:=hid (itoa_any i (by omega) w A base hS)
 have hdl:=dec_len (n:=i) (by omega)
 have HC:=hid hC
 obtain ⟨u,x,rfl⟩:=hC.iface
 generalize dec i=dg at *
 clear hC hS
 go_enter Tryz.func168,Tryz.ntmps168
 go_wp2_with (first | (go_at_call 81;refine C.out.mono ?_;rintro e w1 ⟨rfl,hb1⟩))
 go_ret
 refine ⟨_,rfl,Chain.in_ (heap_alloc_new _ _) ((HC.out.kept hb1).kept ((Below.refl _ _).alloc (Nat.le_refl _) _)),?_⟩
 exact hb1.trans (((Below.refl _ _).alloc (Nat.le_refl _) _).mono hb1.size)
set_option maxHeartbeats 1000000 in
set_option maxRecDepth 1000000 in
theorem readMark_ok {w:World} {b:Nat} {s:ByteArray} {r t:Bs} {D L:Value} (h:PAt w b s r D L) (hs:s.size≤60000) (hp:pTake 2 r=some ([83,71],t)) :
 Calls Tryz.prog 84 #[.pointer (some ⟨b,0,none⟩)] w fun e w'=>e=.returned .nilIface∧PAt w' b s t D L∧Turned (fun i=>i=b) w w':=by
 have C:Hid (Calls Tryz.prog 165 #[.pointer (some ⟨b,0,none⟩),.int .i64 2] w fun e w'=>e=.returned (.tuple #[lstV [83,71],.nilIface])∧PAt w' b s t D L∧Turned (fun i=>i=b) w w'):=take_ok w b s r D L h hs 2 (by omega) [83,71] t hp
 clear h hp
 go_enter Tryz.func84,Tryz.ntmps84
 go_wp2_with (first | (go_at_call 165;refine C.out.mono ?_;rintro e w1 ⟨rfl,hP,hT⟩))
 go_ret
 exact ⟨rfl,hP,hT⟩
set_option maxHeartbeats 1000000 in
set_option maxRecDepth 1000000 in
theorem readMark_e0 {w:World} {b base:Nat} {A:Nat→Addr} {s:ByteArray} {r:Bs} {D L:Value} (h:PAt w b s r D L) (hS:Sent w A base) (hs:s.size≤60000) (hp:pTake 2 r=none) :
 Calls Tryz.prog 84 #[.pointer (some ⟨b,0,none⟩)] w fun e w'=>∃ ev,e=.returned ev∧Chain w' A 0 ev∧Turned (fun i=>i=b) w w':=by
 have C:Hid (Calls Tryz.prog 165 #[.pointer (some ⟨b,0,none⟩),.int .i64 2] w fun e w'=>∃ ev,e=.returned (.tuple #[lstV [],ev])∧Chain w' A 0 ev∧Turned (fun i=>i=b) w w'):=take_no w b base A s r D L h hS hs 2 hp
 clear h hp hS
 go_enter Tryz.func84,Tryz.ntmps84
 go_wp2_with (fail)
 refine C.out.mono ?_
 rintro e w1 ⟨ev,rfl,hC,hT⟩
 have HC:=hid hC
 obtain ⟨u,x,rfl⟩:=hC.iface
 clear hC
 go_wp2
 go_ret
 exact ⟨_,rfl,HC.out,hT⟩
set_option maxHeartbeats 1000000 in
set_option maxRecDepth 1000000 in
theorem readMark_e1 {w:World} {b base:Nat} {A:Nat→Addr} {s:ByteArray} {r x t:Bs} {D L:Value} (h:PAt w b s r D L) (hS:Sent w A base) (hb:base≤b) (hs:s.size≤60000) (hp:pTake 2 r=some (x,t)) (hx:x≠[83,71]) :
 Calls Tryz.prog 84 #[.pointer (some ⟨b,0,none⟩)] w fun e w'=>∃ ev,e=.returned ev∧Chain w' A 0 ev∧Turned (fun i=>i=b) w w':=by
 have C:Hid (Calls Tryz.prog 165 #[.pointer (some ⟨b,0,none⟩),.int .i64 2] w fun e w'=>e=.returned (.tuple #[lstV x,.nilIface])∧PAt w' b s t D L∧Turned (fun i=>i=b) w w'):=take_ok w b s r D L h hs 2 (by omega) x t hp
 have hxe:(x == [83,71])=false:=beq_eq_false_iff_ne.2 hx
 have HS:=hid hS
 clear h hp hS
 go_enter Tryz.func84,Tryz.ntmps84
 go_wp2_with (first | (go_at_call 165;refine C.out.mono ?_;rintro e w1 ⟨rfl,hP,hT⟩;have g2:=(HS.out.turned hT (fun i hi e=>by omega)).cell 2 (by simp)))
 go_ret
 refine ⟨_,rfl,Chain.at_ (k:=2) (z:=0) (heap_alloc_new _ _) (by simp) (by decide),hT.trans (Turned.ofAlloc _ _)⟩
def pDocsN (r:Bs):Option (List DocP × Bs):=(pNum 1 100 r).bind fun n=>pDocs n.1 0 [] n.2
def joinD (a:List DocP) (x:Option (List DocP × Bs)):Option (List DocP × Bs):=x.map fun y=>(a++y.1,y.2)
theorem pDocs_step_ok {k bf:Nat} {seen:List Bs} {r t:Bs} {d:DocP} {a:List DocP} (h:pDoc bf seen r=some (d,t)):joinD a (pDocs (k+1) bf seen r)=joinD (a++[d]) (pDocs k d.1 (seen++[d.2.1]) t):=by
 simp only [pDocs,h,Option.bind_some,joinD]
 cases pDocs k d.1 (seen++[d.2.1]) t <;> simp
theorem pDocs_step_no {k bf:Nat} {seen:List Bs} {r:Bs} {a:List DocP} (h:pDoc bf seen r=none):joinD a (pDocs (k+1) bf seen r)=none:=by
 simp [pDocs,h,joinD]
theorem pDocs_end {bf:Nat} {seen:List Bs} {r:Bs} {a:List DocP}:joinD a (pDocs 0 bf seen r)=some (a,r):=by simp [pDocs,joinD]
theorem pDoc_num {bf:Nat} {seen:List Bs} {r t:Bs} {d:DocP} (hb:bf≤100) (h:pDoc bf seen r=some (d,t)):d.1≤100:=by
 unfold pDoc at h
 obtain ⟨⟨n1,r1⟩,h1,h⟩:=Option.bind_eq_some_iff.1 h
 obtain ⟨⟨n2,r2⟩,h2,h⟩:=Option.bind_eq_some_iff.1 h
 obtain ⟨⟨k,r3⟩,h3,h⟩:=Option.bind_eq_some_iff.1 h
 simp only [Option.some.injEq,Prod.mk.injEq] at h1 h
 have:=(pNum_iff (by omega)).1 h1
 obtain ⟨rfl,_⟩:=h
 simp only
 omega
theorem info137:(Tryz.prog.info? 141).map (fun i=>(i.zero,i.size,i.bytes))=some (some (.agg #[.int .i64 0,.string ⟨#[]⟩,.int .i64 0]),3,32):=by kernel_rfl
def PartEnds (w w':World) (b:Nat) (A:Nat→Addr) (e:Ending) (good:Prop) (bad:Prop):Prop :=
 ((good∧e=.returned .nilIface)∨(bad∧∃ n ev,e=.returned ev∧n≤2∧Chain w' A n ev))∧Turned (fun i=>i=b) w w'
theorem par_push {w w3:World} {b base gA cA:Nat} {s:ByteArray} {r:Bs} {D L:Value} {ds:List DocP} {d:DocP} {o:Obj} (hP:PAt w b s r D L) (hD:DRow w base D ds) (hg:(w.alloc o).grownBy w3 D.ownBlock)
 (hown:w3.ownsRow base 141 3 (.slice (some ⟨gA,0,none⟩) (ds.length+1) cA) (ds.length+1) (docC ds++[natV d.1,lstV d.2.1,natV d.2.2])) :
 PAt (w3.setCell ⟨b,2,none⟩ (.slice (some ⟨gA,0,none⟩) (ds.length+1) cA)) b s r (.slice (some ⟨gA,0,none⟩) (ds.length+1) cA) L∧DRow (w3.setCell ⟨b,2,none⟩ (.slice (some ⟨gA,0,none⟩) (ds.length+1) cA)) base (.slice (some ⟨gA,0,none⟩) (ds.length+1) cA) (ds++[d]) ∧
 Turned (fun i=>i=b∨D.ownBlock=some i) w (w3.setCell ⟨b,2,none⟩ (.slice (some ⟨gA,0,none⟩) (ds.length+1) cA)):=by
 have hlt:=hP.lt
 obtain ⟨at_,h,ha,hr⟩:=hP
 have hvy:D.ownBlock≠some b:=fun e=>by
  obtain ⟨cu,bq⟩:=ownsRow_block hD e
  exact tag_ne h bq (by decide) rfl
 have h3:w3.heap[b]?=some (.cells #[.string s,.int .i64 (at_:Int),D,L] 152 (0,0)):=by
  rw [hg.block b (by simp;omega) (fun e=>hvy e.symm),Below.heap_alloc _ _ _ hlt]
  exact h
 refine ⟨⟨at_,heap_setCell_same w3 b 2 _ 152 _ h3,ha,hr⟩,?_,?_⟩
 ·have h4:=ownsRow_setCell_other (a:=⟨b,2,none⟩) hown (fun e=>by
   obtain ⟨cu,bq⟩:=ownsRow_block hown e
   exact tag_ne h3 bq (by decide) rfl) (.slice (some ⟨gA,0,none⟩) (ds.length+1) cA)
  unfold DRow
  rw [docC_snoc]
  simpa using h4
 ·exact (((Turned.ofAlloc w o).trans (Turned.ofGrown hg (fun j hj _=>Or.inr hj))).trans (Turned.ofSet _ _ _ (Or.inl rfl)))
set_option maxHeartbeats 2000000 in
set_option maxRecDepth 1000000 in
theorem readDocuments_any {w:World} {b base:Nat} {A:Nat→Addr} {s:ByteArray} {r:Bs} {L:Value} (h:PAt w b s r (.slice none 0 0) L) (hS:Sent w A base) (hb:base≤b) (hs:s.size≤60000) :
 Calls Tryz.prog 85 #[.pointer (some ⟨b,0,none⟩)] w fun e w'=>PartEnds w w' b A e (∃ ds t D,pDocsN r=some (ds,t)∧PAt w' b s t D L∧DRow w' w.heap.size D ds) (pDocsN r=none):=by
 have hbl:=h.lt
 cases h1:pNum 1 100 r with
 | none =>
   have HN:Hid (pDocsN r=none):=show _=_ by simp [pDocsN,h1]
   have C:=hid (number_noz 1 100 rfl rfl h hS hb hs h1)
   clear h1 h hS
   go_enter Tryz.func85,Tryz.ntmps85
   go_wp2_with (fail)
   refine C.out.mono ?_
   rintro e w1 ⟨ev,rfl,hC,hT⟩
   have HC:=hid hC
   obtain ⟨u,x,rfl⟩:=hC.iface
   clear hC
   go_wp2
   go_ret
   exact ⟨Or.inr ⟨HN.out,_,_,rfl,by omega,HC.out⟩,hT⟩
 | some x =>
   obtain ⟨n,r1⟩:=x
   have hn:=(pNum_iff (by omega)).1 h1
   have HR:Hid (pDocsN r=joinD [] (pDocs (n - 0) 0 (([]:List DocP).map (·.2.1)) r1)):=show _=_ by
    simp only [pDocsN,h1,Option.bind_some,joinD,Nat.sub_zero,List.map_nil]
    cases pDocs n 0 [] r1 <;> simp
   have C:=hid (number_okz 1 100 rfl rfl h hs h1)
   have hn100:n≤100:=by omega
   have HS:=hid hS
   clear h1 h hS hn
   generalize pDocsN r=R at *
   obtain ⟨i137,hi1,ha0,ha1,ha2⟩:=info_parts info137
   go_enter Tryz.func85,Tryz.ntmps85
   go_wp2_with (first | (go_at_call 166;refine C.out.mono ?_;rintro e w1 ⟨rfl,hP1,hT1⟩))
   have HP1:=hid hP1
   have HT1:=hid hT1
   have HS1:=hid (HS.out.turned hT1 (fun i hi e=>by omega))
   clear hP1 hT1
   go_loopw [5,20] (fun s5 s20 wr=>∃ (i bf:Nat) (ds:List DocP) (r2:Bs) (D:Value),s20=.int .i64 (i:Int)∧s5=.int .i64 (bf:Int)∧i≤n∧bf≤100∧ds.length=i∧Hid (PAt wr b s r2 D L)∧Hid (DRow wr w.heap.size D ds)∧Hid (Turned (fun i=>i=b) w wr)∧Hid (Sent wr A base)∧Hid (R=joinD ds (pDocs (n - i) bf (ds.map (·.2.1)) r2))) (fun _ s20 _=>n - (intOf s20).toNat)
   case atStart=>exact ⟨0,0,[],r1,.slice none 0 0,rfl,rfl,by omega,by omega,rfl,HP1,hid ⟨rfl,Or.inl ⟨rfl,rfl⟩⟩,HT1,HS1,HR⟩
   case round =>
    obtain ⟨i,bf,ds,r2,D,rfl,rfl,hi,hbf,rfl,HP,HD,HT,HSr,HE⟩:=hrel
    have hsz:=HT.out.size
    by_cases hlt:ds.length < n
    ·have hlti:(ds.length:Int) < (n:Int):=by omega
     have hk:n - ds.length=(n - (ds.length+1))+1:=by omega
     rw [hk] at HE
     clear hk
     cases hd:pDoc bf (ds.map (·.2.1)) r2 with
     | none =>
       rw [pDocs_step_no hd] at HE
       have C2:=hid (readDocument_no HP.out HSr.out hb HD.out (by omega) hs (by omega) bf hbf hd)
       have CI:Hid (∀ w' ev,Sent w' A base→Chain w' A 0 ev→Calls Tryz.prog 168 #[lstV [100,111,99,117,109,101,110,116],.int .i64 (ds.length:Int),ev] w' fun e w''=>∃ ev',e=.returned ev'∧Chain w'' A (0+1) ev'∧Below w'.heap.size w' w''):=fun w' ev h1 h2=>inOneOf_any w' A base 0 _ ds.length ev h1 h2 (by simp) (by omega)
       clear hd
       go_wp2_with (fail)
       refine C2.out.mono ?_
       rintro e w2 ⟨ev,rfl,hC,hT2⟩
       have HC:=hid hC
       have HS2:=hid (HSr.out.turned hT2 (fun i hi e=>by omega))
       obtain ⟨u,x,rfl⟩:=hC.iface
       clear hC
       have hT3:=hT2.trans (Turned.ofAlloc (Z:=fun i=>i=b) w2 (.cells #[.int .i64 0,.string ⟨#[]⟩,.int .i64 0] 141))
       have HSa:=hid (HS2.out.below ((Below.refl w2.heap.size w2).alloc (Nat.le_refl _) (.cells #[.int .i64 0,.string ⟨#[]⟩,.int .i64 0] 141)))
       have HCa:=hid (HC.out.kept ((Below.refl w2.heap.size w2).alloc (Nat.le_refl _) (.cells #[.int .i64 0,.string ⟨#[]⟩,.int .i64 0] 141)))
       go_wp2_with (fail)
       refine (CI.out _ _ HSa.out HCa.out).mono ?_
       rintro e w4 ⟨ev',rfl,hC4,hb4⟩
       have HC4:=hid hC4
       obtain ⟨u4,x4,rfl⟩:=hC4.iface
       clear hC4
       go_wp2
       go_ret
       exact ⟨Or.inr ⟨HE.out,_,_,rfl,by omega,HC4.out⟩,(HT.out.trans hT3).trans (Turned.ofBelow hb4)⟩
     | some y =>
       obtain ⟨d,t⟩:=y
       rw [pDocs_step_ok hd] at HE
       have hd100:=pDoc_num hbf hd
       have C2:=hid (readDocument_ok HP.out HD.out (by omega) hs (by omega) bf hbf hd)
       clear hd
       go_wp2_with (first | (go_at_call 167;refine C2.out.mono ?_;rintro e w2 ⟨rfl,hP2,hT2⟩))
       have HPa:=hid (hP2.turned (Turned.ofAlloc (Z:=fun _=>False) w2 (.cells #[.int .i64 (d.1:Int),lstV d.2.1,.int .i64 (d.2.2:Int)] 141)) (fun e=>e))
       have HTa:=hid (hT2.trans (Turned.ofAlloc (Z:=fun i=>i=b) w2 (.cells #[.int .i64 (d.1:Int),lstV d.2.1,.int .i64 (d.2.2:Int)] 141)))
       have HDa:=hid (ownsRow_turned HD.out HTa.out (fun g hg e=>by have:=(HD.out.lt g hg).1;omega))
       have HN:=hid (heap_alloc_new w2 (.cells #[.int .i64 (d.1:Int),lstV d.2.1,.int .i64 (d.2.2:Int)] 141))
       have hgd:w2.heap.size < (w2.alloc (.cells #[.int .i64 (d.1:Int),lstV d.2.1,.int .i64 (d.2.2:Int)] 141)).heap.size:=by simp
       have hsz2:=hT2.size
       generalize w2.alloc (.cells #[.int .i64 (d.1:Int),lstV d.2.1,.int .i64 (d.2.2:Int)] 141)=W at *
       generalize w2.heap.size=gd at *
       clear hP2 hT2 C2
       have hgb:gd≠b:=by omega
       obtain ⟨n0,n1,n2,nf⟩:=cell_three HN.out
       clear nf
       have hbW:=HPa.out.lt
       obtain ⟨at_,hPc,_⟩:=HPa.out
       obtain ⟨c0,c1,c2,c3,cf⟩:=cell_par hPc
       obtain ⟨gD,capD,ao,hDe,_,_⟩:=ownsRow_shape HDa.out
       subst hDe
       have hne:(Value.slice ao ds.length capD).ownBlock≠some b:=fun e=>by
        obtain ⟨cu,bq⟩:=ownsRow_block HDa.out e
        exact tag_ne hPc bq (by decide) rfl
       have hneg:(Value.slice ao ds.length capD).ownBlock≠some gd:=fun e=>by
        have:=(HD.out.lt gd e).2
        omega
       have f2:=cf 2
       have d2':∀ n' o,((W.drewN n').alloc o).cell? ⟨b,2,none⟩=some (.slice ao ds.length capD):=fun n' o=>by rw [World.cell?_of_block (Below.heap_alloc _ _ _ hbW)];exact c2
       have f2':∀ n' o,((W.drewN n').alloc o).frozen? ⟨b,2,none⟩=false:=fun n' o=>by rw [World.frozen?_of_block (Below.heap_alloc _ _ _ hbW)];exact f2
       clear hPc cf
       go_region_law
        ((refine step_append_lies _ (by rfl) _ _ _ (by rfl) w.heap.size 141 i137 _ 3 32 Tryz.underlying82 hi1 ha0 ha1 ha2 rfl (by omega) (.slice ao ds.length capD) ds.length (docC ds) (by rfl) (by exact HDa.out.alloc _)
           ⟨W.heap.size,0,none⟩ 1 1 [natV d.1,lstV d.2.1,natV d.2.2] (by rfl) (by rfl) (World.news_of_block (cs:=#[natV d.1,lstV d.2.1,natV d.2.2]) (t:=141) (fr:=(0,0)) (heap_alloc_new W _)) (by simp [Value.oneCell'])
           (by omega) (by unfold maxLen;omega) (by omega) (by simp;omega) (W.heap.size+1) (by simp) ?_;intro gA capA w3 hownA hgrowA hatA hltA;have e0:=(hgrowA.cell_far ⟨b,2,none⟩ (by simp;omega) (Ne.symm hne)).trans (d2' _ _);have e1:=(hgrowA.frozen_far ⟨b,2,none⟩ (by simp;omega) (Ne.symm hne)).trans (f2' _ _)))
       all_goals
        have HPP:=par_push (w:=W.drewN 1) (d:=d) HPa.out HDa.out hgrowA hownA
        generalize w3.setCell ⟨b,2,none⟩ (Value.slice (some ⟨gA,0,none⟩) (ds.length+1) capA)=W3 at HPP ⊢
        have n3:W3.cell? ⟨gd,0,none⟩=some (.int .i64 (d.1:Int)):=by
         rw [World.cell?_of_block (HPP.2.2.block gd hgd (by rintro (e | e);exact hgb e;exact hneg e))]
         exact n0
        have HPQ:=hid HPP
        clear HPP
        go_wp2
        go_roundw
        case rel =>
         have hTW:=((Turned.refl (fun i=>i=b∨(Value.slice ao ds.length capD).ownBlock=some i) W).ofDrew 1).trans HPQ.out.2.2
         have hTT:Turned (fun i=>i=b) w W3:=Turned.over (Z':=fun i=>i=b∨(Value.slice ao ds.length capD).ownBlock=some i) (HT.out.trans HTa.out) hTW (by rintro j hj (e | e);exact e;have:=(HD.out.lt j e).1;omega)
         have hSS:Sent W3 A base:=(HSr.out.turned HTa.out (fun i hi e=>by omega)).turned (Z:=fun i=>i=b∨(Value.slice ao ds.length capD).ownBlock=some i) hTW (by rintro j hj (e | e);omega;have:=(HD.out.lt j e).1;omega)
         refine ⟨ds.length+1,d.1,ds++[d],t,_,by go_num,rfl,by omega,hd100,by simp,HPQ.out.1,HPQ.out.2.1,hTT,hSS,?_⟩
         show _=_
         rw [HE.out]
         simp
        case measure=>simp [intOf];omega
    ·have hlti:¬ ((ds.length:Int) < (n:Int)):=by omega
     have HE2:Hid (R=some (ds,r2)):=show _=_ by rw [HE.out,show n - ds.length=0 by omega,pDocs_end]
     go_wp2
     go_ret
     exact ⟨Or.inl ⟨⟨ds,r2,HE2.out,D,HP.out,HD.out⟩,rfl⟩,HT.out⟩
end Go.Proofs.YtaacjjhmojecnaaGreatDoor
namespace Go.Proofs.YtaacjjhmojecnaaGreatDoor
open Go.RowKit Go.ScT Go.Proofs
theorem chk_len (l:Bs):(chk l).length=4:=by unfold chk;rw [leB_len]
theorem ext_to (s:ByteArray) (a:Nat):(s.extract 0 a).data.toList=s.data.toList.take a:=by simp
def pChk (s:Bs) (r:Bs):Option Bs:=(pTake 4 r).bind fun c=>if c.1=chk (s.take (s.length - r.length)) then some c.2 else none
set_option maxHeartbeats 1000000 in
set_option maxRecDepth 1000000 in
theorem readCheck_any {w:World} {b base:Nat} {A:Nat→Addr} {s:ByteArray} {r:Bs} {D L:Value} (h:PAt w b s r D L) (hS:Sent w A base) (hb:base≤b) (hs:s.size≤60000) :
 Calls Tryz.prog 88 #[.pointer (some ⟨b,0,none⟩)] w fun e w'=>((∃ t,pChk s.data.toList r=some t∧e=.returned .nilIface∧PAt w' b s t D L)∨(pChk s.data.toList r=none∧∃ ev,e=.returned ev∧Chain w' A 0 ev))∧Turned (fun i=>i=b) w w':=by
 have hbl:=h.lt
 have hS0:=hid hS
 have h0:=hid h
 obtain ⟨at_,hh,ha,hr⟩:=h
 obtain ⟨c0,c1,c2,c3,cf⟩:=cell_par hh
 have hrl:r.length=s.size - at_:=by rw [← hr];simp
 have hal:s.data.toList.length - r.length=at_:=by rw [hrl];simp;omega
 have hx:(s.extract 0 at_).size≤100000000:=by simp;omega
 have C1:=hid (checkOf_any (s.extract 0 at_) w hx)
 have hct:(s.extract 0 at_).data.toList=s.data.toList.take (s.data.toList.length - r.length):=by rw [ext_to,hal]
 rw [hct] at C1
 have hcl:=chk_len (s.data.toList.take (s.data.toList.length - r.length))
 have HP:Hid (pChk s.data.toList r=(pTake 4 r).bind fun c=>if c.1=chk (s.data.toList.take (s.data.toList.length - r.length)) then some c.2 else none):=rfl
 clear hct hx hrl
 generalize chk (s.data.toList.take (s.data.toList.length - r.length))=q at C1 HP hcl
 clear hal hr
 cases h4:pTake 4 r with
 | none =>
   have HN:Hid (pChk s.data.toList r=none):=show _=_ by rw [HP.out,h4];rfl
   have C2:Hid (∀ (w1:World) (z:Int),z=4→Below w.heap.size w w1→Calls Tryz.prog 165 #[.pointer (some ⟨b,0,none⟩),.int .i64 z] w1 fun e w'=>∃ ev,e=.returned (.tuple #[lstV [],ev])∧Chain w' A 0 ev∧Turned (fun i=>i=b) w1 w'):=fun w1 z hz hb1=>by
    subst hz
    exact take_no w1 b base A s r D L (h0.out.turned (Z:=fun _=>False) (Turned.ofBelow hb1) (fun e=>e)) (hS0.out.below hb1) hs 4 h4
   have HQ:=hid hcl
   clear hh cf h4 HP hcl
   go_enter Tryz.func88,Tryz.ntmps88
   go_wp2_with (first | (go_at_call 170;refine C1.out.mono ?_;rintro e w1 ⟨rfl,hb1⟩;have d0:=(hb1.cell (p:=⟨b,0,none⟩) hbl).trans c0;have d1:=(hb1.cell (p:=⟨b,1,none⟩) hbl).trans c1) | (go_at_call 165;refine (C2.out _ _ (by have:=HQ.out;omega) hb1).mono ?_;rintro e w2 ⟨ev,rfl,hC,hT⟩;have HC:=hid hC;obtain ⟨u,x,rfl⟩:=hC.iface;clear hC))
   go_ret
   exact ⟨Or.inr ⟨HN.out,_,rfl,HC.out⟩,(Turned.ofBelow hb1).trans hT⟩
 | some p =>
   obtain ⟨x,t⟩:=p
   have C2:Hid (∀ (w1:World) (z:Int),z=4→Below w.heap.size w w1→Calls Tryz.prog 165 #[.pointer (some ⟨b,0,none⟩),.int .i64 z] w1 fun e w'=>e=.returned (.tuple #[lstV x,.nilIface])∧PAt w' b s t D L∧Turned (fun i=>i=b) w1 w'):=fun w1 z hz hb1=>by
    subst hz
    exact take_ok w1 b s r D L (h0.out.turned (Z:=fun _=>False) (Turned.ofBelow hb1) (fun e=>e)) hs 4 (by omega) x t h4
   have HQ:=hid hcl
   have H4:=hid h4
   clear hh cf h4 hcl
   by_cases hxq:x=q
   ·have HN:Hid (pChk s.data.toList r=some t):=show _=_ by rw [HP.out,H4.out];simp [hxq]
    have hxe:(x == q)=true:=by simp [hxq]
    clear H4 HP hxq
    go_enter Tryz.func88,Tryz.ntmps88
    go_wp2_with (first | (go_at_call 170;refine C1.out.mono ?_;rintro e w1 ⟨rfl,hb1⟩;have d0:=(hb1.cell (p:=⟨b,0,none⟩) hbl).trans c0;have d1:=(hb1.cell (p:=⟨b,1,none⟩) hbl).trans c1) | (go_at_call 165;refine (C2.out _ _ (by have:=HQ.out;omega) hb1).mono ?_;rintro e w2 ⟨rfl,hP,hT⟩))
    go_ret
    exact ⟨Or.inl ⟨t,HN.out,rfl,hP⟩,(Turned.ofBelow hb1).trans hT⟩
   ·have HN:Hid (pChk s.data.toList r=none):=show _=_ by rw [HP.out,H4.out];simp [hxq]
    have hxe:(x == q)=false:=by simp [hxq]
    clear H4 HP hxq
    go_enter Tryz.func88,Tryz.ntmps88
    go_wp2_with (first | (go_at_call 170;refine C1.out.mono ?_;rintro e w1 ⟨rfl,hb1⟩;have d0:=(hb1.cell (p:=⟨b,0,none⟩) hbl).trans c0;have d1:=(hb1.cell (p:=⟨b,1,none⟩) hbl).trans c1) | (go_at_call 165;refine (C2.out _ _ (by have:=HQ.out;omega) hb1).mono ?_;rintro e w2 ⟨rfl,hP,hT⟩;have g3:=((hS0.out.below hb1).turned hT (fun i hi e=>by omega)).cell 3 (by simp)))
    go_ret
    exact ⟨Or.inr ⟨HN.out,_,rfl,Chain.at_ (k:=3) (z:=at_) (heap_alloc_new _ _) (by simp) (by decide)⟩,((Turned.ofBelow hb1).trans hT).trans (Turned.ofAlloc _ _)⟩
set_option maxHeartbeats 1000000 in
set_option maxRecDepth 1000000 in
theorem readEnd_any {w:World} {b base:Nat} {A:Nat→Addr} {s:ByteArray} {r:Bs} {D L:Value} (h:PAt w b s r D L) (hS:Sent w A base) :
 Calls Tryz.prog 89 #[.pointer (some ⟨b,0,none⟩)] w fun e w'=>((r=[]∧e=.returned .nilIface∧PAt w' b s r D L)∨(r≠[]∧∃ ev,e=.returned ev∧Chain w' A 0 ev))∧Turned (fun i=>i=b) w w':=by
 have hbl:=h.lt
 have h0:=hid h
 obtain ⟨at_,hh,ha,hr⟩:=h
 obtain ⟨c0,c1,c2,c3,cf⟩:=cell_par hh
 have hrl:r.length=s.size - at_:=by rw [← hr];simp
 have g4:=hS.cell 4 (by simp)
 clear hh cf hr hS
 by_cases hlt:at_ < s.size
 ·have HN:Hid (r≠[]):=show _≠_ by intro e;rw [e] at hrl;simp at hrl;omega
  have hlti:(at_:Int) < (s.size:Int):=by omega
  clear hrl
  go_enter Tryz.func89,Tryz.ntmps89
  go_wp2_with (fail)
  go_quiet (fail)
  go_wp2_with (fail)
  go_region
  go_wp2
  go_ret
  refine ⟨Or.inr ⟨HN.out,_,rfl,Chain.at_ (k:=4) (z:=at_) ?_ (by simp) (by decide)⟩,?_⟩
  ·exact heap_alloc_new _ _
  ·exact ((Turned.refl _ w).ofDrew _).trans (Turned.ofAlloc _ _)
 ·have HN:Hid (r=[]):=show _=_ by apply List.eq_nil_of_length_eq_zero;omega
  have hlti:¬ ((at_:Int) < (s.size:Int)):=by omega
  clear hrl
  go_enter Tryz.func89,Tryz.ntmps89
  go_wp2_with (fail)
  go_quiet (fail)
  go_wp2
  go_ret
  exact ⟨Or.inl ⟨HN.out,rfl,h0.out.turned (Z:=fun _=>False) ((Turned.refl _ w).ofDrew _) (fun e=>e)⟩,(Turned.refl _ w).ofDrew _⟩
set_option maxHeartbeats 1000000 in
set_option maxRecDepth 1000000 in
theorem isToken_any (t:Bs) (w:World) (ht:t.length≤1000):Calls Tryz.prog 278 #[lstV t] w fun e w'=>e=.returned (.bool (isTok t))∧Below w.heap.size w w':=by
 have CS:=split_any ⟨t.toArray⟩ w (by show t.toArray.size≤1000000;simp;omega)
 have e0:(⟨t.toArray⟩:ByteArray).data.toList=t:=by simp
 rw [e0] at CS
 obtain ⟨T,hT⟩:∃ T,toks t=T:=⟨_,rfl⟩
 have HI:Hid (isTok t=(T == [t])):=show _=_ by rw [← hT];rfl
 have hTl:T.length≤1001:=by rw [← hT];have:=toks_len_le t;omega
 rw [hT] at CS
 clear hT e0
 go_enter Tryz.func278,Tryz.ntmps278
 match T,hTl with
 | [],_ =>
   have HF:Hid (isTok t=false):=show _=_ by rw [HI.out];rfl
   go_wp2_with (go_at_call 54;refine CS.mono ?_;rintro e w1 ⟨v,rfl,hown,hb1⟩;obtain ⟨g,cap,ao,hve,_,_⟩:=ownsRow_shape hown;rw [hve];clear hown hve)
   go_ret
   rw [HF.out]
   exact ⟨rfl,hb1⟩
 | [x],_ =>
   by_cases hx:x=t
   ·subst hx
    have HF:Hid (isTok x=true):=show _=_ by rw [HI.out];simp
    go_wp2_with (go_at_call 54;refine CS.mono ?_;rintro e w1 ⟨v,rfl,hown,hb1⟩;obtain ⟨g,cap,ao,hve,_,hao⟩:=ownsRow_shape hown;have hao1:=hao (by simp);subst hao1;rw [hve] at hown;have hc:w1.cell? ⟨g,0,none⟩=some (lstV x):=by { rw [hown.cellAt 0 (by simp)];rfl };have hve1:v=.slice (some ⟨g,0,none⟩) 1 cap:=hve;rw [hve1];clear hown hve hve1)
    go_ret
    rw [HF.out]
    exact ⟨rfl,hb1⟩
   ·have hne:(x == t)=false:=beq_eq_false_iff_ne.2 hx
    have HF:Hid (isTok t=false):=show _=_ by rw [HI.out];simp [hx]
    go_wp2_with (go_at_call 54;refine CS.mono ?_;rintro e w1 ⟨v,rfl,hown,hb1⟩;obtain ⟨g,cap,ao,hve,_,hao⟩:=ownsRow_shape hown;have hao1:=hao (by simp);subst hao1;rw [hve] at hown;have hc:w1.cell? ⟨g,0,none⟩=some (lstV x):=by { rw [hown.cellAt 0 (by simp)];rfl };have hve1:v=.slice (some ⟨g,0,none⟩) 1 cap:=hve;rw [hve1];clear hown hve hve1)
    go_ret
    rw [HF.out]
    exact ⟨rfl,hb1⟩
 | x :: y :: r,_ =>
   have HF:Hid (isTok t=false):=show _=_ by rw [HI.out];simp
   have hl2:(((x :: y :: r).length:Int) == 1)=false:=by simp;omega
   generalize hL:(x :: y :: r).length=L at *
   go_wp2_with (go_at_call 54;refine CS.mono ?_;rintro e w1 ⟨v,rfl,hown,hb1⟩;obtain ⟨g,cap,ao,hve,_,_⟩:=ownsRow_shape hown;rw [hve];clear hown hve)
   go_ret
   rw [HF.out]
   exact ⟨rfl,hb1⟩
set_option maxHeartbeats 1000000 in
set_option maxRecDepth 1000000 in
theorem readToken_ok {w:World} {b:Nat} {s:ByteArray} {r k t bf:Bs} {D L:Value} (h:PAt w b s r D L) (hs:s.size≤60000) (hp:pTok bf r=some (k,t)) :
 Calls Tryz.prog 237 #[.pointer (some ⟨b,0,none⟩),lstV bf] w fun e w'=>e=.returned (.tuple #[lstV k,.nilIface])∧PAt w' b s t D L∧Turned (fun i=>i=b) w w':=by
 unfold pTok at hp
 obtain ⟨⟨k1,t1⟩,hn,hp⟩:=Option.bind_eq_some_iff.1 hp
 split at hp
 ·rename_i hk
  cases hp
  obtain ⟨h1,h2⟩:=hk
  have C:=hid (name_ok h hs hn)
  have hkl:k.length≤1000:=by have:=(pName_iff.1 hn).2;omega
  have C2:=hid (fun w'=>isToken_any k w' hkl)
  simp only at h1 h2
  rw [h1] at C2
  have h3:Op.bytesLess k bf=false:=by rw [less_eq];exact ltB_asymm h2
  have h4:(k == bf)=false:=beq_eq_false_iff_ne.2 fun e=>by rw [e,ltB_irrefl] at h2;cases h2
  obtain ⟨at_,h',_⟩:=h
  obtain ⟨c0,c1,c2,c3,cf⟩:=cell_par h'
  clear h' cf hn h1 h2
  go_enter Tryz.func237,Tryz.ntmps237
  go_wp2_with (first
   | (go_at_call 276;refine C.out.mono ?_;rintro e w1 ⟨rfl,hP,hT⟩)
   | (go_at_call 278;refine (C2.out _).mono ?_;rintro e w2 ⟨rfl,hb2⟩;have hP2:=hP.turned (Turned.ofBelow (Z:=fun _=>False) hb2) (fun e=>e)))
  go_ret2
  exact ⟨rfl,hP2,hT.trans (Turned.ofBelow hb2)⟩
 ·cases hp
set_option maxHeartbeats 1000000 in
set_option maxRecDepth 1000000 in
theorem readToken_e0 {w:World} {b base:Nat} {A:Nat→Addr} {s:ByteArray} {r bf:Bs} {D L:Value} (h:PAt w b s r D L) (hS:Sent w A base) (hb:base≤b) (hs:s.size≤60000) (hp:pName r=none) :
 Calls Tryz.prog 237 #[.pointer (some ⟨b,0,none⟩),lstV bf] w fun e w'=>∃ ev,e=.returned (.tuple #[lstV [],ev])∧Chain w' A 0 ev∧Turned (fun i=>i=b) w w':=by
 have C:=hid (name_no h hS hb hs hp)
 obtain ⟨at_,h',_⟩:=h
 obtain ⟨c0,c1,c2,c3,cf⟩:=cell_par h'
 clear h' cf hp hS
 go_enter Tryz.func237,Tryz.ntmps237
 go_wp2_with (fail)
 refine C.out.mono ?_
 rintro e w1 ⟨ev,rfl,hC,hT⟩
 have HC:=hid hC
 obtain ⟨u,x,rfl⟩:=hC.iface
 clear hC
 go_wp2
 go_ret2
 exact ⟨_,rfl,HC.out,hT⟩
set_option maxHeartbeats 1000000 in
set_option maxRecDepth 1000000 in
theorem readToken_e1 {w:World} {b base:Nat} {A:Nat→Addr} {s:ByteArray} {r k t bf:Bs} {D L:Value} (h:PAt w b s r D L) (hS:Sent w A base) (hb:base≤b) (hs:s.size≤60000) (hp:pName r=some (k,t)) (h1:¬ (isTok k=true∧ltB bf k=true)) :
 Calls Tryz.prog 237 #[.pointer (some ⟨b,0,none⟩),lstV bf] w fun e w'=>∃ ev,e=.returned (.tuple #[lstV [],ev])∧Chain w' A 0 ev∧Turned (fun i=>i=b) w w':=by
 have C:=hid (name_ok h hs hp)
 have hkl:k.length≤1000:=by have:=(pName_iff.1 hp).2;omega
 have C2:=hid (fun w'=>isToken_any k w' hkl)
 have HS:=hid hS
 obtain ⟨at_,h',_⟩:=h
 obtain ⟨c0,c1,c2,c3,cf⟩:=cell_par h'
 clear h' cf hp hS
 cases hk:isTok k with
 | false =>
   rw [hk] at C2
   clear h1 hk
   go_enter Tryz.func237,Tryz.ntmps237
   go_wp2_with (first
    | (go_at_call 276;refine C.out.mono ?_;rintro e w1 ⟨rfl,hP,hT⟩)
    | (go_at_call 278;refine (C2.out _).mono ?_;rintro e w2 ⟨rfl,hb2⟩;have hS2:=(HS.out.turned hT (fun i hi e=>by omega)).below hb2;have g8:=hS2.cell 8 (by simp);clear hS2))
   go_region
   go_wp2
   go_ret2
   exact ⟨_,rfl,Chain.at_ (k:=8) (z:=at_) (heap_alloc_new _ _) (by simp) (by decide),(((hT.trans (Turned.ofBelow hb2)).ofDrew _).trans (Turned.ofAlloc _ _))⟩
 | true =>
   rw [hk] at C2
   have hor:Op.bytesLess k bf=true∨Op.bytesLess k bf=false∧(k == bf)=true:=by
    rw [less_eq]
    cases hl:ltB k bf with
    | true=>exact Or.inl rfl
    | false =>
      by_cases he:k=bf
      ·exact Or.inr ⟨rfl,by simp [he]⟩
      ·exact absurd ⟨hk,ltB_total he hl⟩ h1
   clear h1 hk
   rcases hor with h3 | ⟨h3,h4⟩
   ·go_enter Tryz.func237,Tryz.ntmps237
    go_wp2_with (first
     | (go_at_call 276;refine C.out.mono ?_;rintro e w1 ⟨rfl,hP,hT⟩)
     | (go_at_call 278;refine (C2.out _).mono ?_;rintro e w2 ⟨rfl,hb2⟩;have hS2:=(HS.out.turned hT (fun i hi e=>by omega)).below hb2;have g8:=hS2.cell 8 (by simp);clear hS2))
    go_region
    go_wp2
    go_ret2
    exact ⟨_,rfl,Chain.at_ (k:=8) (z:=at_) (heap_alloc_new _ _) (by simp) (by decide),(((hT.trans (Turned.ofBelow hb2)).ofDrew _).trans (Turned.ofAlloc _ _))⟩
   ·go_enter Tryz.func237,Tryz.ntmps237
    go_wp2_with (first
     | (go_at_call 276;refine C.out.mono ?_;rintro e w1 ⟨rfl,hP,hT⟩)
     | (go_at_call 278;refine (C2.out _).mono ?_;rintro e w2 ⟨rfl,hb2⟩;have hS2:=(HS.out.turned hT (fun i hi e=>by omega)).below hb2;have g8:=hS2.cell 8 (by simp);clear hS2))
    go_region
    go_wp2
    go_ret2
    exact ⟨_,rfl,Chain.at_ (k:=8) (z:=at_) (heap_alloc_new _ _) (by simp) (by decide),(((hT.trans (Turned.ofBelow hb2)).ofDrew _).trans (Turned.ofAlloc _ _))⟩
theorem readToken_no {w:World} {b base:Nat} {A:Nat→Addr} {s:ByteArray} {r bf:Bs} {D L:Value} (h:PAt w b s r D L) (hS:Sent w A base) (hb:base≤b) (hs:s.size≤60000) (hp:pTok bf r=none) :
 Calls Tryz.prog 237 #[.pointer (some ⟨b,0,none⟩),lstV bf] w fun e w'=>∃ ev,e=.returned (.tuple #[lstV [],ev])∧Chain w' A 0 ev∧Turned (fun i=>i=b) w w':=by
 cases hn:pName r with
 | none=>exact readToken_e0 h hS hb hs hn
 | some p =>
   refine readToken_e1 h hS hb hs (k:=p.1) (t:=p.2) hn fun hk=>?_
   simp [pTok,hn,hk] at hp
structure TwoRows (w:World) (base:Nat) (v u:Value) (ss rr:List Nat):Prop where
 one:w.ownsRow base 3 1 v ss.length (ss.map natV)
 two:w.ownsRow base 3 1 u rr.length (rr.map natV)
 apart:∀ g,v.ownBlock=some g→u.ownBlock≠some g
theorem TwoRows.symm {w:World} {base:Nat} {v u:Value} {ss rr:List Nat} (h:TwoRows w base v u ss rr):TwoRows w base u v rr ss:=⟨h.two,h.one,fun g h1 h2=>h.apart g h2 h1⟩
theorem TwoRows.turned {w w':World} {Z:Nat→Prop} {base:Nat} {v u:Value} {ss rr:List Nat} (h:TwoRows w base v u ss rr) (ht:Turned Z w w') (hz:∀ g,base≤g→¬ Z g):TwoRows w' base v u ss rr :=
 ⟨ownsRow_turned h.one ht (fun g hg=>hz g (h.one.lt g hg).1),ownsRow_turned h.two ht (fun g hg=>hz g (h.two.lt g hg).1),h.apart⟩
theorem TwoRows.push {w w5:World} {base gA cA m:Nat} {o:Obj} {v u:Value} {ss rr:List Nat} (h:TwoRows w base v u ss rr) (hg:(w.alloc o).grownBy w5 v.ownBlock)
 (hown:w5.ownsRow base 3 1 (.slice (some ⟨gA,0,none⟩) (ss.length+1) cA) (ss.length+1) (ss.map natV++[natV m])) (hat:v.ownBlock=some gA∨gA=w.heap.size+1) :
 TwoRows w5 base (.slice (some ⟨gA,0,none⟩) (ss.length+1) cA) u (ss++[m]) rr:=by
 have hT:Turned (fun i=>v.ownBlock=some i) w w5:=(Turned.ofAlloc w o).trans (Turned.ofGrown hg (fun j hj _=>hj))
 refine ⟨by simpa using hown,ownsRow_turned h.two hT (fun g hg e=>h.apart g e hg),?_⟩
 rintro g h1 h2
 have hgA:gA=g:=by simpa [Value.ownBlock] using h1
 subst hgA
 rcases hat with e | e
 ·exact h.apart gA e h2
 ·have:=(h.two.lt gA h2).2
  omega
theorem TwoRows.turns {w w5:World} {base:Nat} {o:Obj} {v u:Value} {ss rr:List Nat} (h:TwoRows w base v u ss rr) (hg:(w.alloc o).grownBy w5 v.ownBlock):Turned (fun i=>base≤i) w w5 :=
 (Turned.ofAlloc w o).trans (Turned.ofGrown hg (fun j hj _=>(h.one.lt j hj).1))
def joinP (a b:List Nat) (x:Option ((List Nat × List Nat) × Bs)):Option ((List Nat × List Nat) × Bs):=x.map fun y=>((a++y.1.1,b++y.1.2),y.2)
theorem pPairs_no1 {k:Nat} {a b:List Nat} {r:Bs} (h:pNum 0 99 r=none):joinP a b (pPairs (k+1) r)=none:=by simp [pPairs,h,joinP]
theorem pPairs_no2 {k m:Nat} {a b:List Nat} {r t:Bs} (h:pNum 0 99 r=some (m,t)) (h2:pNum 0 39 t=none):joinP a b (pPairs (k+1) r)=none:=by simp [pPairs,h,h2,joinP]
theorem pPairs_go {k m q:Nat} {a b:List Nat} {r t u:Bs} (h:pNum 0 99 r=some (m,t)) (h2:pNum 0 39 t=some (q,u)):joinP a b (pPairs (k+1) r)=joinP (a++[m]) (b++[q]) (pPairs k u):=by
 simp only [pPairs,h,h2,Option.bind_some,joinP]
 cases pPairs k u <;> simp
theorem pPairs_end {a b:List Nat} {r:Bs}:joinP a b (pPairs 0 r)=some ((a,b),r):=by simp [pPairs,joinP]
theorem pPairs_in {n:Nat} {r:Bs}:pPairs n r=joinP [] [] (pPairs n r):=by simp only [joinP];cases pPairs n r <;> simp
set_option maxHeartbeats 1000000 in
set_option maxRecDepth 1000000 in
theorem readPairs_any {w:World} {b base n:Nat} {A:Nat→Addr} {s:ByteArray} {r:Bs} {D L:Value} (h:PAt w b s r D L) (hS:Sent w A base) (hb:base≤b) (hs:s.size≤60000) (hn:n≤4) :
 Calls Tryz.prog 317 #[.pointer (some ⟨b,0,none⟩),.int .i64 (n:Int)] w fun e w'=>((∃ ss rr t v u,pPairs n r=some ((ss,rr),t)∧e=.returned (.tuple #[v,u,.nilIface])∧PAt w' b s t D L∧TwoRows w' w.heap.size v u ss rr)∨(pPairs n r=none∧∃ ev,e=.returned (.tuple #[.slice none 0 0,.slice none 0 0,ev])∧Chain w' A 0 ev))∧Turned (fun i=>i=b) w w':=by
 have hi3':(Tryz.prog.info? 3).map (fun i=>(i.zero,i.size,i.bytes))=some (some (.int .i64 0),1,8):=by kernel_rfl
 obtain ⟨i3,hi3,hy0,hy1,hy2⟩:=info_parts hi3'
 clear hi3'
 have hbl:=h.lt
 obtain ⟨R,hR⟩:∃ R,R=pPairs n r:=⟨_,rfl⟩
 have HR:Hid (R=joinP [] [] (pPairs (n - 0) r)):=show _=_ by rw [hR];exact pPairs_in
 rw [← hR]
 clear hR
 have HP0:=hid h
 have HS0:=hid hS
 clear h hS
 go_enter Tryz.func317,Tryz.ntmps317
 go_wp2_with (fail)
 go_loopw [4,5,11] (fun s4 s5 s11 wr=>∃ (ss rr:List Nat) (r2:Bs),s11=.int .i64 (ss.length:Int)∧ss.length≤n∧Hid (rr.length=ss.length)∧Hid (PAt wr b s r2 D L)∧Hid (TwoRows wr w.heap.size s4 s5 ss rr)∧Hid (Turned (fun i=>i=b) w wr)∧Hid (Sent wr A base)∧Hid (R=joinP ss rr (pPairs (n - ss.length) r2))) (fun _ _ s11 _=>n - (intOf s11).toNat)
 case atStart=>exact ⟨[],[],r,rfl,by simp,rfl,HP0,hid ⟨⟨rfl,Or.inl ⟨rfl,rfl⟩⟩,⟨rfl,Or.inl ⟨rfl,rfl⟩⟩,fun g h1=>by simp [Value.ownBlock] at h1⟩,Turned.refl _ _,HS0,HR⟩
 case round =>
  obtain ⟨ss,rr,r2,rfl,hi,HRL,HP,HO,HT,HSr,HE⟩:=hrel
  have hsz:=HT.out.size
  by_cases hlt:ss.length < n
  ·have hlti:(ss.length:Int) < (n:Int):=by omega
   have hk:n - ss.length=(n - (ss.length+1))+1:=by omega
   rw [hk] at HE
   clear hk
   cases h1:pNum 0 99 r2 with
   | none =>
     rw [pPairs_no1 h1] at HE
     have C1:=hid (number_noz 0 99 rfl rfl HP.out HSr.out hb hs h1)
     clear h1
     go_wp2_with (fail)
     refine C1.out.mono ?_
     rintro e w1 ⟨ev,rfl,hC,hT1⟩
     have HC:=hid hC
     obtain ⟨u,x,rfl⟩:=hC.iface
     clear hC
     go_wp2
     go_ret3
     exact ⟨Or.inr ⟨HE.out,_,rfl,HC.out⟩,HT.out.trans hT1⟩
   | some y =>
     obtain ⟨m,t⟩:=y
     have C1:=hid (number_okz 0 99 rfl rfl HP.out hs h1)
     cases h2:pNum 0 39 t with
     | none =>
       rw [pPairs_no2 h1 h2] at HE
       have H2:=hid h2
       clear h1 h2
       go_wp2_with (fail)
       refine C1.out.mono ?_
       rintro e w1 ⟨rfl,hP1,hT1⟩
       have C2:=hid (number_noz 0 39 rfl rfl hP1 (HSr.out.turned hT1 (fun i hi e=>by omega)) hb hs H2.out)
       go_wp2_with (fail)
       refine C2.out.mono ?_
       rintro e w2 ⟨ev,rfl,hC,hT2⟩
       have HC:=hid hC
       obtain ⟨u,x,rfl⟩:=hC.iface
       clear hC
       go_wp2
       go_ret3
       exact ⟨Or.inr ⟨HE.out,_,rfl,HC.out⟩,(HT.out.trans hT1).trans hT2⟩
     | some y =>
       obtain ⟨q,t2⟩:=y
       rw [pPairs_go h1 h2] at HE
       have H2:=hid h2
       clear h1 h2
       go_wp2_with (fail)
       refine C1.out.mono ?_
       rintro e w1 ⟨rfl,hP1,hT1⟩
       have C2:=hid (number_okz 0 39 rfl rfl hP1 hs H2.out)
       go_wp2_with (fail)
       refine C2.out.mono ?_
       rintro e w2 ⟨rfl,hP2,hT2⟩
       have HT2:=hid (hT1.trans hT2)
       have HP2:=hid hP2
       have HO2:=hid (HO.out.turned HT2.out (fun g hg e=>by omega))
       have hsz2:=HT2.out.size
       clear hP1 hP2 hT1 hT2 C1 C2
       go_wp2_with (first
        | (at_builtin;refine wpList_append_lies _ rfl _ _ 35 rfl w.heap.size 3 i3 (.int .i64 0) 1 8 Tryz.underlying35 hi3 hy0 hy1 hy2 rfl (by decide) _ _ _ rfl (HO2.out.one.alloc _) ⟨w2.heap.size,0,none⟩ 1 1 [natV m] rfl rfl (cell_one_new _ _ _) (fun x hx=>by simp at hx;subst hx;rfl) (by omega) (by unfold maxLen;omega) (by omega) (by simp;omega) (w2.heap.size+1) (by simp) ?_;intro gA capA w5 hownA hgrowA hatA hltA;have HO5:=hid (HO2.out.push hgrowA hownA hatA);have HT5:=hid (HO2.out.turns hgrowA);have hsz5:=HT5.out.size;clear hownA hgrowA hatA hltA)
        | (at_builtin;refine wpList_append_lies _ rfl _ _ 35 rfl w.heap.size 3 i3 (.int .i64 0) 1 8 Tryz.underlying35 hi3 hy0 hy1 hy2 rfl (by decide) _ _ _ rfl (HO5.out.two.alloc _) ⟨w5.heap.size,0,none⟩ 1 1 [natV q] rfl rfl (cell_one_new _ _ _) (fun x hx=>by simp at hx;subst hx;rfl) (by omega) (by have:=HRL.out;unfold maxLen;omega) (by have:=HRL.out;omega) (by simp;omega) (w5.heap.size+1) (by simp) ?_;intro gB capB w6 hownB hgrowB hatB hltB;have HO6:=hid (HO5.out.symm.push hgrowB hownB hatB).symm;have HT6:=hid (HO5.out.symm.turns hgrowB)))
       go_roundw
       case rel =>
        have hTW:Turned (fun i=>w.heap.size≤i) w2 w6:=HT5.out.trans HT6.out
        refine ⟨ss++[m],rr++[q],t2,by simp,by simp;omega,?_,HP2.out.turned hTW (by omega),?_,Turned.over (HT.out.trans HT2.out) hTW (fun i hi e=>by omega),(HSr.out.turned HT2.out (fun i hi e=>by omega)).turned hTW (fun i hi e=>by omega),?_⟩
        ·have:=HRL.out
         show _=_
         simp [this]
        ·simpa using HO6
        ·show _=_
         rw [HE.out]
         simp
       case measure=>simp [intOf];omega
  ·have hlti:¬ ((ss.length:Int) < (n:Int)):=by omega
   have HE2:Hid (R=some ((ss,rr),r2)):=show _=_ by rw [HE.out,show n - ss.length=0 by omega,pPairs_end]
   go_wp2
   go_ret3
   exact ⟨Or.inl ⟨ss,rr,r2,HE2.out,_,_,rfl,HP.out,HO.out⟩,HT.out⟩
end Go.Proofs.YtaacjjhmojecnaaGreatDoor
