import Derived.Test.YtaacjjhmojecnaaGreatDoorQ40
import Derived.Test.YtaacjjhmojecnaaGreatDoorXKeys
import Derived.Test.YtaacjjhmojecnaaGreatDoorQ31
namespace Go.Proofs.YtaacjjhmojecnaaGreatDoor
open Go.RowKit Go.ScT Go.Proofs Go.Shelf
theorem keys_words {w:World} {mw nW:Nat} {D:DataW Unit} {β:BT} {l:List DocR} (hown:w.ownsMap Tryz.prog 9 sliceE mw nW D) (hr:WordsRel w D β (numsP l)):(wordsOf l).Perm (strKeys D)∧Maps.size D=(wordsOf l).length:=by
 obtain ⟨es,hD,hpw,_⟩:=hown.entries law9
 obtain ⟨es',hD',hko⟩:=hown.keysOf
 obtain rfl:es=es':=by rw [hD] at hD';simpa using hD'
 subst hD
 have hp:=perm_strKeys hpw (fun p hp=>by obtain ⟨v,hv⟩:=hko p hp;obtain ⟨x,_,hx,_⟩:=Maps.keyOf_str Tryz.underlying9 hv;exact ⟨x,hx⟩) (srt_nodup (wordsOf_srt l)) (fun x=>by rw [wordsOf_mem,hr.has x,numsP_ne])
 refine ⟨hp,?_⟩
 have:=hp.length_eq
 rw [this]
 simp [strKeys,Maps.size]
theorem wordsOf_len {l:List DocR} (h:Rise l):(wordsOf l).length≤4000:=by
 have h1:=foldl_plc_len (l.flatMap (·.2.2)) []
 have h2:=flatMap_len (l:=l) (k:=40) h.len
 have h3:=h.most
 unfold wordsOf
 rw [List.length_nil,Nat.add_zero] at h1
 omega
theorem LRow.shape {w:World} {base:Nat} {L:Value} {xs:List LstV} (h:LRow w base L xs):∃ ao c,L=.slice ao xs.length c:=by
 obtain ⟨_,c,ao,h1,_,_⟩:=ownsRow_shape h
 exact ⟨ao,c,h1⟩
theorem cont_push {w w3:World} {y base gA cA:Nat} {dv L:Value} {xs:List LstV} {x:LstV} {o:Obj} (hC:w.heap[y]?=some (.cells #[dv,L] 91 (0,0))) (hL:LRow w base L xs) (hg:(w.alloc o).grownBy w3 L.ownBlock)
 (hown:w3.ownsRow base 167 3 (.slice (some ⟨gA,0,none⟩) (xs.length+1) cA) (xs.length+1) (lsC xs++[lstV x.1.1,x.2.1,x.2.2])) :
 (w3.setCell ⟨y,1,none⟩ (.slice (some ⟨gA,0,none⟩) (xs.length+1) cA)).heap[y]?=some (.cells #[dv,.slice (some ⟨gA,0,none⟩) (xs.length+1) cA] 91 (0,0))∧LRow (w3.setCell ⟨y,1,none⟩ (.slice (some ⟨gA,0,none⟩) (xs.length+1) cA)) base (.slice (some ⟨gA,0,none⟩) (xs.length+1) cA) (xs++[x]) ∧
 Turned (fun i=>i=y∨L.ownBlock=some i) w (w3.setCell ⟨y,1,none⟩ (.slice (some ⟨gA,0,none⟩) (xs.length+1) cA)):=by
 have hlt:=lt_of_block hC
 have hvy:L.ownBlock≠some y:=fun e=>by
  obtain ⟨cu,bq⟩:=ownsRow_block hL e
  exact tag_ne hC bq (by decide) rfl
 have h3:w3.heap[y]?=some (.cells #[dv,L] 91 (0,0)):=by
  rw [hg.block y (by simp;omega) (fun e=>hvy e.symm),Below.heap_alloc _ _ _ hlt]
  exact hC
 refine ⟨heap_setCell_same w3 y 1 _ 91 _ h3,?_,?_⟩
 ·have h4:=ownsRow_setCell_other (a:=⟨y,1,none⟩) hown (fun e=>by
   obtain ⟨cu,bq⟩:=ownsRow_block hown e
   exact tag_ne h3 bq (by decide) rfl) (.slice (some ⟨gA,0,none⟩) (xs.length+1) cA)
  unfold LRow
  rw [lsC_app]
  simpa [lsC] using h4
 ·exact (((Turned.ofAlloc w o).trans (Turned.ofGrown hg (fun j hj _=>Or.inr hj))).trans (Turned.ofSet _ _ _ (Or.inl rfl)))
structure CInv (w:World) (l:List DocR) (dv sv:Value) (i:Nat) (W:World):Prop where
 ex:∃ xs L,xs.map (·.1)=((wordsOf l).take i).map (fun k=>(k,plsFrom 0 l k))∧W.heap[w.heap.size+1]?=some (.cells #[dv,L] 91 (0,0))∧LRow W w.heap.size L xs∧Named W w.heap.size (lensOf (docsP l)) xs
 res:W.heap[w.heap.size]?=some (.cells #[.slice none 0 0,.slice none 0 0] 91 (0,0))
 words:W.ownsRow w.heap.size 9 1 sv (wordsOf l).length ((wordsOf l).map strV)
 below:Below w.heap.size w W
theorem CInv.round {w W w2:World} {l:List DocR} {dv sv:Value} {i:Nat} {k:Bs} {vP vH:Value} {xs:List LstV} {ao:Option Addr} {c:Nat} (h:CInv w l dv sv i W) (hk:(wordsOf l)[i]?=some k) (hx:xs.map (·.1)=((wordsOf l).take i).map (fun k=>(k,plsFrom 0 l k))) (hC:W.heap[w.heap.size+1]?=some (.cells #[dv,.slice ao i c] 91 (0,0))) (hL:LRow W w.heap.size (.slice ao i c) xs) (hN:Named W w.heap.size (lensOf (docsP l)) xs) (hl:i≤4000) (hxl:xs.length=i)
 (hb:Below W.heap.size W w2) (hP:PRow w2 W.heap.size vP (plsFrom 0 l k)) (hH:HRow w2 W.heap.size vH (hdsOf (lensOf (docsP l)) (plsFrom 0 l k))) :
 w2.cell? ⟨w.heap.size+1,1,none⟩=some (.slice ao i c)∧(∀ o,(w2.alloc o).cell? ⟨w.heap.size+1,1,none⟩=some (.slice ao i c))∧w2.ownsRow w.heap.size 167 3 (.slice ao i c) i (lsC xs) ∧
 ∀ gA cA w3,(w2.alloc (.cells #[lstV k,vP,vH] 167)).grownBy w3 (Value.slice ao i c).ownBlock→w3.ownsRow w.heap.size 167 3 (.slice (some ⟨gA,0,none⟩) (i+1) cA) (i+1) (lsC xs++[lstV k,vP,vH])→w3.cell? ⟨w.heap.size+1,1,none⟩=some (.slice ao i c)∧w3.frozen? ⟨w.heap.size+1,1,none⟩=false∧CInv w l dv sv (i+1) (w3.setCell ⟨w.heap.size+1,1,none⟩ (.slice (some ⟨gA,0,none⟩) (i+1) cA)):=by
 subst hxl
 have hs:=h.below.size
 have hs2:=hb.size
 have hC2:w2.heap[w.heap.size+1]?=some (.cells #[dv,.slice ao xs.length c] 91 (0,0)):=(hb.block _ (lt_of_block hC)).trans hC
 have hL2:LRow w2 w.heap.size (.slice ao xs.length c) xs:=ownsRow_turned hL (Turned.ofBelow (Z:=fun _=>False) hb) (fun _ _ h=>h)
 have hN2:Named w2 w.heap.size (lensOf (docsP l)) xs:=hN.turned (Turned.ofBelow (Z:=fun _=>False) hb) (fun _ _ _ _ _ _ _ h=>h)
 refine ⟨(cell_two_any hC2).2,fun o=>(World.cell?_of_block (Below.heap_alloc _ _ _ (lt_of_block hC2))).trans (cell_two_any hC2).2,hL2,fun gA cA w3 hg hown=>?_⟩
 have hvy:(Value.slice ao xs.length c).ownBlock≠some (w.heap.size+1):=fun e=>by
  obtain ⟨cu,bq⟩:=ownsRow_block hL2 e
  exact tag_ne hC2 bq (by decide) rfl
 have h3:w3.heap[w.heap.size+1]?=some (.cells #[dv,.slice ao xs.length c] 91 (0,0)):=by
  rw [hg.block _ (by have:=lt_of_block hC2;simp;omega) (fun e=>hvy e.symm),Below.heap_alloc _ _ _ (lt_of_block hC2)]
  exact hC2
 obtain ⟨q1,q2,q3⟩:=cont_push (x:=((k,plsFrom 0 l k),vP,vH)) hC2 hL2 hg hown
 have T:Turned (fun i=>i=w.heap.size+1∨(Value.slice ao xs.length c).ownBlock=some i) W (w3.setCell ⟨w.heap.size+1,1,none⟩ (.slice (some ⟨gA,0,none⟩) (xs.length+1) cA)):=(Turned.ofBelow hb).trans q3
 have hz:∀ w':World,(∀ g,(g=w.heap.size+1∨(Value.slice ao xs.length c).ownBlock=some g)→∃ cs t,w'.heap[g]?=some (.cells cs t (0,0))∧(t=91∨t=167))→∀ g cs t f,w'.heap[g]?=some (.cells cs t f)→t=169∨t=295∨t=9→¬ (g=w.heap.size+1∨(Value.slice ao xs.length c).ownBlock=some g):=fun w' hw' g cs t f hg ht hgz=>by
  obtain ⟨cs',t',h1,h2⟩:=hw' g hgz
  rw [hg] at h1
  cases h1
  rcases ht with rfl | rfl | rfl <;> rcases h2 with h2 | h2 <;> cases h2
 have zW:∀ g,(g=w.heap.size+1∨(Value.slice ao xs.length c).ownBlock=some g)→∃ cs t,W.heap[g]?=some (.cells cs t (0,0))∧(t=91∨t=167):=by
  rintro g (rfl | hg)
  ·exact ⟨_,_,hC,Or.inl rfl⟩
  ·obtain ⟨cu,bq⟩:=ownsRow_block hL hg
   exact ⟨_,_,bq,Or.inr rfl⟩
 have z2:∀ g,(g=w.heap.size+1∨(Value.slice ao xs.length c).ownBlock=some g)→∃ cs t,w2.heap[g]?=some (.cells cs t (0,0))∧(t=91∨t=167):=by
  rintro g (rfl | hg)
  ·exact ⟨_,_,hC2,Or.inl rfl⟩
  ·obtain ⟨cu,bq⟩:=ownsRow_block hL2 hg
   exact ⟨_,_,bq,Or.inr rfl⟩
 refine ⟨(cell_two_any h3).2,by simp [World.frozen?,h3],⟨⟨xs++[((k,plsFrom 0 l k),vP,vH)],_,?_,q1,q2,?_⟩,?_,?_,?_⟩⟩
 ·rw [List.map_append,hx,List.take_add_one,hk]
  simp
 ·intro x hx'
  rcases List.mem_append.1 hx' with hx' | hx'
  ·exact (hN2.turned q3 (fun g cs t f _ hg ht=>hz w2 z2 g cs t f hg (by rcases ht with ht | ht;exact Or.inl ht;exact Or.inr (Or.inl ht)))) x hx'
  ·simp at hx'
   subst hx'
   exact ⟨(ownsRow_turned hP q3 (fun g hg=>by obtain ⟨cu,bq⟩:=ownsRow_block hP hg;exact hz w2 z2 g _ _ _ bq (Or.inl rfl))).mono hs,(ownsRow_turned hH q3 (fun g hg=>by obtain ⟨cu,bq⟩:=ownsRow_block hH hg;exact hz w2 z2 g _ _ _ bq (Or.inr (Or.inl rfl)))).mono hs⟩
 ·rw [T.block _ (lt_of_block h.res) (by
   rintro (e | e)
   ·omega
   ·obtain ⟨cu,bq⟩:=ownsRow_block hL e
    exact tag_ne h.res bq (by decide) rfl)]
  exact h.res
 ·exact ownsRow_turned h.words T (fun g hg=>by obtain ⟨cu,bq⟩:=ownsRow_block h.words hg;exact hz W zW g _ _ _ bq (Or.inr (Or.inr rfl)))
 ·refine below_turned h.below T hs ?_
  rintro j hj (e | e)
  ·omega
  ·have:=(hL.lt j e).1;omega
set_option maxHeartbeats 4000000 in
set_option maxRecDepth 1000000 in
theorem content_any {w:World} {b o mw:Nat} {dv:Value} {l:List DocR} {β:BT} {nW:Nat} {DW:DataW Unit} (hB:BSee w b o mw dv l β nW DW) (hr:Rise l) :
 Calls Tryz.prog 93 #[.pointer (some ⟨b,o,none⟩)] w fun e w'=>∃ L,e=.returned (.agg #[dv,L])∧ListsAt w' w.heap.size (lensOf (docsP l)) L (listsP l)∧Below w.heap.size w w':=by
 obtain ⟨i167,hi1,ha0,ha1,ha2⟩:=info_parts info167
 obtain ⟨hperm,hsize⟩:=keys_words hB.words hB.rel
 have hwl:=wordsOf_len hr
 have hle:=strKeys_le hB.words Tryz.underlying9
 obtain ⟨gD,cD,aoD,rfl,_,_⟩:=ownsRow_shape hB.docs
 obtain ⟨n,hn⟩:∃ n,n=(docsP l).length:=⟨_,rfl⟩
 rw [← hn] at hB ⊢
 have hb2:Below w.heap.size w ((w.alloc (.cells #[.slice none 0 0,.slice none 0 0] 91)).alloc (.cells #[.slice aoD n cD,.slice none 0 0] 91)):=((Below.refl _ w).alloc (Nat.le_refl _) _).alloc (by simp) _
 have n0:((w.alloc (.cells #[.slice none 0 0,.slice none 0 0] 91)).alloc (.cells #[.slice aoD n cD,.slice none 0 0] 91)).heap[w.heap.size]?=some (.cells #[.slice none 0 0,.slice none 0 0] 91 (0,0)):=(Below.heap_alloc _ _ _ (by simp)).trans (heap_alloc_new w _)
 have n1:((w.alloc (.cells #[.slice none 0 0,.slice none 0 0] 91)).alloc (.cells #[.slice aoD n cD,.slice none 0 0] 91)).heap[w.heap.size+1]?=some (.cells #[.slice aoD n cD,.slice none 0 0] 91 (0,0)):=by
  have:=heap_alloc_new (w.alloc (.cells #[.slice none 0 0,.slice none 0 0] 91)) (.cells #[.slice aoD n cD,.slice none 0 0] 91)
  rwa [World.size_alloc] at this
 have hB1:=hB.below ((Below.refl _ w).alloc (Nat.le_refl _) (.cells #[.slice none 0 0,.slice none 0 0] 91))
 have hB2:=hB.below hb2
 have CS:=hid (sorted_any hB2.words (by omega))
 have CL:=hid (fun W (hW:Below w.heap.size w W) (k:Bs) (hk:k∈wordsOf l)=>list_any (hB.below hW) hr (numsP_ne.2 (wordsOf_mem.1 hk)) (hle k (hperm.mem_iff.1 hk)))
 have HS:Hid (∀ ss:List Bs,ss.Perm (strKeys DW)→ss.mergeSort (fun x y=>decide (x≤y))=wordsOf l∧ss.length=(wordsOf l).length):=fun ss hss=>⟨sorted_words hss (hperm.nodup_iff.1 (srt_nodup (wordsOf_srt l))) (fun k=>by rw [← hperm.mem_iff,wordsOf_mem]),(hss.trans hperm.symm).length_eq⟩
 have c0:=hB1.c0
 have c1:=hB2.c1
 have HN0:=hid n0
 have HN1:=hid n1
 have HB2:=hid hb2
 have CK:=hid keys_any
 have hsz2:((w.alloc (.cells #[.slice none 0 0,.slice none 0 0] 91)).alloc (.cells #[.slice aoD n cD,.slice none 0 0] 91)).heap.size=w.heap.size+1+1:=by simp
 rw [hsz2] at CS
 clear hB hB1 hB2 hr hle hperm hsize hn n0 n1 hb2 hsz2
 go_enter Tryz.func93,Tryz.ntmps93
 go_wp2_with (first
  | (go_at_call 176;refine (CK.out _ _).mono ?_;rintro e w' ⟨rfl,rfl⟩)
  | (go_at_call 175;refine CS.out.mono ?_;rintro e w4 ⟨sv,ss,rfl,hss,hrow,hb4⟩;obtain ⟨hm1,hm2⟩:=HS.out ss hss;rw [hm1,hm2] at hrow;obtain ⟨gS,cS,aoS,rfl,_,haoS⟩:=ownsRow_shape hrow))
 have H0:Hid (CInv w l (.slice aoD n cD) (.slice aoS (wordsOf l).length cS) 0 w4):=⟨⟨[],.slice none 0 0,by simp,(hb4.block _ (by omega)).trans HN1.out,World.ownsRow_nil _ _ _ _,fun x hx=>by cases hx⟩,(hb4.block _ (by omega)).trans HN0.out,hrow.mono (by omega),HB2.out.trans (hb4.mono (by omega))⟩
 obtain ⟨M,hM⟩:∃ M,M=(wordsOf l).length:=⟨_,rfl⟩
 rw [← hM] at hwl H0 ⊢
 have HM:=hid hM
 clear hM hrow haoS hm1 hm2 hss hb4 HB2 HN0 HN1 c0 c1 CS CK HS
 go_loopw [18] (fun s18 wr=>∃ i:Nat,s18=.int .i64 (i:Int)∧i≤M∧Hid (CInv w l (.slice aoD n cD) (.slice aoS M cS) i wr)) (fun s18 _=>M - (intOf s18).toNat)
 case atStart=>exact ⟨0,rfl,by omega,H0⟩
 case round =>
  obtain ⟨i,rfl,hi,HI⟩:=hrel
  by_cases hlt:i < M
  ·obtain ⟨k,hk⟩:∃ k,(wordsOf l)[i]?=some k:=⟨_,List.getElem?_eq_getElem (by have:=HM.out;omega)⟩
   obtain ⟨xs,L,hx,hC,hL,hN⟩:=HI.out.ex
   have hxl:xs.length=i:=by
    have:=congrArg List.length hx
    simp at this
    have:=HM.out
    omega
   obtain ⟨_,c,ao,rfl,_,_⟩:=ownsRow_shape hL
   rw [hxl] at hC
   have hL':LRow wr w.heap.size (.slice ao i c) xs:=by rw [← hxl];exact hL
   have hW:=HI.out.words
   rw [← HM.out] at hW
   obtain ⟨gs,cs2,aos,hse,_,hao⟩:=ownsRow_shape hW
   cases hse
   obtain rfl:=hao (by omega)
   have hcw:wr.cell? ⟨gs,i,none⟩=some (.string ⟨k.toArray⟩):=by
    have:=hW.cellAt i (by omega)
    rw [this,List.getElem?_map,hk]
    rfl
   have c1:=(cell_two_any hC).2
   have hbw:=HI.out.below
   have hsz:=hbw.size
   have hyl:=lt_of_block hC
   have CL1:Hid (Calls Tryz.prog 70 #[.pointer (some ⟨b,o,none⟩),.string ⟨k.toArray⟩] wr.drew fun e w'=>∃ vP vH,e=.returned (.agg #[lstV k,vP,vH])∧PRow w' wr.heap.size vP (plsFrom 0 l k)∧HRow w' wr.heap.size vH (hdsOf (lensOf (docsP l)) (plsFrom 0 l k))∧Below wr.heap.size wr w'):=(CL.out wr.drew ⟨hbw.os,hbw.tape,hbw.output,hbw.size,hbw.block⟩ k (List.mem_of_getElem? hk)).mono fun e w' ⟨vP,vH,h1,h2,h3,h4⟩=>⟨vP,vH,h1,h2,h3,⟨h4.os,h4.tape,h4.output,h4.size,h4.block⟩⟩
   have RND:=hid (fun (w2:World) (vP vH:Value) (hb:Below wr.heap.size wr w2) hP hH=>HI.out.round (w2:=w2) (k:=k) (vP:=vP) (vH:=vH) (xs:=xs) (ao:=ao) (c:=c) hk hx hC hL' hN (by omega) hxl hb hP hH)
   clear hx hC hL hL' hN hW hk hxl hbw HI H0
   go_wp2_with (fail)
   refine wp_region_any (by kernel_rfl) ?_
   change wpAny _ _ _ _ _ _ _ (World.drew _)
   refine wpAny_take (i:=0) (v:=.pointer (some ⟨w.heap.size+1,1,none⟩)) rfl (by kernel_rfl) (by kernel_rfl) (by kernel_rfl) (fun _ _ _ h=>h) (Or.inl ⟨by rfl,fun w=>by go_simp⟩) ?_
   refine wpAny_take (i:=2) (v:=.pointer (some ⟨b,o,none⟩)) rfl (by kernel_rfl) (by kernel_rfl) (by kernel_rfl) (fun _ _ _ h=>h) (Or.inl ⟨by rfl,fun w=>by go_simp⟩) ?_
   refine wpAny_take (i:=3) (v:=.string ⟨k.toArray⟩) rfl (by kernel_rfl) (by kernel_rfl) (by kernel_rfl) (fun _ _ _ h=>h) (Or.inl ⟨by rfl,fun w=>by go_simp⟩) ?_
   refine wpAny_ready (rs:=[1,4]) (by kernel_rfl) (by simp) ?_
   refine AllReady.cons rfl (fun K hK=>?_) (AllReady.cons rfl (fun K hK=>?_) AllReady.nil)
   ·go_simp
    refine hK _ _ ?_
    clear hK K
    refine wpAny_ready (rs:=[4]) (by kernel_rfl) (by simp) ?_
    refine AllReady.cons rfl (fun K hK=>?_) AllReady.nil
    go_simp
    go_wp2_with (go_at_call 70;refine CL1.out.mono ?_;rintro e w5 ⟨vP,vH,rfl,hP5,hH5,hB5⟩;obtain ⟨_,cP,aoP,rfl,_,_⟩:=ownsRow_shape hP5;obtain ⟨_,cH,aoH,rfl,_,_⟩:=ownsRow_shape hH5;obtain ⟨r1,r1a,r2,R3⟩:=RND.out w5 _ _ hB5 hP5 hH5;have HR3:=hid R3;have HR2:=hid r2;clear R3 r2;have hs5:=hB5.size)
    refine wpAny_ready (rs:=[5]) (by kernel_rfl) (by simp) ?_
    refine AllReady.cons rfl (fun K hK=>?_) AllReady.nil
    go_simp
    refine hK _ _ ?_
    clear hK K
    refine wpAny_ready (rs:=[6]) (by kernel_rfl) (by simp) ?_
    refine AllReady.cons rfl (fun K hK=>?_) AllReady.nil
    refine step_append_lies _ (by rfl) _ _ _ (by rfl) w.heap.size 167 i167 _ 3 64 Tryz.underlying89 hi1 ha0 ha1 ha2 rfl (by omega) (.slice ao i c) i _ (by rfl) (by exact HR2.out.alloc _) ⟨w5.heap.size,0,none⟩ 1 1 [lstV k,.slice aoP (List.length (plsFrom 0 l k)) cP,.slice aoH (hdsOf (lensOf (docsP l)) (plsFrom 0 l k)).length cH] (by rfl) (by rfl) (World.news_of_block (cs:=#[lstV k,.slice aoP (List.length (plsFrom 0 l k)) cP,.slice aoH (hdsOf (lensOf (docsP l)) (plsFrom 0 l k)).length cH]) (t:=167) (fr:=(0,0)) (heap_alloc_new w5 _)) (by simp [Value.oneCell']) (by omega) (by unfold maxLen;omega) (by omega) (by simp;omega) (w5.heap.size+1) (by simp) ?_
    intro gA cA w6 hownA hgA hatA hltA
    obtain ⟨j1,jf,jI⟩:=HR3.out gA cA w6 hgA hownA
    have HJI:=hid jI
    clear jI
    refine hK _ _ ?_
    clear hK K
    refine wpAny_ready (rs:=[7]) (by kernel_rfl) (by simp) ?_
    refine AllReady.cons rfl (fun K hK=>?_) AllReady.nil
    go_simp
    refine hK _ _ ?_
    clear hK K
    refine wpAny_ready (rs:=[8]) (by kernel_rfl) (by simp) ?_
    refine AllReady.cons rfl (fun K hK=>?_) AllReady.nil
    go_simp
    refine hK _ _ ?_
    clear hK K
    refine wpAny_done (by kernel_rfl) ?_ _
    clear HR3 HR2 CL1 RND hownA hgA hatA hltA j1 jf r1 r1a
    go_wp2_with (fail)
    go_roundw
    case rel=>exact ⟨i+1,by go_num,by omega,HJI⟩
    case measure=>simp [intOf];omega
   ·go_simp
    go_wp2_with (go_at_call 70;refine CL1.out.mono ?_;rintro e w5 ⟨vP,vH,rfl,hP5,hH5,hB5⟩;obtain ⟨_,cP,aoP,rfl,_,_⟩:=ownsRow_shape hP5;obtain ⟨_,cH,aoH,rfl,_,_⟩:=ownsRow_shape hH5;obtain ⟨r1,r1a,r2,R3⟩:=RND.out w5 _ _ hB5 hP5 hH5;have HR3:=hid R3;have HR2:=hid r2;clear R3 r2;have hs5:=hB5.size)
    refine wpAny_ready (rs:=[1,5]) (by kernel_rfl) (by simp) ?_
    refine AllReady.cons rfl (fun K hK=>?_) (AllReady.cons rfl (fun K hK=>?_) AllReady.nil)
    ·go_simp
     refine hK _ _ ?_
     clear hK K
     refine wpAny_ready (rs:=[5]) (by kernel_rfl) (by simp) ?_
     refine AllReady.cons rfl (fun K hK=>?_) AllReady.nil
     go_simp
     refine hK _ _ ?_
     clear hK K
     refine wpAny_ready (rs:=[6]) (by kernel_rfl) (by simp) ?_
     refine AllReady.cons rfl (fun K hK=>?_) AllReady.nil
     refine step_append_lies _ (by rfl) _ _ _ (by rfl) w.heap.size 167 i167 _ 3 64 Tryz.underlying89 hi1 ha0 ha1 ha2 rfl (by omega) (.slice ao i c) i _ (by rfl) (by exact HR2.out.alloc _) ⟨w5.heap.size,0,none⟩ 1 1 [lstV k,.slice aoP (List.length (plsFrom 0 l k)) cP,.slice aoH (hdsOf (lensOf (docsP l)) (plsFrom 0 l k)).length cH] (by rfl) (by rfl) (World.news_of_block (cs:=#[lstV k,.slice aoP (List.length (plsFrom 0 l k)) cP,.slice aoH (hdsOf (lensOf (docsP l)) (plsFrom 0 l k)).length cH]) (t:=167) (fr:=(0,0)) (heap_alloc_new w5 _)) (by simp [Value.oneCell']) (by omega) (by unfold maxLen;omega) (by omega) (by simp;omega) (w5.heap.size+1) (by simp) ?_
     intro gA cA w6 hownA hgA hatA hltA
     obtain ⟨j1,jf,jI⟩:=HR3.out gA cA w6 hgA hownA
     have HJI:=hid jI
     clear jI
     refine hK _ _ ?_
     clear hK K
     refine wpAny_ready (rs:=[7]) (by kernel_rfl) (by simp) ?_
     refine AllReady.cons rfl (fun K hK=>?_) AllReady.nil
     go_simp
     refine hK _ _ ?_
     clear hK K
     refine wpAny_ready (rs:=[8]) (by kernel_rfl) (by simp) ?_
     refine AllReady.cons rfl (fun K hK=>?_) AllReady.nil
     go_simp
     refine hK _ _ ?_
     clear hK K
     refine wpAny_done (by kernel_rfl) ?_ _
     clear HR3 HR2 CL1 RND hownA hgA hatA hltA j1 jf r1 r1a
     go_wp2_with (fail)
     go_roundw
     case rel=>exact ⟨i+1,by go_num,by omega,HJI⟩
     case measure=>simp [intOf];omega
    ·go_simp
     refine hK _ _ ?_
     clear hK K
     refine wpAny_ready (rs:=[1]) (by kernel_rfl) (by simp) ?_
     refine AllReady.cons rfl (fun K hK=>?_) AllReady.nil
     go_simp
     refine hK _ _ ?_
     clear hK K
     refine wpAny_ready (rs:=[6]) (by kernel_rfl) (by simp) ?_
     refine AllReady.cons rfl (fun K hK=>?_) AllReady.nil
     refine step_append_lies _ (by rfl) _ _ _ (by rfl) w.heap.size 167 i167 _ 3 64 Tryz.underlying89 hi1 ha0 ha1 ha2 rfl (by omega) (.slice ao i c) i _ (by rfl) (by exact HR2.out.alloc _) ⟨w5.heap.size,0,none⟩ 1 1 [lstV k,.slice aoP (List.length (plsFrom 0 l k)) cP,.slice aoH (hdsOf (lensOf (docsP l)) (plsFrom 0 l k)).length cH] (by rfl) (by rfl) (World.news_of_block (cs:=#[lstV k,.slice aoP (List.length (plsFrom 0 l k)) cP,.slice aoH (hdsOf (lensOf (docsP l)) (plsFrom 0 l k)).length cH]) (t:=167) (fr:=(0,0)) (heap_alloc_new w5 _)) (by simp [Value.oneCell']) (by omega) (by unfold maxLen;omega) (by omega) (by simp;omega) (w5.heap.size+1) (by simp) ?_
     intro gA cA w6 hownA hgA hatA hltA
     obtain ⟨j1,jf,jI⟩:=HR3.out gA cA w6 hgA hownA
     have HJI:=hid jI
     clear jI
     refine hK _ _ ?_
     clear hK K
     refine wpAny_ready (rs:=[7]) (by kernel_rfl) (by simp) ?_
     refine AllReady.cons rfl (fun K hK=>?_) AllReady.nil
     go_simp
     refine hK _ _ ?_
     clear hK K
     refine wpAny_ready (rs:=[8]) (by kernel_rfl) (by simp) ?_
     refine AllReady.cons rfl (fun K hK=>?_) AllReady.nil
     go_simp
     refine hK _ _ ?_
     clear hK K
     refine wpAny_done (by kernel_rfl) ?_ _
     clear HR3 HR2 CL1 RND hownA hgA hatA hltA j1 jf r1 r1a
     go_wp2_with (fail)
     go_roundw
     case rel=>exact ⟨i+1,by go_num,by omega,HJI⟩
     case measure=>simp [intOf];omega
  ·obtain rfl:i=M:=by omega
   obtain ⟨xs,L,hx,hC,hL,hN⟩:=HI.out.ex
   have hres:=HI.out.res
   have hbw:=HI.out.below
   have hsz:=hbw.size
   rw [List.take_of_length_le (by rw [← HM.out];exact Nat.le_refl _)] at hx
   obtain ⟨_,c,ao,rfl,_,_⟩:=ownsRow_shape hL
   obtain ⟨c0,c1⟩:=cell_two_any hC
   obtain ⟨d0,d1⟩:=cell_two_any hres
   have df0:wr.frozen? ⟨w.heap.size,0,none⟩=false:=by simp [World.frozen?,hres]
   have df1:wr.frozen? ⟨w.heap.size,1,none⟩=false:=by simp [World.frozen?,hres]
   have r1:=heap_setCell_same _ w.heap.size 0 _ 91 (.slice aoD n cD) hres
   have r2:=heap_setCell_same _ w.heap.size 1 _ 91 (.slice ao xs.length c) r1
   have T:Turned (fun k=>k=w.heap.size) wr ((wr.setCell ⟨w.heap.size,0,none⟩ (.slice aoD n cD)).setCell ⟨w.heap.size,1,none⟩ (.slice ao xs.length c)):=Turned.trans (Z:=fun k=>k=w.heap.size) (Turned.ofSet _ _ _ rfl) (Turned.ofSet _ _ _ rfl)
   have FIN:Hid (ListsAt ((wr.setCell ⟨w.heap.size,0,none⟩ (.slice aoD n cD)).setCell ⟨w.heap.size,1,none⟩ (.slice ao xs.length c)) w.heap.size (lensOf (docsP l)) (.slice ao xs.length c) (listsP l)∧Below w.heap.size w ((wr.setCell ⟨w.heap.size,0,none⟩ (.slice aoD n cD)).setCell ⟨w.heap.size,1,none⟩ (.slice ao xs.length c))∧((wr.setCell ⟨w.heap.size,0,none⟩ (.slice aoD n cD)).setCell ⟨w.heap.size,1,none⟩ (.slice ao xs.length c)).heap[w.heap.size]?=some (.cells #[.slice aoD n cD,.slice ao xs.length c] 91 (0,0))):=by
    refine ⟨⟨xs,hx,ownsRow_turned hL T (fun g hg e=>?_),hN.turned T (fun g cs t f _ hg ht e=>?_)⟩,below_turned hbw T hsz (fun j hj e=>by omega),by simpa using r2⟩
    ·obtain ⟨cu,bq⟩:=ownsRow_block hL hg
     rw [e,hres] at bq;cases bq
    ·rw [e,hres] at hg;cases hg
     rcases ht with ht | ht <;> cases ht
   clear hx hC hL hN hres hbw r1 r2 T HI H0 hlt hi CL
   go_wp2_with (fail)
   obtain ⟨f1,f2,f3⟩:=FIN.out
   obtain ⟨k0,k1⟩:=cell_two_any f3
   refine bodyPost_ret (v:=.agg #[.slice aoD n cD,.slice ao xs.length c]) ?_ rfl ⟨_,rfl,f1,f2⟩
   generalize ((wr.setCell ⟨w.heap.size,0,none⟩ (.slice aoD n cD)).setCell ⟨w.heap.size,1,none⟩ (.slice ao xs.length c))=W4 at k0 k1 ⊢
   simp [results,Tryz.results93,go_sem,k0,k1]
end Go.Proofs.YtaacjjhmojecnaaGreatDoor
namespace Go.ScT
theorem okLists_at {lens:List Nat}:∀ {ls:List Lst} {b:Bs},OkLists lens b ls→∀ l∈ls,isTok l.1=true∧1≤l.2.length∧l.2.length≤lens.length∧LV lens 0 l.2
 | [],_,_,l,hl=>by cases hl
 | a :: r,b,⟨h1,_,h3,h4,h5,h6⟩,l,hl=>by
   rcases List.mem_cons.1 hl with rfl | hl
   ·exact ⟨h1,h3,h4,h5⟩
   ·exact okLists_at h6 l hl
theorem LV_ris {lens:List Nat}:∀ {ps:Pls} {next:Nat},LV lens next ps→Ris lens.length next ps∧∀ p∈ps,p.2≤40
 | [],_,_=>⟨trivial,fun p hp=>by cases hp⟩
 | p :: r,next,⟨h1,h2,h3,h4,_,h6⟩=>by
   obtain ⟨i1,i2⟩:=LV_ris h6
   refine ⟨⟨h1,h2,h3,i1⟩,fun q hq=>?_⟩
   rcases List.mem_cons.1 hq with rfl | hq
   ·exact h4
   ·exact i2 q hq
end Go.ScT
namespace Go.Proofs.YtaacjjhmojecnaaGreatDoor
open Go.RowKit Go.ScT Go.Proofs Go.Shelf
theorem writable_vc {c:Cont} (h:VC c):Writable c.1 c.2:=by
 have hl:(lensOf c.1).length=c.1.length:=by simp [lensOf]
 refine ⟨h.docs,h.most,h.few,fun l hl'=>?_⟩
 obtain ⟨h1,h2,h3,h4⟩:=okLists_at h.lists l hl'
 obtain ⟨i1,i2⟩:=LV_ris h4
 have:=h.most
 rw [hl] at i1 h3
 exact ⟨(isTok_len h1).2,h2,by omega,i1,i2⟩
theorem see_docs {w:World} {base:Nat} {dv:Value} {ds:List DocP} (h:DRow w base dv ds):DSee w w.heap.size dv ds:=by
 obtain ⟨g,cap,ao,rfl,_,hao⟩:=ownsRow_shape h
 refine ⟨ao,g,0,cap,rfl,fun hp=>?_,fun i d hd=>?_⟩
 ·have:=hao hp
  subst this
  exact ⟨rfl,(h.lt g rfl).2⟩
 ·have hi:=(List.getElem?_eq_some_iff.1 hd).1
  obtain rfl:=hao (by omega)
  have hc:=docC_get hd
  refine ⟨?_,?_,?_⟩
  ·rw [Nat.zero_add,h.cellAt (i * 3) (by omega)];exact hc.1
  ·rw [Nat.zero_add,h.cellAt (i * 3+1) (by omega)];exact hc.2.1
  ·rw [Nat.zero_add,h.cellAt (i * 3+2) (by omega)];exact hc.2.2
theorem hdC_get:∀ {hs:Hds} {i:Nat} {h:Nat × Nat × Nat},hs[i]?=some h→(hdC hs)[i * 3]?=some (natV h.1)∧(hdC hs)[i * 3+1]?=some (natV h.2.1)∧(hdC hs)[i * 3+2]?=some (natV h.2.2)
 | e :: r,0,d,h=>by simp at h;subst h;simp [hdC]
 | e :: r,i+1,d,h=>by
   simp only [List.getElem?_cons_succ] at h
   have:=hdC_get h
   rw [show (i+1) * 3=i * 3+3 by omega]
   simpa [hdC] using this
 | [],i,d,h=>by simp at h
theorem see_list {w:World} {base:Nat} {lens:List Nat} {vP vH:Value} {ps:Pls} (hP:PRow w base vP ps) (hH:HRow w base vH (hdsOf lens ps)) (h1:1≤ps.length):LSee w w.heap.size vP vH ps (hdsOf lens ps):=by
 obtain ⟨g,cap,rfl,_,_⟩:=hP.form (by omega)
 have hne:ps≠[]:=fun e=>by rw [e] at h1;simp at h1
 have hhl:0 < (hdsOf lens ps).length:=by
  rw [hdsOf_range]
  simp
  omega
 obtain ⟨g2,cap2,rfl,_,_⟩:=hH.form hhl
 have hc:ps.length≤cap∧cap≤maxLen:=by
  rcases hP.2 with ⟨h,_⟩ | ⟨_,_,_,h,_,_,h1,h2,_⟩
  ·cases h
  ·cases h;exact ⟨h1,h2⟩
 refine ⟨⟨g,0,cap,rfl,hc.1,hc.2,(hP.lt g rfl).2,fun i p hp=>?_⟩,⟨g2,0,cap2,rfl,(hH.lt g2 rfl).2,fun i h hh=>?_⟩⟩
 ·have hi:=(List.getElem?_eq_some_iff.1 hp).1
  have hc:=plC_get hp
  exact ⟨by rw [Nat.zero_add,hP.cellAt (i * 2) (by omega)];exact hc.1,by rw [Nat.zero_add,hP.cellAt (i * 2+1) (by omega)];exact hc.2⟩
 ·have hi:=(List.getElem?_eq_some_iff.1 hh).1
  have hc:=hdC_get hh
  exact ⟨by rw [Nat.zero_add,hH.cellAt (i * 3) (by omega)];exact hc.1,by rw [Nat.zero_add,hH.cellAt (i * 3+1) (by omega)];exact hc.2.1,by rw [Nat.zero_add,hH.cellAt (i * 3+2) (by omega)];exact hc.2.2⟩
theorem see_lists {w:World} {base:Nat} {lens:List Nat} {L:Value} {ls:List Lst} (h:ListsAt w base lens L ls) (h1:∀ l∈ls,1≤l.2.length):LsSee w w.heap.size L lens ls:=by
 obtain ⟨xs,hx,hL,hN⟩:=h
 have hxl:xs.length=ls.length:=by rw [← hx];simp
 obtain ⟨g,cap,ao,hv,_,hao⟩:=ownsRow_shape hL
 subst hv
 refine ⟨ao,g,0,cap,by rw [hxl],fun hp=>?_,fun i l hl=>?_⟩
 ·have:=hao (by omega)
  subst this
  exact ⟨rfl,(hL.lt g rfl).2⟩
 ·rw [← hx,List.getElem?_map] at hl
  obtain ⟨x,hxi,rfl⟩:=Option.map_eq_some_iff.1 hl
  have hi:=(List.getElem?_eq_some_iff.1 hxi).1
  obtain rfl:=hao (by omega)
  have hc:=lsC_get hxi
  obtain ⟨n1,n2⟩:=hN x (List.mem_of_getElem? hxi)
  refine ⟨x.2.1,x.2.2,see_list n1 n2 (h1 _ (by rw [← hx];exact List.mem_map_of_mem (List.mem_of_getElem? hxi))),?_,?_,?_⟩
  ·rw [Nat.zero_add,hL.cellAt (i * 3) (by omega)];exact hc.1
  ·rw [Nat.zero_add,hL.cellAt (i * 3+1) (by omega)];exact hc.2.1
  ·rw [Nat.zero_add,hL.cellAt (i * 3+2) (by omega)];exact hc.2.2
theorem could_rise {l:List DocR} (h:Could l):Rise l:=⟨h.most,fun d hd=>(h.doc d hd).len,fun d hd=>(h.doc d hd).high,h.apart.imp (fun ⟨_,h2⟩=>h2)⟩
def segOf (l:List DocR):List Bs:=if l=[] then [] else [wrt (cont l)]
set_option maxHeartbeats 1000000 in
theorem written_any {w:World} {b o mw:Nat} {dv:Value} {l:List DocR} {β:BT} {nW:Nat} {DW:DataW Unit} (hB:BSee w b o mw dv l β nW DW) (hl:l=[]∨Could l) :
 Calls Tryz.prog 50 #[.pointer (some ⟨b,o,none⟩)] w fun e w'=>∃ v,e=.returned v∧w'.ownsRow w.heap.size 9 1 v (segOf l).length ((segOf l).map strV)∧Below w.heap.size w w'∧(l=[]→v=.slice none 0 0):=by
 obtain ⟨gD,cD,aoD,rfl,_,_⟩:=ownsRow_shape hB.docs
 obtain ⟨n,hn⟩:∃ n,n=(docsP l).length:=⟨_,rfl⟩
 have HN:=hid hn
 rw [← hn] at hB
 have c0:=hB.c0
 have hdl:=docsP_len l
 rcases hl with rfl | hc
 ·have hn0:n=0:=by rw [hn];rfl
  subst hn0
  clear hB hn hdl HN
  go_enter Tryz.func50,Tryz.ntmps50
  go_wp2
  go_ret
  exact ⟨_,rfl,World.ownsRow_nil _ _ _ _,Below.refl _ _,fun _=>rfl⟩
 ·have hne:l≠[]:=fun e=>by have:=hc.some_;rw [e] at this;simp at this
  have hse:segOf l=[wrt (cont l)]:=by simp [segOf,hne]
  have hn1:¬ ((n:Int)=0):=by have:=hc.some_;omega
  have hvc:=vc_cont hc
  have CC:=hid (content_any hB (could_rise hc))
  have CW:Hid (∀ w1 L,ListsAt w1 w.heap.size (lensOf (docsP l)) L (listsP l)→Below w.heap.size w w1→Calls Tryz.prog 92 #[.agg #[.slice aoD n cD,L]] w1 fun e w'=>e=.returned (lstV (wrt (cont l)))∧Below w1.heap.size w1 w'):=fun w1 L hL hb=>write_any (see_docs (hB.below hb).docs) (see_lists hL (fun x hx=>(okLists_at hvc.lists x hx).2.1)) (writable_vc hvc)
  rw [hse]
  generalize wrt (cont l)=S at CW ⊢
  have HNE:=hid hne
  clear hB hn hdl HN hvc hc hse hne
  go_enter Tryz.func50,Tryz.ntmps50
  go_wp2_with (first
   | (go_at_call 93;refine CC.out.mono ?_;rintro e w1 ⟨L,rfl,hL1,hb1⟩;obtain ⟨xs,_,hLr,_⟩:=(id hL1);obtain ⟨aoL,cL,hLe⟩:=LRow.shape hLr;subst hLe)
   | (go_at_call 92;refine (CW.out _ _ hL1 hb1).mono ?_;rintro e w2 ⟨rfl,hb2⟩))
  go_ret
  have hs1:=hb1.size
  have hs2:=hb2.size
  refine ⟨_,rfl,?_,(hb1.trans (hb2.mono hs1)).alloc (by omega) _,fun e=>absurd e HNE.out⟩
  refine ⟨by simp,Or.inr ⟨w2.heap.size,1,#[lstV S],rfl,by omega,heap_alloc_new w2 _,by omega,by unfold maxLen;omega,by simp,rfl⟩⟩
end Go.Proofs.YtaacjjhmojecnaaGreatDoor
namespace Go.Proofs.YtaacjjhmojecnaaGreatDoor
open Go.ScT
theorem vi_one {n:Nat} (h:n < 128):(vi n).length=1:=by rw [vi_len,if_pos h]
theorem pairB_two:∀ {ss rr:List Nat},(∀ s∈ss,s < 128)→(∀ s∈rr,s < 128)→(pairB ss rr).length≤2 * ss.length
 | [],rr,_,_=>by simp [pairB]
 | s :: ss,[],_,_=>by simp [pairB]
 | s :: ss,r :: rr,h1,h2=>by
   have ih:=pairB_two (ss:=ss) (rr:=rr) (fun x hx=>h1 x (by simp [hx])) (fun x hx=>h2 x (by simp [hx]))
   have a:=vi_one (h1 s (by simp))
   have b:=vi_one (h2 r (by simp))
   simp only [pairB,List.length_append,List.length_cons]
   omega
theorem encPls_five {lens:List Nat} {n:Nat}:∀ {f next:Nat} {b:Pls},Wrt n next b→n≤100→(encPls lens f next b).length≤b.length * 5
 | 0,next,b,_,_=>by simp [encPls]
 | f+1,next,b,h,hn=>by
   unfold encPls
   by_cases hb:b=[]
   ·simp [hb]
   ·rw [if_neg hb]
    have hbp:=List.length_pos_iff.2 hb
    have hw1:Wrt n next (b.take 4):=⟨ris_take h.1,fun p hp=>h.2 p (List.mem_of_mem_take hp)⟩
    have hw2:Wrt n (lastO (b.take 4)+1) (b.drop 4):=by
     refine ⟨?_,fun p hp=>h.2 p (List.mem_of_mem_drop hp)⟩
     by_cases h5:3 < b.length
     ·exact ris_drop h.1 h5
     ·rw [List.drop_eq_nil_of_le (by omega)];exact trivial
    have ih:=encPls_five (lens:=lens) (f:=f) hw2 hn
    have hne:b.take 4≠[]:=by
     intro e
     have:=congrArg List.length e
     rw [List.length_take,List.length_nil] at this
     omega
    have h1:(vi (lastO (b.take 4))).length=1:=vi_one (by
     obtain ⟨p,hp,e⟩:=lastO_mem hne
     have:=(hw1.1.mem p hp).2.1
     omega)
    have h2:(vi (mxC (b.take 4))).length=1:=vi_one (by
     have:mxC (b.take 4)≤40:=mxC_le.2 hw1.2
     omega)
    have h3:(vi (mnL lens (b.take 4))).length=1:=vi_one (by have:=mnL_le lens (b.take 4);omega)
    have s1:∀ x∈stp next (b.take 4),x < 128:=fun x hx=>by have:=stp_le hw1.1 x hx;omega
    have s2:∀ x∈rep (b.take 4),x < 128:=fun x hx=>by
     obtain ⟨p,hp,rfl⟩:=List.mem_map.1 hx
     have:=hw1.2 p hp
     omega
    have hl:(stp next (b.take 4)).length=min 4 b.length:=by rw [stp_len];simp
    have h4:(body (stp next (b.take 4)) (rep (b.take 4))).length+3≤5 * min 4 b.length:=by
     unfold body
     split
     ·rename_i e
      have p1:=psz_le _ (bl_small (fun x hx=>Nat.lt_trans (s1 x hx) (by decide)))
      have p2:=psz_le _ (bl_small (fun x hx=>Nat.lt_trans (s2 x hx) (by decide)))
      simp only [List.length_append,List.length_cons,List.length_nil,pk,leB_len]
      omega
     ·have:=pairB_two s1 s2
      omega
    simp only [List.length_append,encBlk,List.length_drop] at *
    omega
theorem sum_zero' {f:Bs→Nat}:∀ {ws:List Bs},(∀ w∈ws,f w=0)→(ws.map f).sum=0
 | [],_=>rfl
 | a :: r,h=>by
   have ih:=sum_zero' (f:=f) (ws:=r) (fun w hw=>h w (by simp [hw]))
   rw [List.map_cons,List.sum_cons,ih,h a (by simp)]
theorem sum_if {g:Bs→Nat} {t:Bs}:∀ {ws:List Bs},ws.Nodup→(ws.map fun w=>if w=t then g w else 0).sum≤g t
 | [],_=>by simp
 | a :: r,h=>by
   have ih:=sum_if (g:=g) (t:=t) (List.nodup_cons.1 h).2
   by_cases e:a=t
   ·subst e
    have:(r.map fun w=>if w=a then g w else 0).sum=0:=by
     refine sum_zero' (fun w hw=>if_neg ?_)
     intro e
     exact (List.nodup_cons.1 h).1 (e ▸ hw)
    simp [this]
   ·simp [e];exact ih
theorem sum_le {f g:Bs→Nat}:∀ {ws:List Bs},(∀ w∈ws,f w≤g w)→(ws.map f).sum≤(ws.map g).sum
 | [],_=>by simp
 | a :: r,h=>by
   have ih:=sum_le (f:=f) (g:=g) (ws:=r) (fun w hw=>h w (by simp [hw]))
   have:=h a (by simp)
   simp only [List.map_cons,List.sum_cons]
   omega
theorem sum_in {g:Bs→Nat} {ws:List Bs} (hn:ws.Nodup):∀ ts:List Bs,(ws.map fun w=>if 0 < ts.count w then g w else 0).sum≤(ts.map g).sum
 | []=>by
   rw [sum_zero' (fun w _=>by simp)]
   exact Nat.zero_le _
 | t :: r=>by
   have ih:=sum_in (g:=g) hn r
   have h1:=sum_if (g:=g) (t:=t) hn
   have h2:(ws.map fun w=>if 0 < (t :: r).count w then g w else 0).sum≤(ws.map fun w=>(if w=t then g w else 0)+if 0 < r.count w then g w else 0).sum:=sum_le (fun w _=>by
    by_cases e:w=t
    ·subst e;simp
    ·rw [List.count_cons_of_ne (fun h=>e h.symm)];simp [e])
   rw [sum_add] at h2
   simp only [List.map_cons,List.sum_cons]
   omega
theorem sum_pls {g:Bs→Nat} {ws:List Bs} (hn:ws.Nodup):∀ (l:List DocR) (i:Nat),(ws.map fun w=>g w * (plsFrom i l w).length).sum≤(l.map fun d=>(d.2.2.map g).sum).sum
 | [],i=>by
   have:(ws.map fun w=>g w * (plsFrom i [] w).length).sum=0:=by
    refine sum_zero' (fun w hw=>?_)
    simp [plsFrom]
   rw [this];exact Nat.zero_le _
 | d :: r,i=>by
   have ih:=sum_pls (g:=g) hn r (i+1)
   have h1:=sum_in (g:=g) hn d.2.2
   have h2:(ws.map fun w=>g w * (plsFrom i (d :: r) w).length).sum≤(ws.map fun w=>(if 0 < d.2.2.count w then g w else 0)+g w * (plsFrom (i+1) r w).length).sum:=sum_le (fun w _=>by
    by_cases h:0 < d.2.2.count w
    ·rw [show plsFrom i (d :: r) w=(i,d.2.2.count w) :: plsFrom (i+1) r w by simp only [plsFrom,if_pos h],if_pos h,List.length_cons,Nat.mul_add];omega
    ·rw [show plsFrom i (d :: r) w=plsFrom (i+1) r w by simp only [plsFrom,if_neg h],if_neg h];omega)
   rw [sum_add] at h2
   simp only [List.map_cons,List.sum_cons]
   omega
theorem encLists_sum (lens:List Nat):∀ ls:List Lst,(encLists lens ls).length=(ls.map fun l=>(encList lens l).length).sum
 | []=>rfl
 | a :: r=>by simp [encLists,encLists_sum lens r]
theorem wrt_fits {l:List DocR} (h:Could l) (ht:∀ d∈l,tot d.2.2≤201):(wrt (cont l)).length≤60000:=by
 have hv:=vc_cont h
 have hw:=writable_vc hv
 have h1:=encDocs_len hv.docs
 have h2:=h.most
 have e1:(cont l).1.length=l.length:=by simp [cont,docsP]
 have h3:=vi_le (cont l).1.length
 have h4:=vi_le (cont l).2.length
 have h5:(encLists (lensOf (cont l).1) (cont l).2).length≤50000:=by
  rw [encLists_sum]
  have a1:((cont l).2.map fun x=>(encList (lensOf (cont l).1) x).length).sum≤((wordsOf l).map fun w=>(7+w.length) * (plsFrom 0 l w).length).sum:=by
   have:(cont l).2=(wordsOf l).map fun w=>(w,plsFrom 0 l w):=rfl
   rw [this,List.map_map]
   refine sum_le (fun w hwd=>?_)
   obtain ⟨b1,b2,b3,b4⟩:=hw.list (w,plsFrom 0 l w) (by rw [this];exact List.mem_map.2 ⟨w,hwd,rfl⟩)
   have b5:=encPls_five (lens:=lensOf (cont l).1) (f:=(plsFrom 0 l w).length) b4 (by omega)
   have b6:(vi (plsFrom 0 l w).length).length=1:=vi_one (by have:=b3;simp only at this;omega)
   have b7:=nm_len w
   simp only [Function.comp,encList,List.length_append]
   simp only at b2 b5
   rw [Nat.add_mul]
   have b8:w.length * 1≤w.length * (plsFrom 0 l w).length:=Nat.mul_le_mul_left _ b2
   omega
  have a2:=sum_pls (g:=fun w=>7+w.length) (srt_nodup (wordsOf_srt l)) l 0
  have a3:∀ ts:List Bs,((ts.map fun w=>7+w.length).sum)=6 * ts.length+tot ts:=by
   intro ts
   induction ts with
   | nil=>simp [tot]
   | cons a r ih=>simp only [List.map_cons,List.sum_cons,tot,List.length_cons] at ih ⊢;omega
  have a4:∀ l':List DocR,(∀ d∈l',tot d.2.2≤201∧d.2.2.length≤40)→(l'.map fun d=>(d.2.2.map fun w=>7+w.length).sum).sum≤441 * l'.length:=by
   intro l' hl'
   induction l' with
   | nil=>simp
   | cons a r ih =>
     have i1:=ih (fun d hd=>hl' d (by simp [hd]))
     have i2:=hl' a (by simp)
     have i3:=a3 a.2.2
     simp only [List.map_cons,List.sum_cons,List.length_cons]
     omega
  have a5:=a4 l (fun d hd=>⟨ht d hd,(h.doc d hd).len⟩)
  omega
 have h6:(chk (encC (cont l))).length=4:=by simp [chk,leB_len]
 rw [wrt,List.length_append,h6]
 simp only [encC,List.length_append,List.length_cons,List.length_nil]
 omega
end Go.Proofs.YtaacjjhmojecnaaGreatDoor
