import Derived.Test.YtaacjjhmojecnaaGreatDoorQ46
import Derived.Test.YtaacjjhmojecnaaGreatDoorQ31
import Derived.Test.YtaacjjhmojecnaaGreatDoorQ41
import Derived.Test.YtaacjjhmojecnaaGreatDoorQ45
import Derived.Test.YtaacjjhmojecnaaGreatDoorP05
import Derived.Test.YtaacjjhmojecnaaGreatDoorP01
namespace Go.Proofs.YtaacjjhmojecnaaGreatDoor
open Go.RowKit Go.ScT Go.Proofs Go.Shelf
structure MgInv (w:World) (E:List EDoc) (m mm:Nat) (l:List DocR) (nW:Nat) (W:World):Prop where
 buf:∃ dv β DW,MBuf W m mm dv (docsP l) β (numsP l) nW DW∧∀ b,ZX m mm dv β (numsP l) b→w.heap.size≤b
 below:Below w.heap.size w W
theorem take_in {w W:World} {Z:Nat→Prop} {bC e:Nat} {E:List EDoc} {ss:List Bs} {D L:Value} {lc:List DocR} (hE:EngXOk W Z e E ss) (hZ:∀ b,Z b→b < w.heap.size) (hb:w.heap.size≤bC) (hbw:bC≤W.heap.size) (hD:DRow W bC D (docsP lc)) (hL:ListsAt W bC (lensOf (docsP lc)) L (listsP lc)) (hc:Could lc):TakeIn W w.heap.size bC e E D L lc:=by
 refine ⟨hb,hbw,fun W' ht d hd=>?_,hD,hL,could_rise hc,fun d hd=>?_,fun k hk=>?_⟩
 ·exact isLive_any (hE.turned ht (fun b hz hz'=>by have:=hZ b hz;unfold ZM at hz';omega)) d hd
 ·unfold docsP at hd
  obtain ⟨d',hd',rfl⟩:=List.mem_map.1 hd
  have:=Go.ScT.keyOk_len (hc.doc d' hd').key
  unfold maxLen
  simp
  omega
 ·obtain ⟨d,hd,hkd⟩:=wordsOf_mem.1 hk
  have:=isTok_len ((hc.doc d hd).toks k hkd)
  unfold maxLen
  omega
theorem merge_done {w w2:World} {Z:Nat→Prop} {e b2:Nat} {E:List EDoc} {ss ss':List Bs} {ml mw:Nat} {sv v dv:Value} {β:BT} {nW:Nat} {DL DW:DataW Unit} (h:EngX w Z e E ss ml mw sv dv β nW DL DW) (hb:Below w.heap.size w w2) (hv:w2.ownsRow b2 9 1 v ss'.length (ss'.map strV)) (hb2:w.heap.size≤b2) :
 w2.cell? ⟨e,4,none⟩=some sv∧w2.frozen? ⟨e,4,none⟩=false∧EngXOk (w2.setCell ⟨e,4,none⟩ v) (grow Z w (w2.setCell ⟨e,4,none⟩ v)) e E ss'∧Turned Z w (w2.setCell ⟨e,4,none⟩ v):=by
 have h2:=h.turned (Turned.ofBelow (Z:=fun _=>False) hb) (fun _ _ h=>h)
 have T4:Turned (fun b=>b=e) w2 (w2.setCell ⟨e,4,none⟩ v):=Turned.ofSet w2 _ _ rfl
 have hnew:∀ g,v.ownBlock=some g→w.heap.size≤g∧g < w2.heap.size:=fun g hg=>⟨by have:=(hv.lt g hg).1;omega,(hv.lt g hg).2⟩
 have hZX:∀ b,ZX e mw dv β (fun k=>wplaces k 0 E) b→b < w.heap.size:=by
  rintro b (hb' | hb' | hb' | hb')
  ·rw [hb'];exact lt_of_block h.buf.eng
  ·rw [hb'];exact h.buf.words.lt
  ·exact (h.buf.docs.lt b hb').2
  ·exact h.buf.rel.lt hb'
 have hml:=h.live.lt
 have hs4:(w2.setCell ⟨e,4,none⟩ v).heap.size=w2.heap.size:=size_set _ _ _
 refine ⟨(cell_five h2.buf.eng).2.2.2.2,frozen_five h2.buf.eng 4,⟨ml,mw,v,dv,β,nW,DL,DW,⟨h2.buf.setC4 v,ownsMap_turned h2.live T4 (fun e'=>h.le e'),h.rel,h.num,?_,h.nW,h.le,h.lw,h.lT,h.lD,fun g hg=>⟨?_,?_⟩,Or.inl h.zl,fun b hb'=>Or.inl (h.zX b hb'),fun g hg=>?_⟩⟩,(Turned.ofBelow hb).trans (T4.mono (fun b _ hb'=>by rw [hb'];exact h.zX e (Or.inl rfl)))⟩
 ·refine (rowX_turned hv T4 (fun g hg e'=>?_)).mono (Nat.zero_le _)
  obtain ⟨cu,bq⟩:=ownsRow_block hv hg
  rw [e'] at bq
  exact tag_ne h2.buf.eng bq (by decide) rfl
 ·have:=(hnew g hg).1;omega
 ·intro hz;have:=hZX g hz;have:=(hnew g hg).1;omega
 ·have:=hnew g hg
  exact Or.inr ⟨this.1,by rw [hs4];exact this.2⟩
set_option maxHeartbeats 4000000 in
set_option maxRecDepth 1000000 in
theorem mergeX_any {w:World} {Z:Nat→Prop} {e bS:Nat} {A:Nat→Addr} {E:List EDoc} {ss:List Bs} {lcs:List (List DocR)} (h:EngXOk w Z e E ss) (hZ:∀ b,Z b→b < w.heap.size) (hS:Sent w A bS) (hss:ss=lcs.map (fun l=>wrt (cont l))) (hc:∀ l∈lcs,Could l∧(wrt (cont l)).length≤60000) (hlen:lcs.length≤100) (hfin:wantR (liveB E) lcs.flatten=[]∨Could (wantR (liveB E) lcs.flatten)) :
 Calls Tryz.prog 29 #[.pointer (some ⟨e,0,none⟩)] w fun en w'=>en=.returned (.tuple #[])∧EngXOk w' (grow Z w w') e E (segOf (wantR (liveB E) lcs.flatten))∧Turned Z w w':=by
 obtain ⟨ml,mw,sv,dv,β,nW,DL,DW,h⟩:=h
 obtain ⟨gS,cap,ao,rfl,_,haoS⟩:=ownsRow_shape h.segs
 obtain ⟨n,hn⟩:∃ n,n=ss.length:=⟨_,rfl⟩
 rw [← hn] at h haoS
 have hnl:n=lcs.length:=by rw [hn,hss];simp
 have H:=hid h
 have CB:=hid (newBuffer_any w)
 have mfn:∀ (fn:Fn) (first cap:Array Value) (w:World),(Instr.makeFunc fn first cap).run Tryz.prog w=.ok (.func fn first cap) w:=fun _ _ _ _=>rfl
 have HN:=hid hn
 have HSS:=hid hss
 have HNL:=hid hnl
 have HC:=hid hc
 have HS:=hid hS
 have HFIN:=hid hfin
 have HHZ:=hid hZ
 have HE:Hid (∀ W,Below w.heap.size w W→EngX W Z e E ss ml mw (.slice ao n cap) dv β nW DL DW):=fun W hb=>H.out.turned (Turned.ofBelow (Z:=fun _=>False) hb) (fun _ _ h=>h)
 have hn1:n≤100:=by omega
 clear h hn hss hnl hc hS hfin hZ
 go_enter Tryz.func29,Tryz.ntmps29
 go_wp2_with (go_at_call 52;refine CB.out.mono ?_;rintro en w1 ⟨rfl,hmap,hb1,hs1⟩;have hE1:=HE.out w1 hb1;have q4:=(cell_five (HE.out _ (hb1.alloc (by omega) (.cells #[.slice none 0 0,.map (some (w.heap.size+1))] 85))).buf.eng).2.2.2.2;clear hE1)
 have hbA:Below w.heap.size w (w1.alloc (.cells #[.slice none 0 0,.map (some (w.heap.size+1))] 85)):=hb1.alloc (by omega) _
 have HNB:(w1.alloc (.cells #[.slice none 0 0,.map (some (w.heap.size+1))] 85)).heap[w.heap.size+2]?=some (.cells #[.slice none 0 0,.map (some (w.heap.size+1))] 85 (0,0)):=by
  have:=heap_alloc_new w1 (.cells #[.slice none 0 0,.map (some (w.heap.size+1))] 85)
  rwa [hs1] at this
 have H0:Hid (MgInv w E (w.heap.size+2) (w.heap.size+1) (wantR (liveB E) (lcs.take 0).flatten) 0 (w1.alloc (.cells #[.slice none 0 0,.map (some (w.heap.size+1))] 85))):=by
  have hnI:∀ b,¬ InW (fun _=>(0,0)) (numsP []) b:=fun b ⟨k,hk,_⟩=>hk rfl
  refine ⟨⟨.slice none 0 0,fun _=>(0,0),.map [],⟨HNB,⟨by simp [docsP,docC,wantR],Or.inl ⟨rfl,rfl⟩⟩,hmap.alloc _,⟨fun k=>by simp [Maps.has,numsP,wantR],fun k hk=>absurd rfl hk,fun k hk=>absurd rfl hk,fun k _ hk=>absurd rfl hk⟩,hnI _,hnI _,fun _ hg=>(by cases hg),by omega⟩,?_⟩,hbA⟩
  rintro b (rfl | rfl | hb | hb)
  ·omega
  ·omega
  ·cases hb
  ·exact absurd hb (hnI b)
 obtain ⟨M,hM⟩:∃ M,M=w.heap.size+2:=⟨_,rfl⟩
 rw [← hM] at H0 ⊢
 clear CB hmap hb1 hM HNB hs1
 go_loopw [13] (fun s13 wr=>∃ (i nWi:Nat),s13=.int .i64 (i:Int)∧i≤n∧nWi≤i * 400000∧Hid (MgInv w E M (w.heap.size+1) (wantR (liveB E) (lcs.take i).flatten) nWi wr)) (fun s13 _=>n - (intOf s13).toNat)
 case atStart=>exact ⟨0,0,rfl,by omega,by omega,H0⟩
 case round =>
  obtain ⟨i,nWi,rfl,hi,hnWi,HI⟩:=hrel
  clear H0 q4 hbA
  have hbw:=HI.out.below
  have hsz:=hbw.size
  by_cases hlt:i < n
  ·obtain ⟨lc,hlc⟩:∃ lc,lcs[i]?=some lc:=⟨_,List.getElem?_eq_getElem (by rw [← HNL.out];exact hlt)⟩
   have hER:=HE.out wr hbw
   obtain rfl:=haoS (by omega)
   obtain ⟨hcl,h60⟩:=HC.out lc (List.mem_of_getElem? hlc)
   have hsi:ss[i]?=some (wrt (cont lc)):=by rw [HSS.out,List.getElem?_map,hlc];rfl
   have hcell:wr.cell? ⟨gS,i,none⟩=some (.string ⟨(wrt (cont lc)).toArray⟩):=by
    have:=hER.segs
    rw [← HN.out] at this
    rw [this.cellAt i (by omega),List.getElem?_map,hsi]
    rfl
   have CR:Hid (Calls Tryz.prog 48 #[.string ⟨(wrt (cont lc)).toArray⟩] wr fun en w'=>∃ ao1 n1 c1 ao2 n2 c2,en=.returned (.tuple #[.agg #[.slice ao1 n1 c1,.slice ao2 n2 c2],.nilIface])∧DRow w' wr.heap.size (.slice ao1 n1 c1) (docsP lc)∧ListsAt w' wr.heap.size (lensOf (docsP lc)) (.slice ao2 n2 c2) (listsP lc)∧Below wr.heap.size wr w'):=by
    have hSr:Sent wr A bS:=HS.out.turned (Turned.ofBelow (Z:=fun _=>False) hbw) (fun _ _ h=>h)
    refine (progRead_any (s:=⟨(wrt (cont lc)).toArray⟩) hSr (by show (wrt (cont lc)).toArray.size≤60000;simpa using h60)).mono ?_
    rintro en w' ⟨hr,hb'⟩
    have hp:pRead (wrt (cont lc))=some (cont lc):=pRead_iff.2 ⟨rfl,vc_cont hcl⟩
    rcases hr with ⟨ds,ls,D,L,hpr,rfl,_,_,hD,hL⟩ | ⟨hpr,_⟩
    ·simp only at hpr
     rw [hp] at hpr
     cases hpr
     obtain ⟨_,c1,ao1,rfl,_,_⟩:=ownsRow_shape hD
     obtain ⟨xs,hxs,hLr,hNm⟩:=(id hL)
     obtain ⟨ao2,c2,rfl⟩:=LRow.shape hLr
     exact ⟨ao1,_,c1,ao2,_,c2,rfl,hD,hL,hb'⟩
    ·simp only at hpr
     rw [hp] at hpr
     cases hpr
   have TK:Hid (∀ w2 ao1 n1 c1 ao2 n2 c2,DRow w2 wr.heap.size (.slice ao1 n1 c1) (docsP lc)→ListsAt w2 wr.heap.size (lensOf (docsP lc)) (.slice ao2 n2 c2) (listsP lc)→Below wr.heap.size wr w2→Calls Tryz.prog 53 #[.pointer (some ⟨M,0,none⟩),.agg #[.slice ao1 n1 c1,.slice ao2 n2 c2],.func (.func 44) #[.pointer (some ⟨e,0,none⟩)] #[]] w2 fun en w'=>en=.returned (.tuple #[])∧∃ nW',nW'≤(i+1) * 400000∧MgInv w E M (w.heap.size+1) (wantR (liveB E) (lcs.take (i+1)).flatten) nW' w'):=by
    intro w2 ao1 n1 c1 ao2 n2 c2 hD hL hb2
    have hbw2:Below w.heap.size w w2:=hbw.trans (hb2.mono hsz)
    have hE2:EngXOk w2 Z e E ss:=⟨_,_,_,_,_,_,_,_,HE.out w2 hbw2⟩
    have hT:=take_in hE2 HHZ.out hsz hb2.size hD hL hcl
    obtain ⟨dv0,β0,DW0,hM0,hz0⟩:=HI.out.buf
    have hM2:=hM0.turned (Turned.ofBelow (Z:=fun _=>False) hb2) (fun _ _ h=>h)
    have hll:(wantR (liveB E) (lcs.take i).flatten).length≤10000:=by
     have h1:∀ (ls:List (List DocR)),(∀ l∈ls,l.length≤100)→ls.flatten.length≤100 * ls.length:=by
      intro ls
      induction ls with
      | nil=>simp
      | cons a r ih =>
        intro hq
        have:=hq a (by simp)
        have:=ih (fun l hl=>hq l (by simp [hl]))
        simp only [List.flatten_cons,List.length_append,List.length_cons]
        omega
     have h2:=h1 (lcs.take i) (fun l hl=>(HC.out l (List.mem_of_mem_take hl)).1.most)
     have h3:(wantR (liveB E) (lcs.take i).flatten).length≤(lcs.take i).flatten.length:=List.length_filter_le _ _
     rw [List.length_take] at h2
     omega
    refine (take_any hT hM2 (fun b hb=>⟨hz0 b hb,?_⟩) hll (by omega)).mono ?_
    ·rcases hb with hb | hb | hb | hb
     ·rw [hb];exact lt_of_block hM0.blk
     ·rw [hb];exact hM0.words.lt
     ·exact (hM0.docs.lt b hb).2
     ·exact hM0.rel.lt hb
    ·rintro en w3 ⟨rfl,⟨dv3,β3,nW3,DW3,hM3,hn3,hz3⟩,t3⟩
     have hfl:wantR (liveB E) (lcs.take i).flatten++wantR (liveB E) lc=wantR (liveB E) (lcs.take (i+1)).flatten:=by
      rw [List.take_add_one,hlc,List.flatten_append]
      unfold wantR
      rw [List.filter_append]
      simp
     rw [hfl] at hM3 hz3
     exact ⟨rfl,nW3,by omega,⟨⟨dv3,β3,DW3,hM3,hz3⟩,below_turned hbw2 t3 hbw2.size (fun j hj hz=>by unfold ZM at hz;omega)⟩⟩
   obtain ⟨S,hSe⟩:∃ S,S=wrt (cont lc):=⟨_,rfl⟩
   rw [← hSe] at hcell CR
   clear hER hcl h60 hsi hlc HI hSe hbw
   go_wp2_with (first
    | (go_at_call 48;refine CR.out.mono ?_;rintro en w2 ⟨ao1,n1,c1,ao2,n2,c2,rfl,hD2,hL2,hb2⟩;have C53:=hid (TK.out (w2.alloc (.cells #[.slice ao1 n1 c1,.slice ao2 n2 c2] 91)) ao1 n1 c1 ao2 n2 c2 (hD2.alloc _) (hL2.turned (Turned.ofAlloc (Z:=fun _=>False) w2 _) (fun _ _ h=>h)) (hb2.alloc hb2.size _));clear hD2 hL2)
    | (go_at_call 53;refine C53.out.mono ?_;rintro en w3 ⟨rfl,nW',hnW',hM3⟩;have HM3:=hid hM3;clear hM3))
   go_roundw
   case rel=>exact ⟨i+1,nW',by go_num,by omega,by omega,HM3⟩
   case measure=>simp [intOf];omega
  ·obtain rfl:i=n:=by omega
   obtain ⟨dv0,β0,DW0,hM0,_⟩:=HI.out.buf
   rw [List.take_of_length_le (by rw [← HNL.out];exact Nat.le_refl _)] at hM0
   have CW:=hid (written_any hM0.see HFIN.out)
   have MD:=hid (fun w2 v hv (hb:Below w.heap.size w w2)=>merge_done (w2:=w2) (v:=v) (b2:=wr.heap.size) (ss':=segOf (wantR (liveB E) lcs.flatten)) H.out hb hv hsz)
   clear hM0 HI hlt hi
   go_wp2_with (go_at_call 50;refine CW.out.mono ?_;rintro en w2 ⟨v,rfl,hv2,hb2,_⟩;obtain ⟨m4,mf,mE,mT⟩:=MD.out w2 v hv2 (hbw.trans (hb2.mono hsz));obtain ⟨_,cv,aov,rfl,_,_⟩:=ownsRow_shape hv2;have HME:=hid mE;have HMT:=hid mT;clear mE mT hv2)
   go_end0
   exact ⟨rfl,HME.out,HMT.out⟩
end Go.Proofs.YtaacjjhmojecnaaGreatDoor
namespace Go.Proofs.YtaacjjhmojecnaaGreatDoor
open Go.RowKit Go.ScT Go.Proofs
structure GDoc (d:EDoc):Prop where
 key:keyOk d.key=true
 len:d.toks.length≤40
 toks:∀ t∈d.toks,isTok t=true
 tot:tot d.toks≤201
 live:d.waits=true→d.live=true
structure Inv (E:List EDoc) (Ws:List (List Nat)):Prop where
 doc:∀ d∈E,GDoc d
 most:E.length≤100
 rise:(Ws.flatten++waitI 0 E).Pairwise (· < ·)
 good:∀ I∈Ws,GoodI E I
def liveAt (E:List EDoc) (i:Nat):Bool:=((E[i]?).map (·.live)).getD false
theorem inv_new:Inv [] []:=⟨by simp,by simp,by simp [waitI],by simp⟩
theorem waitR_pick_gen (full:List DocR):∀ (E:List EDoc) (n:Nat),(∀ j,full[n+j]?=(eR n E)[j]?)→pick full (waitI n E)=waitR n E
 | [],n,_=>by simp [waitI,waitR,pick]
 | d :: r,n,h=>by
   have ih:=waitR_pick_gen full r (n+1) (fun j=>by
    have:=h (j+1)
    rw [show n+(j+1)=n+1+j by omega] at this
    rw [this];simp [eR])
   have h0:full[n]?=some (d.key,n+1,d.toks):=by have:=h 0;simpa [eR] using this
   unfold waitI waitR
   split
   ·unfold pick at ih ⊢
    rw [List.filterMap_cons,h0]
    simp [ih]
   ·exact ih
theorem waitR_pick (E:List EDoc):waitR 0 E=pick (eR 0 E) (waitI 0 E):=(waitR_pick_gen (eR 0 E) E 0 (fun j=>by rw [Nat.zero_add])).symm
theorem waitI_mem:∀ (E:List EDoc) (n i:Nat),i∈waitI n E→n≤i∧∃ d,E[i - n]?=some d∧d.waits=true
 | [],n,i,h=>by simp [waitI] at h
 | d :: r,n,i,h=>by
   have go:i∈waitI (n+1) r→n≤i∧∃ d',(d :: r)[i - n]?=some d'∧d'.waits=true:=fun h=>by
    obtain ⟨h1,d',h2,h3⟩:=waitI_mem r (n+1) i h
    refine ⟨by omega,d',?_,h3⟩
    rw [show i - n=(i - (n+1))+1 by omega,List.getElem?_cons_succ]
    exact h2
   unfold waitI at h
   split at h
   ·rcases List.mem_cons.1 h with rfl | h
    ·exact ⟨Nat.le_refl _,d,by simp,by assumption⟩
    ·exact go h
   ·exact go h
theorem waitI_at {E:List EDoc} {i:Nat} (h:i∈waitI 0 E):∃ d,E[i]?=some d∧d.waits=true:=(waitI_mem E 0 i h).2
theorem waitI_rise:∀ (E:List EDoc) (n:Nat),(waitI n E).Pairwise (· < ·)
 | [],_=>by simp [waitI]
 | d :: r,n=>by
   have ih:=waitI_rise r (n+1)
   unfold waitI
   split
   ·refine List.pairwise_cons.2 ⟨fun i hi=>?_,ih⟩
    have:=(waitI_mem r (n+1) i hi).1
    omega
   ·exact ih
theorem waitI_kill:∀ (E:List EDoc) (n i:Nat),(waitI n (killE E i)).Sublist (waitI n E)
 | [],n,i=>by simp [killE,waitI]
 | d :: r,n,0=>by
   have:waitI n (killE (d :: r) 0)=waitI (n+1) r:=by simp [killE,waitI]
   rw [this]
   have e:waitI n (d :: r)=if d.waits then n :: waitI (n+1) r else waitI (n+1) r:=rfl
   rw [e]
   split
   ·exact List.sublist_cons_self _ _
   ·exact List.Sublist.refl _
 | d :: r,n,i+1=>by
   have ih:=waitI_kill r (n+1) i
   have e:killE (d :: r) (i+1)=d :: killE r i:=by simp [killE]
   rw [e]
   unfold waitI
   split
   ·exact ih.cons_cons _
   ·exact ih
theorem waitI_flush:∀ (E:List EDoc) (n:Nat),waitI n (flushE E)=[]
 | [],_=>rfl
 | d :: r,n=>by
   have ih:=waitI_flush r (n+1)
   simp only [flushE,List.map_cons,waitI] at ih ⊢
   simpa using ih
theorem eR_ret (E:List EDoc) (n:Nat) (key:Bs):eR n (retE E key)=eR n E:=by
 unfold retE
 split
 ·exact eR_kill _ _ _
 ·rfl
theorem waitI_ret (E:List EDoc) (n:Nat) (key:Bs):(waitI n (retE E key)).Sublist (waitI n E):=by
 unfold retE
 split
 ·exact waitI_kill _ _ _
 ·exact List.Sublist.refl _
theorem kill_mem {E:List EDoc} {i:Nat} {d:EDoc} (h:d∈killE E i):∃ d0∈E,d=d0∨d={ d0 with live:=false,waits:=false }:=by
 obtain ⟨j,hj⟩:=List.getElem?_of_mem h
 unfold killE at hj
 rw [List.getElem?_modify] at hj
 cases hq:E[j]? with
 | none=>rw [hq] at hj;simp at hj
 | some d0 =>
   rw [hq] at hj
   simp at hj
   refine ⟨d0,List.mem_of_getElem? hq,?_⟩
   rw [← hj]
   split
   ·exact Or.inr rfl
   ·exact Or.inl rfl
theorem GDoc.kill {E:List EDoc} {i:Nat} (h:∀ d∈E,GDoc d):∀ d∈killE E i,GDoc d:=fun d hd=>by
 obtain ⟨d0,h0,rfl | rfl⟩:=kill_mem hd
 ·exact h d h0
 ·have g:=h d0 h0
  exact ⟨g.key,g.len,g.toks,g.tot,fun h=>by cases h⟩
theorem GDoc.ret {E:List EDoc} {key:Bs} (h:∀ d∈E,GDoc d):∀ d∈retE E key,GDoc d:=by
 unfold retE
 split
 ·exact GDoc.kill h
 ·exact h
theorem pick_app {α:Type} {l l':List α}:∀ {I:List Nat},(∀ i∈I,i < l.length)→pick (l++l') I=pick l I
 | [],_=>rfl
 | i :: r,h=>by
   have ih:=pick_app (l:=l) (l':=l') (I:=r) (fun j hj=>h j (by simp [hj]))
   unfold pick at ih ⊢
   rw [List.filterMap_cons,List.filterMap_cons,List.getElem?_append_left (h i (by simp)),ih]
theorem GoodI.of_eR {E E':List EDoc} {I:List Nat} (h:GoodI E I) (hl:E.length≤E'.length) (he:pick (eR 0 E') I=pick (eR 0 E) I):GoodI E' I :=
 ⟨fun i hi=>Nat.lt_of_lt_of_le (h.lt i hi) hl,h.rise,by rw [he];exact h.could⟩
theorem rise_len' {N:Nat}:∀ {I:List Nat} {lo:Nat},I.Pairwise (· < ·)→(∀ i∈I,lo≤i∧i < N)→I.length≤N - lo
 | [],_,_,_=>by simp
 | a :: r,lo,hr,h=>by
   have h1:=List.pairwise_cons.1 hr
   have ih:=rise_len' (N:=N) (lo:=a+1) h1.2 (fun i hi=>⟨h1.1 i hi,(h i (by simp [hi])).2⟩)
   have:=h a (by simp)
   simp only [List.length_cons]
   omega
theorem rise_len {I:List Nat} {N:Nat} (hr:I.Pairwise (· < ·)) (hlt:∀ i∈I,i < N):I.length≤N:=rise_len' (lo:=0) hr (fun i hi=>⟨Nat.zero_le _,hlt i hi⟩)
theorem could_pick {E:List EDoc} {I:List Nat} (hd:∀ d∈E,GDoc d) (hm:E.length≤100) (hu:UniqK (keysE E)) (hr:I.Pairwise (· < ·)) (hL:∀ i∈I,∃ d,E[i]?=some d∧d.live=true) (hne:I≠[]):GoodI E I:=by
 have hlt:∀ i∈I,i < E.length:=fun i hi=>by
  obtain ⟨d,h1,_⟩:=hL i hi
  exact (List.getElem?_eq_some_iff.1 h1).1
 have hlt':∀ i∈I,i < (eR 0 E).length:=fun i hi=>by rw [eR_len];exact hlt i hi
 have hlen:I.length≤100:=by
  have:=rise_len hr hlt
  omega
 refine ⟨hlt,hr,?_,?_,?_,?_⟩
 ·rw [pick_len hlt']
  exact List.length_pos_iff.2 hne
 ·rw [pick_len hlt'];exact hlen
 ·intro x hx
  obtain ⟨i,hi,hx⟩:=List.mem_filterMap.1 hx
  rw [eR_get] at hx
  cases hq:E[i]? with
  | none=>rw [hq] at hx;simp at hx
  | some d =>
    rw [hq] at hx
    simp at hx
    subst hx
    have g:=hd d (List.mem_of_getElem? hq)
    have:=hlt i hi
    exact ⟨g.key,by simp,by simp;omega,g.len,g.toks⟩
 ·unfold pick
  rw [List.pairwise_filterMap]
  refine hr.imp_of_mem ?_
  intro a b ha hb hab x hx y hy
  obtain ⟨da,a1,a2⟩:=hL a ha
  obtain ⟨db,b1,b2⟩:=hL b hb
  rw [eR_get,a1] at hx
  rw [eR_get,b1] at hy
  simp at hx hy
  subst hx hy
  refine ⟨fun e=>?_,by simp;omega⟩
  have:=hu a b (da.key,da.live) (db.key,db.live) (by simp [keysE,a1]) (by simp [keysE,b1]) a2 b2 e
  omega
theorem Inv.lt {E:List EDoc} {Ws:List (List Nat)} (h:Inv E Ws) {i:Nat} (hi:i∈Ws.flatten):i < E.length:=by
 obtain ⟨I,hI,hi⟩:=List.mem_flatten.1 hi
 exact (h.good I hI).lt i hi
theorem flat_len:∀ {Ws:List (List Nat)},(∀ I∈Ws,1≤I.length)→Ws.length≤Ws.flatten.length
 | [],_=>by simp
 | a :: r,h=>by
   have ih:=flat_len (Ws:=r) (fun I hI=>h I (by simp [hI]))
   have:=h a (by simp)
   simp only [List.length_cons,List.flatten_cons,List.length_append]
   omega
theorem GoodI.ne {E:List EDoc} {I:List Nat} (h:GoodI E I):1≤I.length:=by
 have h1:=h.could.some_
 rw [pick_len (fun i hi=>by rw [eR_len];exact h.lt i hi)] at h1
 exact h1
theorem Inv.few {E:List EDoc} {Ws:List (List Nat)} (h:Inv E Ws):Ws.length≤100:=by
 have h1:=flat_len (fun I hI=>(h.good I hI).ne)
 have h2:=rise_len (List.Pairwise.sublist (List.sublist_append_left _ _) h.rise) (fun i hi=>h.lt hi)
 have:=h.most
 omega
theorem Inv.each {E:List EDoc} {Ws:List (List Nat)} (h:Inv E Ws):∀ I∈Ws,(∀ i∈I,i < E.length)∧I.length≤100:=fun I hI=>by
 have g:=h.good I hI
 have:=rise_len g.rise g.lt
 have:=h.most
 exact ⟨g.lt,by omega⟩
theorem Inv.ret {E:List EDoc} {Ws:List (List Nat)} (h:Inv E Ws) (key:Bs):Inv (retE E key) Ws :=
 ⟨GDoc.ret h.doc,by rw [retE_len];exact h.most,h.rise.sublist ((List.Sublist.refl _).append (waitI_ret E 0 key)),fun I hI=>(h.good I hI).of_eR (by rw [retE_len];exact Nat.le_refl _) (by rw [eR_ret])⟩
theorem bytes_ret (E:List EDoc) (Ws:List (List Nat)) (key:Bs):bytesOf (retE E key) Ws=bytesOf E Ws:=by unfold bytesOf;rw [eR_ret]
theorem Inv.add {E:List EDoc} {Ws:List (List Nat)} (h:Inv E Ws) (key text:Bs):Inv (addE E key text) Ws:=by
 unfold addE
 split
 ·rename_i hr
  obtain ⟨h1,h2,h3,h4⟩:=addRes_zero _ _ _ hr
  have g:=h.ret key
  have hl:=retE_len E key
  refine ⟨fun d hd=>?_,?_,?_,fun I hI=>(g.good I hI).of_eR (by simp) ?_⟩
  ·rcases List.mem_append.1 hd with hd | hd
   ·exact g.doc d hd
   ·rw [List.mem_singleton] at hd
    subst hd
    have:=fin_tot text false [] 0 []
    have e0:toks text=fin text false [] 0 []:=rfl
    rw [← e0] at this
    have e1:tot []=0:=rfl
    simp only [e1,List.length_nil,Bool.toNat_false] at this
    exact ⟨h1,h3,fun t ht=>isTok_of (toks_good text t ht),by simp only;omega,fun _=>rfl⟩
  ·have:=h.most
   rw [List.length_append,hl]
   simp
   omega
  ·rw [waitI_snoc,Nat.zero_add]
   simp only [if_true]
   rw [← List.append_assoc]
   refine List.pairwise_append.2 ⟨g.rise,by simp,fun a ha b hb=>?_⟩
   rw [List.mem_singleton] at hb
   subst hb
   rcases List.mem_append.1 ha with ha | ha
   ·exact g.lt ha
   ·obtain ⟨d,hd,_⟩:=waitI_at ha
    exact (List.getElem?_eq_some_iff.1 hd).1
  ·rw [eR_snoc]
   exact pick_app (fun i hi=>by rw [eR_len];exact (g.good I hI).lt i hi)
 ·exact h
theorem bytes_add {E:List EDoc} {Ws:List (List Nat)} (h:Inv E Ws) (key text:Bs):bytesOf (addE E key text) Ws=bytesOf E Ws:=by
 unfold addE
 split
 ·rw [← bytes_ret E Ws key]
  unfold bytesOf
  refine List.map_congr_left (fun I hI=>?_)
  rw [eR_snoc,pick_app (fun i hi=>by rw [eR_len];exact ((h.ret key).good I hI).lt i hi)]
 ·rfl
theorem Inv.waitGood {E:List EDoc} {Ws:List (List Nat)} (h:Inv E Ws) (hu:UniqK (keysE E)) (hne:waitI 0 E≠[]):GoodI E (waitI 0 E) :=
 could_pick h.doc h.most hu (waitI_rise E 0) (fun i hi=>by
  obtain ⟨d,h1,h2⟩:=waitI_at hi
  exact ⟨d,h1,(h.doc d (List.mem_of_getElem? h1)).live h2⟩) hne
theorem Inv.wait {E:List EDoc} {Ws:List (List Nat)} (h:Inv E Ws) (hu:UniqK (keysE E)):waitR 0 E=[]∨Could (waitR 0 E):=by
 rw [waitR_pick]
 by_cases hne:waitI 0 E=[]
 ·rw [hne];exact Or.inl rfl
 ·exact Or.inr (h.waitGood hu hne).could
theorem GDoc.flush {E:List EDoc} (h:∀ d∈E,GDoc d):∀ d∈flushE E,GDoc d:=fun d hd=>by
 obtain ⟨d0,h0,rfl⟩:=List.mem_map.1 hd
 have g:=h d0 h0
 exact ⟨g.key,g.len,g.toks,g.tot,fun h=>by cases h⟩
theorem Inv.flush {E:List EDoc} {Ws:List (List Nat)} (h:Inv E Ws) (hu:UniqK (keysE E)):Inv (flushE E) (flushWs Ws (waitI 0 E)):=by
 have keep:∀ {I},GoodI E I→GoodI (flushE E) I:=fun {I} g=>g.of_eR (by rw [flushE_len];exact Nat.le_refl _) (by rw [eR_flush])
 refine ⟨GDoc.flush h.doc,by rw [flushE_len];exact h.most,?_,?_⟩
 ·rw [waitI_flush,List.append_nil]
  unfold flushWs
  split
  ·exact List.Pairwise.sublist (List.sublist_append_left _ _) h.rise
  ·rw [List.flatten_append]
   simpa using h.rise
 ·unfold flushWs
  split
  ·exact fun I hI=>keep (h.good I hI)
  ·rename_i hne
   intro I hI
   rcases List.mem_append.1 hI with hI | hI
   ·exact keep (h.good I hI)
   ·rw [List.mem_singleton] at hI
    subst hI
    exact keep (h.waitGood hu hne)
theorem pick_nil_iff {E:List EDoc} {I:List Nat} (hI:∀ i∈I,i < E.length):pick (eR 0 E) I=[] ↔ I=[]:=by
 constructor
 ·intro h
  have:=pick_len (l:=eR 0 E) (I:=I) (fun i hi=>by rw [eR_len];exact hI i hi)
  rw [h] at this
  exact List.eq_nil_of_length_eq_zero this.symm
 ·rintro rfl;rfl
theorem segOf_pick {E:List EDoc} {I:List Nat} (hI:∀ i∈I,i < E.length) (Ws:List (List Nat)):bytesOf E (flushWs Ws I)=bytesOf E Ws++segOf (pick (eR 0 E) I):=by
 unfold flushWs segOf
 by_cases h:I=[]
 ·rw [if_pos h,if_pos ((pick_nil_iff hI).2 h)];simp
 ·rw [if_neg h,if_neg (fun e=>h ((pick_nil_iff hI).1 e))]
  simp [bytesOf]
theorem bytes_flush {E:List EDoc} (Ws:List (List Nat)):bytesOf (flushE E) (flushWs Ws (waitI 0 E))=bytesOf E Ws++segOf (waitR 0 E):=by
 have e:∀ W,bytesOf (flushE E) W=bytesOf E W:=fun W=>by unfold bytesOf;rw [eR_flush]
 rw [e,waitR_pick]
 exact segOf_pick (fun i hi=>by
  obtain ⟨d,h1,_⟩:=waitI_at hi
  exact (List.getElem?_eq_some_iff.1 h1).1) Ws
theorem rise_unique:∀ {a b:List Nat},a.Pairwise (· < ·)→b.Pairwise (· < ·)→(∀ x,x∈a ↔ x∈b)→a=b
 | [],[],_,_,_=>rfl
 | [],y :: b,_,_,h=>by have:=(h y).2 (by simp);simp at this
 | x :: a,[],_,_,h=>by have:=(h x).1 (by simp);simp at this
 | x :: a,y :: b,ha,hb,h=>by
   have h1:=List.pairwise_cons.1 ha
   have h2:=List.pairwise_cons.1 hb
   have e:x=y:=by
    rcases List.mem_cons.1 ((h x).1 (by simp)) with e | e
    ·exact e
    ·rcases List.mem_cons.1 ((h y).2 (by simp)) with e' | e'
     ·exact e'.symm
     ·have:=h1.1 y e'
      have:=h2.1 x e
      omega
   subst e
   congr 1
   refine rise_unique h1.2 h2.2 (fun z=>?_)
   constructor
   ·intro hz
    rcases List.mem_cons.1 ((h z).1 (List.mem_cons_of_mem _ hz)) with e | e
    ·have:=h1.1 z hz;omega
    ·exact e
   ·intro hz
    rcases List.mem_cons.1 ((h z).2 (List.mem_cons_of_mem _ hz)) with e | e
    ·have:=h2.1 z hz;omega
    ·exact e
theorem mergeI_eq {E:List EDoc} {J:List Nat} (hr:J.Pairwise (· < ·)) (hlt:∀ i∈J,i < E.length):mergeI E J E.length=J.filter (liveAt E):=by
 refine rise_unique (List.Pairwise.sublist List.filter_sublist List.pairwise_lt_range) (List.Pairwise.sublist List.filter_sublist hr) (fun x=>?_)
 unfold mergeI liveAt
 simp only [List.mem_filter,List.mem_range,Bool.and_eq_true,decide_eq_true_eq]
 constructor
 ·rintro ⟨_,h1,h2⟩;exact ⟨h1,h2⟩
 ·rintro ⟨h1,h2⟩;exact ⟨hlt x h1,h1,h2⟩
theorem liveB_at {E:List EDoc} (hu:UniqK (keysE E)) {i:Nat} {d:EDoc} (h:E[i]?=some d) (n:Nat):liveB E (i+1,d.key,n)=d.live:=by
 unfold liveB
 have hk:(keysE E)[i]?=some (d.key,d.live):=by simp [keysE,h]
 cases hf:findK (keysE E) d.key with
 | none =>
   simp only
   cases hd:d.live with
   | false=>simp
   | true =>
     have:=(findK_iff (keysE E) d.key).2 ⟨i,_,hk,hd,rfl⟩
     rw [hf] at this
     cases this
 | some j =>
   obtain ⟨d',h1,h2,h3⟩:=findK_at _ _ _ hf
   simp only
   cases hd:d.live with
   | true =>
     have:i=j:=hu i j _ d' hk h1 hd h2 h3.symm
     simp [this]
   | false =>
     have:j≠i:=by
      rintro rfl
      rw [hk] at h1
      cases h1
      rw [hd] at h2
      cases h2
     simp [this]
theorem want_pick {E:List EDoc} (hu:UniqK (keysE E)):∀ {J:List Nat},(∀ i∈J,i < E.length)→wantR (liveB E) (pick (eR 0 E) J)=pick (eR 0 E) (J.filter (liveAt E))
 | [],_=>rfl
 | i :: r,h=>by
   have ih:=want_pick hu (J:=r) (fun j hj=>h j (by simp [hj]))
   have hi:=h i (by simp)
   have hq:E[i]?=some E[i]:=List.getElem?_eq_getElem hi
   have hg:(eR 0 E)[i]?=some (E[i].key,0+i+1,E[i].toks):=by rw [eR_get,hq];rfl
   have e1:pick (eR 0 E) (i :: r)=(E[i].key,0+i+1,E[i].toks) :: pick (eR 0 E) r:=by
    unfold pick
    rw [List.filterMap_cons,hg]
   have e2:liveAt E i=E[i].live:=by unfold liveAt;rw [hq];rfl
   have e3:=liveB_at hu hq E[i].toks.length
   rw [e1,List.filter_cons,e2]
   unfold wantR at ih ⊢
   rw [List.filter_cons]
   simp only [Nat.zero_add] at e3 hg ⊢
   rw [e3]
   split
   ·rw [ih]
    unfold pick
    rw [List.filterMap_cons,hg]
   ·exact ih
theorem pick_flat {α:Type} (l:List α):∀ Ws:List (List Nat),(Ws.map (pick l)).flatten=pick l Ws.flatten
 | []=>rfl
 | a :: r=>by
   have ih:=pick_flat l r
   unfold pick at ih ⊢
   rw [List.map_cons,List.flatten_cons,List.flatten_cons,List.filterMap_append,ih]
theorem Inv.merge {E:List EDoc} {Ws:List (List Nat)} (h:Inv E Ws) (hu:UniqK (keysE E)) :
 Inv E (flushWs [] (mergeI E Ws.flatten E.length))∧wantR (liveB E) (Ws.map (pick (eR 0 E))).flatten=pick (eR 0 E) (mergeI E Ws.flatten E.length)∧bytesOf E (flushWs [] (mergeI E Ws.flatten E.length))=segOf (wantR (liveB E) (Ws.map (pick (eR 0 E))).flatten)∧(wantR (liveB E) (Ws.map (pick (eR 0 E))).flatten=[]∨Could (wantR (liveB E) (Ws.map (pick (eR 0 E))).flatten)):=by
 have hr:Ws.flatten.Pairwise (· < ·):=List.Pairwise.sublist (List.sublist_append_left _ _) h.rise
 have hlt:∀ i∈Ws.flatten,i < E.length:=fun i hi=>h.lt hi
 have e1:=mergeI_eq hr hlt
 have e2:wantR (liveB E) (Ws.map (pick (eR 0 E))).flatten=pick (eR 0 E) (mergeI E Ws.flatten E.length):=by
  rw [pick_flat,want_pick hu hlt,e1]
 have hl:∀ i∈mergeI E Ws.flatten E.length,i < E.length:=fun i hi=>by
  rw [e1] at hi
  exact hlt i (List.mem_filter.1 hi).1
 have hs:(mergeI E Ws.flatten E.length).Sublist Ws.flatten:=by rw [e1];exact List.filter_sublist
 have hg:mergeI E Ws.flatten E.length≠[]→GoodI E (mergeI E Ws.flatten E.length):=fun hne=>by
  refine could_pick h.doc h.most hu (hr.sublist hs) (fun i hi=>?_) hne
  have hi':=hl i hi
  rw [e1] at hi
  have h2:=(List.mem_filter.1 hi).2
  unfold liveAt at h2
  rw [List.getElem?_eq_getElem hi'] at h2
  exact ⟨E[i],List.getElem?_eq_getElem hi',h2⟩
 refine ⟨⟨h.doc,h.most,?_,?_⟩,e2,?_,?_⟩
 ·refine h.rise.sublist (List.Sublist.append ?_ (List.Sublist.refl _))
  unfold flushWs
  split
  ·simp
  ·simpa using hs
 ·unfold flushWs
  split
  ·simp
  ·rename_i hne
   intro I hI
   simp at hI
   subst hI
   exact hg hne
 ·rw [e2,segOf_pick hl]
  simp [bytesOf]
 ·rw [e2]
  by_cases hne:mergeI E Ws.flatten E.length=[]
  ·rw [hne];exact Or.inl rfl
  ·exact Or.inr (hg hne).could
theorem Inv.fits {E:List EDoc} {Ws:List (List Nat)} (h:Inv E Ws):∀ l∈Ws.map (pick (eR 0 E)),Could l∧(wrt (cont l)).length≤60000:=fun l hl=>by
 obtain ⟨I,hI,rfl⟩:=List.mem_map.1 hl
 have g:=h.good I hI
 refine ⟨g.could,wrt_fits g.could (fun d hd=>?_)⟩
 obtain ⟨i,hi,hx⟩:=List.mem_filterMap.1 hd
 rw [eR_get] at hx
 cases hq:E[i]? with
 | none=>rw [hq] at hx;simp at hx
 | some d0 =>
   rw [hq] at hx
   simp at hx
   subst hx
   exact (h.doc d0 (List.mem_of_getElem? hq)).tot
theorem bytesOf_map (E:List EDoc) (Ws:List (List Nat)):bytesOf E Ws=(Ws.map (pick (eR 0 E))).map (fun l=>wrt (cont l)):=by simp [bytesOf]
theorem EngXOk.uniq {w:World} {Z:Nat→Prop} {e:Nat} {E:List EDoc} {ss:List Bs} (hE:EngXOk w Z e E ss):UniqK (keysE E):=by
 obtain ⟨ml,mw,sv,dv,T,nW,DL,DW,h1⟩:=hE
 exact h1.rel.uniq
end Go.Proofs.YtaacjjhmojecnaaGreatDoor
namespace Go.Proofs.YtaacjjhmojecnaaGreatDoor
open Go.RowKit Go.ScT Go.Proofs Go.Shelf
def told (L:List UInt8):List UInt8:=Lib.join (toks L) [32]
set_option maxHeartbeats 400000 in
theorem tokens_long (s:ByteArray) (w:World) (hs:200 < s.size) (hm:s.size≤maxLen) :
 Calls Tryz.prog 31 #[.string s] w fun e w'=>e=.returned (.tuple #[.string ⟨#[]⟩,.int .i64 2])∧w'=w:=by
 unfold maxLen at hm
 go_enter Tryz.func31,Tryz.ntmps31
 go_wp2
 go_ret2
 exact ⟨rfl,rfl⟩
theorem join_owned (ts:List (List UInt8)) (v:Value) (w:World) (B:Nat) (h:w.ownsRow B 9 1 v ts.length (ts.map strV)) (hl:(Lib.join ts [32]).length≤1000000) (hn:ts.length≤1000000) :
 Calls Tryz.prog 56 #[v,.string ⟨#[32]⟩] w fun e w'=>e=.returned (.string ⟨(Lib.join ts [32]).toArray⟩)∧Below w.heap.size w w':=by
 rcases h.2 with ⟨rfl,h0⟩ | ⟨g,cap,cur,rfl,hg,hb,h1,h2,h3,h4⟩
 ·have:ts=[]:=List.length_eq_zero_iff.1 h0
  subst this
  refine (Tryz.strings_Join_none none 0 ⟨#[32]⟩ w).mono fun e w' ⟨he,hw⟩=>⟨he,hw ▸ Below.refl _ _⟩
 ·have hc:=Tryz.strings_Join g 0 cap (ts.map fun t=>⟨t.toArray⟩) ⟨#[32]⟩ w (fun j x hj=>by
   rw [List.getElem?_map] at hj
   obtain ⟨t,ht,rfl⟩:=Option.map_eq_some_iff.1 hj
   have hlt:=(List.getElem?_eq_some_iff.1 ht).1
   rw [Nat.zero_add,h.cellAt j (by omega),List.getElem?_map,ht]
   rfl) ((h.lt g rfl).2) (by simp;omega) (by simpa using h1) (by simp [Function.comp_def];omega)
  have e1:(ts.map fun t=>(⟨t.toArray⟩:ByteArray)).map (·.data.toList)=ts:=by simp [Function.comp_def]
  have e2:(ts.map fun t=>(⟨t.toArray⟩:ByteArray)).length=ts.length:=by simp
  rw [e1,e2] at hc
  exact hc
set_option maxHeartbeats 400000 in
theorem tokens_ok (s:ByteArray) (w:World) (hs:s.size≤200) :
 Calls Tryz.prog 31 #[.string s] w fun e w'=>e=.returned (.tuple #[.string ⟨(told s.data.toList).toArray⟩,.int .i64 0])∧Below w.heap.size w w':=by
 have hj:=toks_join_le s.data.toList
 have hn:=toks_len_le s.data.toList
 have hsz:s.data.toList.length=s.size:=by simp
 rw [hsz] at hj hn
 have HJ:Hid ((Lib.join (toks s.data.toList) [32]).length≤1000000∧(toks s.data.toList).length≤1000000):=⟨by omega,by omega⟩
 clear hj hn hsz
 go_enter Tryz.func31,Tryz.ntmps31
 go_wp2_with (first
  | (go_at_call 54;refine (split_any _ _ (by omega)).mono ?_;rintro e w1 ⟨v,rfl,hown,hb1⟩)
  | (go_at_call 56;refine (join_owned _ _ _ _ hown HJ.out.1 HJ.out.2).mono ?_;rintro e w2 ⟨rfl,hb2⟩))
 go_ret2
 exact ⟨rfl,hb1.trans (hb2.mono hb1.size)⟩
end Go.Proofs.YtaacjjhmojecnaaGreatDoor
namespace Go.Proofs.YtaacjjhmojecnaaGreatDoor
open Go.RowKit Go.ScT Go.Proofs
theorem tot_take (l:List (List UInt8)) (k:Nat):tot (l.take k)≤tot l:=by
 induction l generalizing k with
 | nil=>simp
 | cons x r ih =>
   cases k with
   | zero=>simp [tot]
   | succ k=>have:=ih k;simp [tot] at this ⊢;omega
theorem tot_at (l:List (List UInt8)) (k:Nat) (t:List UInt8) (h:l[k]?=some t):t.length+1≤tot l:=by
 induction l generalizing k with
 | nil=>simp at h
 | cons x r ih =>
   cases k with
   | zero=>simp at h;subst h;simp [tot]
   | succ k=>have:=ih k (by simpa using h);simp [tot] at this ⊢;omega
theorem join_le_tot (l:List (List UInt8)):(Lib.join l [32]).length≤tot l:=by
 cases l with
 | nil=>simp [Lib.join,List.intercalate]
 | cons x r=>have:=join_tot x r;omega
theorem toks_tot (L:List UInt8):tot (toks L)≤L.length+1:=by
 have h:=fin_tot L false [] 0 []
 rw [show fin L false [] 0 []=toks L from rfl] at h
 simp only [tot,List.map_nil,List.sum_nil,List.length_nil,Bool.toNat_false] at h ⊢
 omega
theorem join_take_zero (l:List (List UInt8)) (t:List UInt8) (h:l[0]?=some t):Lib.join (l.take 1) [32]=t:=by
 cases l with
 | nil=>simp at h
 | cons x r=>simp at h;subst h;simp [Lib.join_one]
theorem join_take_succ (l:List (List UInt8)) (k:Nat) (t:List UInt8) (hk:0 < k) (h:l[k]?=some t):Lib.join (l.take (k+1)) [32]=Lib.join (l.take k) [32]++[32]++t:=by
 have hlt:=(List.getElem?_eq_some_iff.1 h).1
 rw [List.take_add_one,h]
 have:=join_append (l.take k) [t] (by intro e;have:=congrArg List.length e;rw [List.length_take] at this;simp only [List.length_nil] at this;omega) (by simp)
 rw [Lib.join_one] at this
 simpa using this
set_option maxHeartbeats 400000 in
theorem refTokens_long (s:ByteArray) (w:World) (hs:200 < s.size) (hm:s.size≤maxLen) :
 Calls Tryz.prog 33 #[.string s] w fun e w'=>e=.returned (.tuple #[.string ⟨#[]⟩,.int .i64 2])∧w'=w:=by
 unfold maxLen at hm
 go_enter Tryz.func33,Tryz.ntmps33
 go_wp2
 go_ret2
 exact ⟨rfl,rfl⟩
theorem cat_three (a b:List UInt8):((⟨a.toArray⟩:ByteArray)++⟨#[32]⟩++⟨b.toArray⟩)=⟨(a++[32]++b).toArray⟩:=by
 apply ByteArray.ext
 simp
set_option maxHeartbeats 1000000 in
set_option maxRecDepth 1000000 in
theorem refTokens_ok (s:ByteArray) (w:World) (hs:s.size≤200) :
 Calls Tryz.prog 33 #[.string s] w fun e w'=>e=.returned (.tuple #[.string ⟨(told s.data.toList).toArray⟩,.int .i64 0])∧Below w.heap.size w w':=by
 have hsz:s.data.toList.length=s.size:=by simp
 have htt:=toks_tot s.data.toList
 have htl:=toks_len_le s.data.toList
 rw [hsz] at htt htl
 have cS:=refSplit_any s w (by omega)
 obtain ⟨T,hTe⟩:∃ T,toks s.data.toList=T:=⟨_,rfl⟩
 have HT:Hid (told s.data.toList=Lib.join T [32]):=show _=_ by unfold told;rw [hTe]
 rw [hTe] at cS htt htl
 clear hTe hsz
 go_enter Tryz.func33,Tryz.ntmps33
 go_wp2_with (go_at_call 57;refine cS.mono ?_;rintro e w1 ⟨v,rfl,hown,hb1⟩)
 clear cS
 have hv:∃ (g cap:Nat) (ao:Option Addr),v=.slice ao T.length cap∧(0 < T.length→ao=some ⟨g,0,none⟩):=by
  rcases hown.2 with ⟨h1,h2⟩ | ⟨g,cap,cur,h1,_⟩
  ·exact ⟨0,0,none,by rw [h1,h2],fun h=>by omega⟩
  ·exact ⟨g,cap,some ⟨g,0,none⟩,h1,fun _=>rfl⟩
 obtain ⟨g,cap,ao,hve,hao⟩:=hv
 have HC:Hid (∀ (j:Nat) (t:List UInt8),T[j]?=some t→ao=some ⟨g,0,none⟩∧g < w1.heap.size∧w1.cell? ⟨g,j,none⟩=some (.string ⟨t.toArray⟩)):=by
  intro j t hj
  have hlt:=(List.getElem?_eq_some_iff.1 hj).1
  have h1:=hao (by omega)
  rw [hve,h1] at hown
  refine ⟨h1,(hown.lt g rfl).2,?_⟩
  rw [hown.cellAt j (by omega),List.getElem?_map,hj]
  rfl
 rw [hve]
 clear hown hve hao
 go_loopw [5,6] (fun s5 s6 wr=>∃ (k:Nat) (J:List UInt8),k≤T.length∧s6=.int .i64 (k:Int)∧s5=.string ⟨J.toArray⟩∧Hid (Lib.join (T.take k) [32]=J)∧∃ q,wr=w1.drewN q) (fun _ s6 _=>T.length - (intOf s6).toNat)
 case atStart=>exact ⟨0,[],by omega,rfl,rfl,rfl,0,rfl⟩
 case round =>
  obtain ⟨k,J,hk,rfl,rfl,HJ0,q,rfl⟩:=hrel
  by_cases hlt:k < T.length
  ·obtain ⟨t,ht⟩:∃ t,T[k]?=some t:=⟨_,List.getElem?_eq_getElem hlt⟩
   obtain ⟨rfl,hg,hc⟩:=HC.out k t ht
   have h1:=tot_at T k t ht
   have h2:=join_le_tot (T.take k)
   have h3:=tot_take T k
   rw [HJ0.out] at h2
   have hJl:J.length≤1000:=by omega
   have htl2:t.length≤1000:=by omega
   clear h1 h2 h3
   by_cases hk0:k=0
   ·subst hk0
    have HJ:Hid (Lib.join (T.take (0+1)) [32]=J++t):=show _=_ by
     rw [← HJ0.out]
     exact join_take_zero T t ht
    clear ht
    go_wp2
    go_roundw
    case rel=>exact ⟨0+1,J++t,by omega,by go_num,congrArg Value.string (cat_two J t),HJ,_,rfl⟩
    case measure=>simp [intOf];omega
   ·have HJ:Hid (Lib.join (T.take (k+1)) [32]=J++[32]++t):=show _=_ by rw [← HJ0.out];exact join_take_succ T k t (by omega) ht
    have hkp:(0:Int) < (k:Int):=by omega
    clear ht hk0
    go_wp2
    go_roundw
    case rel=>exact ⟨k+1,J++[32]++t,by omega,by go_num,congrArg Value.string (cat_three J t),HJ,_,rfl⟩
    case measure=>simp [intOf];omega
  ·have hkz:¬ ((k:Int) < (T.length:Int)):=by omega
   have HE:Hid (J=told s.data.toList):=show _=_ by
    rw [← HJ0.out,HT.out,List.take_of_length_le (by omega)]
   clear HT HJ0
   go_wp2
   go_ret2
   refine ⟨?_,?_⟩
   ·have:=HE.out
    subst this
    rfl
   ·exact below_drewN hb1 q
end Go.Proofs.YtaacjjhmojecnaaGreatDoor
