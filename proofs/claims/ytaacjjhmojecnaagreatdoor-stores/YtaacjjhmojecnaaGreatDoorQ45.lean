import Derived.Test.YtaacjjhmojecnaaGreatDoorQ44
import Derived.Laws.OwnMore
namespace Go.Proofs.YtaacjjhmojecnaaGreatDoor
open Go.RowKit Go.ScT Go.Proofs
def pick {α:Type} (l:List α) (I:List Nat):List α:=I.filterMap (fun i=>l[i]?)
theorem pick_snoc {α:Type} {l:List α} {I:List Nat} {k i:Nat} {x:α} (hk:I[k]?=some i) (hi:l[i]?=some x):pick l (I.take (k+1))=pick l (I.take k)++[x]:=by
 unfold pick
 rw [List.take_add_one,hk,List.filterMap_append]
 simp [hi]
theorem pick_len {α:Type} {l:List α}:∀ {I:List Nat},(∀ i∈I,i < l.length)→(pick l I).length=I.length
 | [],_=>rfl
 | i :: r,h=>by
   have:=pick_len (l:=l) (I:=r) (fun j hj=>h j (by simp [hj]))
   unfold pick at this ⊢
   rw [List.filterMap_cons,List.getElem?_eq_getElem (h i (by simp))]
   simp [this]
theorem pick_get {α:Type} {l:List α}:∀ {I:List Nat} {k:Nat},(∀ i∈I,i < l.length)→(pick l I)[k]?=(I[k]?).bind (fun i=>l[i]?)
 | [],k,_=>by simp [pick]
 | i :: r,0,h=>by
   unfold pick
   rw [List.filterMap_cons,List.getElem?_eq_getElem (h i (by simp))]
   simp [List.getElem?_eq_getElem (h i (by simp))]
 | i :: r,k+1,h=>by
   have:=pick_get (l:=l) (I:=r) (k:=k) (fun j hj=>h j (by simp [hj]))
   unfold pick at this ⊢
   rw [List.filterMap_cons,List.getElem?_eq_getElem (h i (by simp))]
   simp [this]
structure GoodI (E:List EDoc) (I:List Nat):Prop where
 lt:∀ i∈I,i < E.length
 rise:I.Pairwise (· < ·)
 could:Could (pick (eR 0 E) I)
theorem info185:(Tryz.prog.info? 185).map (fun i=>(i.zero,i.size,i.bytes))=some (some (.agg #[.string ⟨#[]⟩,.int .i64 0,.slice none 0 0]),3,48):=info77
theorem docsAt_pick {w W:World} {Z:Nat→Prop} {y:Nat} {E:List EDoc} {Ws:List (List Nat)} {v1 v2 v3 v4 v:Value} {tvs svs:List Value} {I:List Nat} {b:Nat} (h:RefX w Z y E Ws v1 v2 v3 v4 tvs svs) (hI:GoodI E I) (hb:Below w.heap.size w W) (hrow:W.ownsRow b 185 3 v I.length (docCells (pick (eR 0 E) I) (pick tvs I))):DocsAt W 0 v (pick (eR 0 E) I) (pick tvs I):=by
 have htl:tvs.length=E.length:=by rw [h.docs.len,eR_len]
 have h1:∀ i∈I,i < (eR 0 E).length:=fun i hi=>by rw [eR_len];exact hI.lt i hi
 have h2:∀ i∈I,i < tvs.length:=fun i hi=>by rw [htl];exact hI.lt i hi
 refine ⟨?_,by rw [pick_len h1,pick_len h2],fun k d t hd ht=>?_,fun i j a b' g ha hb' hga hgb=>?_⟩
 ·rw [pick_len h1];exact hrow.mono (Nat.zero_le _)
 ·rw [pick_get h1] at hd
  rw [pick_get h2] at ht
  obtain ⟨i,hi,hd'⟩:=Option.bind_eq_some_iff.1 hd
  rw [hi] at ht
  exact ownsRow_turned (h.docs.toks i d t hd' (by simpa using ht)) (Turned.ofBelow (Z:=fun _=>False) hb) (fun _ _ h=>h)
 ·rw [pick_get h2] at ha hb'
  obtain ⟨x,hx,ha'⟩:=Option.bind_eq_some_iff.1 ha
  obtain ⟨x',hx',hb''⟩:=Option.bind_eq_some_iff.1 hb'
  have hxx:=h.docs.apart x x' a b' g ha' hb'' hga hgb
  subst hxx
  obtain ⟨p1,p2⟩:=List.getElem?_eq_some_iff.1 hx
  obtain ⟨q1,q2⟩:=List.getElem?_eq_some_iff.1 hx'
  rcases Nat.lt_trichotomy i j with hij | hij | hij
  ·have:=List.pairwise_iff_getElem.1 hI.rise i j p1 q1 hij;omega
  ·exact hij
  ·have:=List.pairwise_iff_getElem.1 hI.rise j i q1 p1 hij;omega
theorem docCells_pick {E:List EDoc} {tvs:List Value} {I:List Nat} {k i:Nat} {d:DocR} {t:Value} (hI:∀ i∈I,i < E.length) (htl:tvs.length=E.length) (hk:I[k]?=some i) (hd:(eR 0 E)[i]?=some d) (ht:tvs[i]?=some t):docCells (pick (eR 0 E) (I.take (k+1))) (pick tvs (I.take (k+1)))=docCells (pick (eR 0 E) (I.take k)) (pick tvs (I.take k))++[.string ⟨d.1.toArray⟩,natV d.2.1,t]:=by
 rw [pick_snoc hk hd,pick_snoc hk ht,docCells_snoc]
 have h1:∀ i∈I.take k,i < (eR 0 E).length:=fun i hi=>by rw [eR_len];exact hI i (List.mem_of_mem_take hi)
 have h2:∀ i∈I.take k,i < tvs.length:=fun i hi=>by rw [htl];exact hI i (List.mem_of_mem_take hi)
 rw [pick_len h1,pick_len h2]
def bytesOf (E:List EDoc) (Ws:List (List Nat)):List Bs:=Ws.map fun I=>wrt (cont (pick (eR 0 E) I))
set_option maxHeartbeats 2000000 in
set_option maxRecDepth 1000000 in
theorem refDumpE_any {w:World} {Z:Nat→Prop} {y:Nat} {E:List EDoc} {Ws:List (List Nat)} (h:RefXOk w Z y E Ws) (hl:E.length≤100) (hws:Ws.length≤1000) (s:Int) (hg:∀ I∈Ws,GoodI E I) :
 Calls Tryz.prog 116 #[.pointer (some ⟨y,0,none⟩),.int .i64 s] w fun e w'=>e=.returned (.tuple #[lstV (dumpRes (bytesOf E Ws) s).1,.int .i64 (dumpRes (bytesOf E Ws) s).2])∧Below w.heap.size w w':=by
 obtain ⟨i185,hi185,a0,a1,a2⟩:=info_parts info185
 obtain ⟨v1,v2,v3,v4,tvs,svs,h⟩:=h
 have hkl:(keysE E).length=E.length:=by simp [keysE]
 have htl:tvs.length=E.length:=by rw [h.docs.len,eR_len]
 have hsl:svs.length=Ws.length:=by have:=h.own4.1;omega
 obtain ⟨g1,cap1,ao1,rfl,_,hao1⟩:=ownsRow_shape h.ref.own1
 obtain ⟨g4,cap4,ao4,rfl,_,hao4⟩:=ownsRow_shape h.own4
 have hdl:(bytesOf E Ws).length=Ws.length:=by simp [bytesOf]
 obtain ⟨c0,c1,c2,c3⟩:=cell_four h.ref.eng
 rw [hkl] at c0 hao1 h
 obtain ⟨N,hN⟩:∃ N,N=E.length:=⟨_,rfl⟩
 obtain ⟨M,hM⟩:∃ M,M=Ws.length:=⟨_,rfl⟩
 rw [← hN] at c0 hao1 h hl
 rw [← hM] at c3 hao4 h hws
 by_cases h0:s < 0
 ·have hd:dumpRes (bytesOf E Ws) s=([],7):=by simp [dumpRes,h0]
  rw [hd]
  clear h hd hN hM hdl hkl htl hsl hg
  go_enter Tryz.func116,Tryz.ntmps116
  go_wp2
  go_ret2
  exact ⟨rfl,Below.refl _ _⟩
 ·by_cases h1:s.toNat < M
  ·obtain ⟨p,rfl⟩:∃ p:Nat,s=(p:Int):=⟨s.toNat,by omega⟩
   have hp:p < M:=by omega
   obtain ⟨I,hI⟩:∃ I,Ws[p]?=some I:=⟨_,List.getElem?_eq_getElem (by omega)⟩
   obtain ⟨sv,hsv⟩:∃ sv,svs[p]?=some sv:=⟨_,List.getElem?_eq_getElem (by omega)⟩
   have hGI:=hg I (List.mem_of_getElem? hI)
   have hd:dumpRes (bytesOf E Ws) (p:Int)=(wrt (cont (pick (eR 0 E) I)),0):=by simp [dumpRes,bytesOf,hI,h0]
   have hrow:=h.rows p I sv hI hsv
   obtain ⟨gs,caps,aos,rfl,_,haos⟩:=ownsRow_shape hrow
   obtain ⟨n,hn⟩:∃ n,n=I.length:=⟨_,rfl⟩
   have hn1:1≤n:=by
    have:=hGI.could.some_
    rw [pick_len (fun i hi=>by rw [eR_len];exact hGI.lt i hi)] at this
    omega
   have hnN:n≤100:=by
    have:=hGI.could.most
    rw [pick_len (fun i hi=>by rw [eR_len];exact hGI.lt i hi)] at this
    omega
   obtain rfl:=hao4 (by omega)
   obtain rfl:=haos (by omega)
   have hE1:1≤N:=by
    obtain ⟨i,hi⟩:∃ i,I[0]?=some i:=⟨_,List.getElem?_eq_getElem (by omega)⟩
    have:=hGI.lt i (List.mem_of_getElem? hi)
    omega
   obtain rfl:=hao1 (by omega)
   rw [← hn] at hrow
   have hg1l:=(h.docs.row.lt g1 rfl).2
   have hg4l:=(h.own4.lt g4 rfl).2
   have hgsl:=(hrow.lt gs rfl).2
   have hyl:=lt_of_block h.ref.eng
   have r1:w.ownsRow 0 185 3 (.slice (some ⟨g1,0,none⟩) N cap1) N (docCells (eR 0 E) tvs):=by have:=h.docs.row;rw [eR_len,← hN] at this;exact this
   have r4:w.ownsRow 0 35 1 (.slice (some ⟨g4,0,none⟩) M cap4) M svs:=by have:=h.own4;rw [← hM] at this;exact this
   have CELL:Hid (∀ W,Below w.heap.size w W→W.cell? ⟨y,0,none⟩=some (.slice (some ⟨g1,0,none⟩) N cap1)∧W.cell? ⟨y,3,none⟩=some (.slice (some ⟨g4,0,none⟩) M cap4)∧W.cell? ⟨g4,p,none⟩=some (.slice (some ⟨gs,0,none⟩) n caps)):=fun W hW=>⟨(hW.cell (p:=⟨y,0,none⟩) hyl).trans c0,(hW.cell (p:=⟨y,3,none⟩) hyl).trans c3,by
    rw [(hW.cell (p:=⟨g4,p,none⟩) hg4l),r4.cellAt p (by omega),hsv,hn]⟩
   have CELK:Hid (∀ k,k < n→∃ i d t,I[k]?=some i∧(eR 0 E)[i]?=some d∧tvs[i]?=some t∧i < N∧d.2.1=i+1∧(∃ ta tn tc,t=.slice ta tn tc)∧∀ W,Below w.heap.size w W→W.cell? ⟨gs,k,none⟩=some (.int .i64 (i:Int))∧W.cell? ⟨g1,i * 3,none⟩=some (.string ⟨d.1.toArray⟩)∧W.cell? ⟨g1,i * 3+1,none⟩=some (.int .i64 (d.2.1:Int))∧W.cell? ⟨g1,i * 3+2,none⟩=some t):=by
    intro k hk
    obtain ⟨i,hi⟩:∃ i,I[k]?=some i:=⟨_,List.getElem?_eq_getElem (by omega)⟩
    have hiE:=hGI.lt i (List.mem_of_getElem? hi)
    obtain ⟨d,hd⟩:∃ d,(eR 0 E)[i]?=some d:=⟨_,List.getElem?_eq_getElem (by rw [eR_len];exact hiE)⟩
    obtain ⟨t,ht⟩:∃ t,tvs[i]?=some t:=⟨_,List.getElem?_eq_getElem (by omega)⟩
    have hdc:=docCells_get hd ht
    have hnum:d.2.1=i+1:=by
     have:=hd
     rw [eR_get] at this
     obtain ⟨d0,_,rfl⟩:=Option.map_eq_some_iff.1 this
     simp
    obtain ⟨_,tc,ta,hte,_,_⟩:=ownsRow_shape (h.docs.toks i d t hd ht)
    refine ⟨i,d,t,hi,hd,ht,by omega,hnum,⟨ta,_,tc,hte⟩,fun W hW=>⟨?_,?_,?_,?_⟩⟩
    ·rw [(hW.cell (p:=⟨gs,k,none⟩) hgsl),hrow.cellAt k (by omega),List.getElem?_map,hi];rfl
    ·rw [(hW.cell (p:=⟨g1,i * 3,none⟩) hg1l),r1.cellAt (i * 3) (by omega)];exact hdc.1
    ·rw [(hW.cell (p:=⟨g1,i * 3+1,none⟩) hg1l),r1.cellAt (i * 3+1) (by omega)];exact hdc.2.1
    ·rw [(hW.cell (p:=⟨g1,i * 3+2,none⟩) hg1l),r1.cellAt (i * 3+2) (by omega)];exact hdc.2.2
   rw [hd]
   have HH:=hid h
   have HGI:=hid hGI
   have HNN:=hid hn
   have HTL:=hid htl
   have hp2:(p:Int) < (M:Int):=by omega
   have hp3:(0:Int)≤(p:Int):=by omega
   generalize hS:wrt (cont (pick (eR 0 E) I))=S
   have HSS:=hid hS
   clear h hd hN hM hdl hkl htl hsl hg hrow hI hsv hGI hn r1 r4 h0 h1 c0 c1 c2 c3 hS hg1l hg4l hgsl hyl
   obtain ⟨e0,e3,e4⟩:=CELL.out w (Below.refl _ _)
   go_enter Tryz.func116,Tryz.ntmps116
   go_wp2_with (fail)
   go_loopw [6,7] (fun s6 s7 wr=>∃ (k:Nat) (ao:Option Addr) (c:Nat),s6=.slice ao k c∧s7=.int .i64 (k:Int)∧k≤n∧Hid (wr.ownsRow w.heap.size 185 3 (.slice ao k c) k (docCells (pick (eR 0 E) (I.take k)) (pick tvs (I.take k))))∧Hid (Below w.heap.size w wr)) (fun _ s7 _=>n - (intOf s7).toNat)
   case atStart=>exact ⟨0,none,0,rfl,rfl,by omega,by show World.ownsRow _ _ _ _ _ _ _;simpa [pick,docCells] using World.ownsRow_nil _ _ _ _,Below.refl _ _⟩
   case round =>
    obtain ⟨k,ao,c,rfl,rfl,hk,HL,HB⟩:=hrel
    obtain ⟨f0,f3,f4⟩:=CELL.out wr HB.out
    have hsz:=HB.out.size
    clear e0 e3 e4
    by_cases hlt:k < n
    ·obtain ⟨i,d,t,hIk,hdi,hti,hiN,hdn,⟨ta,tn,tc,rfl⟩,hcell⟩:=CELK.out k hlt
     obtain ⟨j0,j1,j2,j3⟩:=hcell wr HB.out
     have HDC:=hid (docCells_pick HGI.out.lt HTL.out hIk hdi hti)
     obtain ⟨dkey,dnum,dts⟩:=d
     simp only at j0 j1 j2 j3 HDC
     have hd100:dnum≤100:=by have:dnum=i+1:=hdn;omega
     have AFT:Hid (∀ gA cA w5 o,(wr.drew.alloc o).grownBy w5 (Value.slice ao k c).ownBlock→w5.ownsRow w.heap.size 185 3 (.slice (some ⟨gA,0,none⟩) (k+1) cA) (k+1) (docCells (pick (eR 0 E) (I.take k)) (pick tvs (I.take k))++[.string ⟨dkey.toArray⟩,natV dnum,.slice ta tn tc])→w5.ownsRow w.heap.size 185 3 (.slice (some ⟨gA,0,none⟩) (k+1) cA) (k+1) (docCells (pick (eR 0 E) (I.take (k+1))) (pick tvs (I.take (k+1))))∧Below w.heap.size w w5):=by
      intro gA cA w5 o hg hown
      refine ⟨by rw [HDC.out];exact hown,?_⟩
      have t5:Turned (fun b=>(Value.slice ao k c).ownBlock=some b) wr w5:=Turned.trans (b:=wr.drew.alloc o) (Z:=fun b=>(Value.slice ao k c).ownBlock=some b) ((Turned.drew wr).trans (Turned.ofAlloc wr.drew o)) (Turned.ofGrown hg (fun j hj _=>hj))
      exact below_turned HB.out t5 hsz (fun j hj e=>by have:=(HL.out.lt j e).1;omega)
     have HL1:Hid (wr.drew.ownsRow w.heap.size 185 3 (.slice ao k c) k (docCells (pick (eR 0 E) (I.take k)) (pick tvs (I.take k)))):=HL.out
     have HCC:=hid hcell
     clear hIk hdi hti hcell hdn HDC
     have hi2:(i:Int) < (N:Int):=by omega
     have hi3:(0:Int)≤(i:Int):=by omega
     have hk2:(k:Int) < (n:Int):=by omega
     have hk3:(0:Int)≤(k:Int):=by omega
     go_wp2_with (fail)
     go_region_held3 (fun w'=>w'.cell? ⟨y,0,none⟩=some (.slice (some ⟨g1,0,none⟩) N cap1)∧w'.cell? ⟨y,3,none⟩=some (.slice (some ⟨g4,0,none⟩) M cap4)∧w'.cell? ⟨g4,p,none⟩=some (.slice (some ⟨gs,0,none⟩) n caps)∧w'.cell? ⟨gs,k,none⟩=some (.int .i64 (i:Int))∧w'.cell? ⟨g1,i * 3,none⟩=some (.string ⟨dkey.toArray⟩)∧w'.cell? ⟨g1,i * 3+1,none⟩=some (.int .i64 (dnum:Int))∧w'.cell? ⟨g1,i * 3+2,none⟩=some (.slice ta tn tc)) (go_keep)
      ((refine step_append_lies _ (by rfl) _ _ _ (by rfl) w.heap.size 185 i185 _ 3 48 Tryz.underlying100 hi185 a0 a1 a2 rfl (by omega) (.slice ao k c) k _ (by rfl) (by exact HL1.out.alloc _)
         ⟨wr.heap.size,0,none⟩ 1 1 [.string ⟨dkey.toArray⟩,natV dnum,.slice ta tn tc] (by rfl) (by rfl) (World.news_of_block (cs:=#[.string ⟨dkey.toArray⟩,natV dnum,.slice ta tn tc]) (t:=185) (fr:=(0,0)) (heap_alloc_new wr.drew _)) (by simp [Value.oneCell']) (by omega) (by unfold maxLen;omega) (by omega) (by simp;omega) (wr.heap.size+1) (by simp) ?_;intro gA cA w5 hownA hgA hatA hltA;obtain ⟨R5,B5⟩:=AFT.out gA cA w5 _ hgA hownA;obtain ⟨x0,x3,x4⟩:=CELL.out w5 B5;obtain ⟨y0,y1,y2,y3⟩:=HCC.out w5 B5;have HR5:=hid R5;have HB5:=hid B5;clear R5 B5))
     all_goals
      clear AFT HL1 HCC hownA hgA hatA hltA x0 x3 x4 y0 y1 y2 y3 j0 j1 j2 j3 f0 f3 f4
      go_wp2_with (fail)
      go_roundw
      case rel=>exact ⟨k+1,some ⟨gA,0,none⟩,cA,rfl,by go_num,by omega,HR5,HB5⟩
      case measure=>simp [intOf];omega
    ·obtain rfl:k=n:=by omega
     obtain ⟨gl,cl,hle,_,_⟩:=HL.out.form (by omega)
     cases hle
     have htk:I.take k=I:=List.take_of_length_le (by rw [← HNN.out];exact Nat.le_refl _)
     have hrowF:wr.ownsRow w.heap.size 185 3 (.slice (some ⟨gl,0,none⟩) k c) I.length (docCells (pick (eR 0 E) I) (pick tvs I)):=by
      have:=HL.out
      rw [htk] at this
      rw [← HNN.out]
      exact this
     have hDA:=docsAt_pick HH.out HGI.out HB.out hrowF
     have C60:Hid (Calls Tryz.prog 60 #[.slice (some ⟨gl,0,none⟩) k c] wr fun e w'=>e=.returned (lstV S)∧Below wr.heap.size wr w'):=by
      have:=segmentR_any wr 0 gl c k (pick (eR 0 E) I) (pick tvs I) hDA (by rw [pick_len (fun i hi=>by rw [eR_len];exact HGI.out.lt i hi)];exact HNN.out) HGI.out.could
      rw [HSS.out] at this
      exact this
     clear hDA hrowF htk HL
     go_wp2_with (go_at_call 60;refine C60.out.mono ?_;rintro en w2 ⟨rfl,hb2⟩)
     go_ret2
     exact ⟨rfl,HB.out.trans (hb2.mono hsz)⟩
  ·have hd:dumpRes (bytesOf E Ws) s=([],7):=by
    have:(bytesOf E Ws)[s.toNat]?=none:=List.getElem?_eq_none (by omega)
    simp [dumpRes,h0,this]
   rw [hd]
   have h2:(M:Int)≤s:=by omega
   clear h hd hN hM hdl hkl htl hsl hg h1
   go_enter Tryz.func116,Tryz.ntmps116
   go_wp2
   go_ret2
   exact ⟨rfl,Below.refl _ _⟩
def inF (J:List Nat) (N:Nat):List Bool:=(List.range N).map fun i=>decide (i∈J)
theorem inF_len (J:List Nat) (N:Nat):(inF J N).length=N:=by simp [inF]
theorem inF_get (J:List Nat) {N i:Nat} (h:i < N):(inF J N)[i]?=some (decide (i∈J)):=by simp [inF,h]
theorem inF_set (J:List Nat) (N i:Nat):(inF J N).set i true=inF (J++[i]) N:=by
 apply List.ext_getElem?
 intro j
 rw [List.getElem?_set,inF_len]
 by_cases hj:j < N
 ·rw [inF_get _ hj,inF_get _ hj]
  by_cases hij:i=j
  ·subst hij;rw [if_pos rfl,if_pos hj];simp
  ·rw [if_neg hij]
   have:(j∈J++[i]) ↔ j∈J:=by simp [Ne.symm hij]
   simp [this]
 ·have e1:(inF J N)[j]?=none:=List.getElem?_eq_none (by rw [inF_len];omega)
  have e2:(inF (J++[i]) N)[j]?=none:=List.getElem?_eq_none (by rw [inF_len];omega)
  rw [e1,e2]
  split
  ·rename_i h;rw [if_neg (by omega)]
  ·rfl
theorem inF_nil (N:Nat):(inF [] N).map Value.bool=List.replicate N (.bool false):=by
 unfold inF
 rw [List.map_map]
 apply List.ext_getElem?
 intro i
 by_cases h:i < N
 ·simp [h]
 ·simp [h]
def mergeI (E:List EDoc) (J:List Nat) (i:Nat):List Nat:=(List.range i).filter fun j=>decide (j∈J) && ((E[j]?).map (·.live)).getD false
theorem mergeI_succ (E:List EDoc) (J:List Nat) (i:Nat):mergeI E J (i+1)=mergeI E J i++(if decide (i∈J) && ((E[i]?).map (·.live)).getD false then [i] else []):=by
 unfold mergeI
 rw [List.range_succ,List.filter_append]
 congr 1
 rw [List.filter_cons,List.filter_nil]
theorem RefX.cleared {w:World} {Z:Nat→Prop} {y:Nat} {E:List EDoc} {Ws:List (List Nat)} {v1 v2 v3 v4:Value} {tvs svs:List Value} (h:RefX w Z y E Ws v1 v2 v3 v4 tvs svs):RefX (w.setCell ⟨y,3,none⟩ (.slice none 0 0)) Z y E [] v1 v2 v3 (.slice none 0 0) tvs []∧Turned Z w (w.setCell ⟨y,3,none⟩ (.slice none 0 0)):=by
 have t4:Turned (fun b=>b=y) w (w.setCell ⟨y,3,none⟩ (.slice none 0 0)):=Turned.ofSet w _ _ rfl
 have keep:∀ {b2:Nat} {e:TypeId} {size:Nat} {v:Value} {n:Nat} {xs:List Value},w.ownsRow b2 e size v n xs→e≠193→(w.setCell ⟨y,3,none⟩ (.slice none 0 0)).ownsRow b2 e size v n xs:=fun {b2 e size v n xs} hrow he2=>by
  refine ownsRow_turned hrow t4 (fun g hg e'=>?_)
  obtain ⟨cu,bq⟩:=ownsRow_block hrow hg
  rw [e',h.ref.eng] at bq;cases bq;exact he2 rfl
 refine ⟨⟨⟨heap_setCell_same w y 3 _ 193 _ h.ref.eng,keep h.ref.own1 (by decide),h.ref.keys,keep h.ref.own2 (by decide),keep h.ref.own3 (by decide),h.ref.zy,h.ref.z1,h.ref.z2,h.ref.z3,h.ref.apart⟩,⟨keep h.docs.row (by decide),h.docs.len,fun i d t hd ht=>keep (h.docs.toks i d t hd ht) (by decide),h.docs.apart⟩,World.ownsRow_nil _ _ _ _,fun j I s hI=>(by simp at hI),h.z,fun g hg=>(by cases hg),h.zt,fun j s g hs=>(by simp at hs)⟩,t4.mono (fun b _ hb=>by rw [hb];exact h.z y (Or.inl rfl))⟩
set_option maxHeartbeats 2000000 in
set_option maxRecDepth 1000000 in
theorem refMergeE_any {w:World} {Z:Nat→Prop} {y:Nat} {E:List EDoc} {Ws:List (List Nat)} (h:RefXOk w Z y E Ws) (hl:E.length≤100) (hws:Ws.length≤1000) (hg:∀ I∈Ws,(∀ i∈I,i < E.length)∧I.length≤100) :
 Calls Tryz.prog 124 #[.pointer (some ⟨y,0,none⟩)] w fun e w'=>e=.returned (.tuple #[])∧RefXOk w' (grow Z w w') y E (flushWs [] (mergeI E Ws.flatten E.length))∧Turned Z w w':=by
 obtain ⟨i35,hi35,a0,a1,a2⟩:=info_parts info35
 obtain ⟨i3,hi3,b0,b1,b2⟩:=info_parts info3'
 obtain ⟨i4,hi4,d0,d1,d2⟩:=info_parts info4
 obtain ⟨v1,v2,v3,v4,tvs,svs,h⟩:=h
 have hkl:(keysE E).length=E.length:=by simp [keysE]
 obtain ⟨_,cap1,ao1,rfl,_,_⟩:=ownsRow_shape h.ref.own1
 obtain ⟨g2,cap2,ao2,rfl,_,hao2⟩:=ownsRow_shape h.ref.own2
 obtain ⟨g4,cap4,ao4,rfl,_,hao4⟩:=ownsRow_shape h.own4
 rw [hkl] at h hao2
 obtain ⟨N,hN⟩:∃ N,N=E.length:=⟨_,rfl⟩
 obtain ⟨M,hM⟩:∃ M,M=Ws.length:=⟨_,rfl⟩
 have hsl:svs.length=Ws.length:=by have:=h.own4.1;omega
 rw [← hN] at h hl hao2
 rw [← hM] at h hws hao4
 have h2:w.ownsRow 0 4 1 (.slice ao2 N cap2) N ((keysE E).map fun d=>.bool d.2):=by have:=h.ref.own2;rw [hkl,← hN] at this;exact this
 have h4:w.ownsRow 0 35 1 (.slice ao4 M cap4) M svs:=by have:=h.own4;rw [← hM] at this;exact this
 obtain ⟨w0,hmk,hin0,hgr0⟩:=run_makeSlice_full (P:=Tryz.prog) w w.heap.size 190 4 i4 _ 1 Tryz.underlying190 hi4 d0 d1 .i64 .i64 N (by omega) (by rw [d2];omega) (by unfold maxLen;omega) (Nat.le_refl _)
 have hmade:(madeCells (Value.bool false).cells (N * 1)).toList=(inF [] N).map .bool:=by
  rw [inF_nil]
  apply List.ext_getElem?
  intro j
  by_cases hj:j < N
  ·simp [madeCells,Value.cells,hj,Nat.mod_one]
  ·simp [madeCells,Value.cells,hj]
 rw [hmade] at hin0
 have hb0:Below w.heap.size w w0:=⟨hgr0.os,hgr0.tape,hgr0.output,hgr0.size,fun b hb=>hgr0.block b hb (by simp)⟩
 have HH:=hid h
 have HN:=hid hN
 have HM:=hid hM
 have HB0:=hid hb0
 have HIN0:=hid hin0
 have hyl:=lt_of_block h.ref.eng
 have h2l:=fun g (hg:(Value.slice ao2 N cap2).ownBlock=some g)=>(h2.lt g hg).2
 have h4l:=fun g (hg:(Value.slice ao4 M cap4).ownBlock=some g)=>(h4.lt g hg).2
 have CELL:Hid (∀ W,Below w.heap.size w W→W.cell? ⟨y,0,none⟩=some (.slice ao1 N cap1)∧W.cell? ⟨y,1,none⟩=some (.slice ao2 N cap2)∧W.cell? ⟨y,3,none⟩=some (.slice ao4 M cap4)):=fun W hW=>⟨(hW.cell (p:=⟨y,0,none⟩) hyl).trans (cell_four h.ref.eng).1,(hW.cell (p:=⟨y,1,none⟩) hyl).trans (cell_four h.ref.eng).2.1,(hW.cell (p:=⟨y,3,none⟩) hyl).trans (cell_four h.ref.eng).2.2.2⟩
 have SEG:Hid (∀ s,s < M→∃ I gs caps aos ns,ao4=some ⟨g4,0,none⟩∧Ws[s]?=some I∧ns=I.length∧ns≤100∧(∀ W,Below w.heap.size w W→W.cell? ⟨g4,s,none⟩=some (.slice aos ns caps))∧∀ k,k < ns→aos=some ⟨gs,0,none⟩∧∃ i,I[k]?=some i∧i < N∧∀ W,Below w.heap.size w W→W.cell? ⟨gs,k,none⟩=some (.int .i64 (i:Int))):=by
  intro s hs
  obtain ⟨I,hI⟩:∃ I,Ws[s]?=some I:=⟨_,List.getElem?_eq_getElem (by omega)⟩
  obtain ⟨sv,hsv⟩:∃ sv,svs[s]?=some sv:=⟨_,List.getElem?_eq_getElem (by omega)⟩
  obtain ⟨hgi,hgl⟩:=hg I (List.mem_of_getElem? hI)
  have hrow:=h.rows s I sv hI hsv
  obtain ⟨gs,caps,aos,rfl,_,haos⟩:=ownsRow_shape hrow
  have h4e:=hao4 (by omega)
  refine ⟨I,gs,caps,aos,I.length,h4e,hI,rfl,hgl,fun W hW=>?_,fun k hk=>⟨haos (by omega),?_⟩⟩
  ·subst h4e
   rw [(hW.cell (p:=⟨g4,s,none⟩) (h4l g4 rfl)),h4.cellAt s (by omega),hsv]
  ·obtain ⟨i,hi⟩:∃ i,I[k]?=some i:=⟨_,List.getElem?_eq_getElem hk⟩
   refine ⟨i,hi,by have:=hgi i (List.mem_of_getElem? hi);omega,fun W hW=>?_⟩
   have hae:=haos (by omega)
   subst hae
   rw [(hW.cell (p:=⟨gs,k,none⟩) (hrow.lt gs rfl).2),hrow.cellAt k (by omega),List.getElem?_map,hi]
   rfl
 have LIV:Hid (∀ i,i < N→∃ d,E[i]?=some d∧ao2=some ⟨g2,0,none⟩∧∀ W,Below w.heap.size w W→W.cell? ⟨g2,i,none⟩=some (.bool d.live)):=by
  intro i hi
  obtain ⟨d,hd⟩:∃ d,E[i]?=some d:=⟨_,List.getElem?_eq_getElem (by omega)⟩
  have h2e:=hao2 (by omega)
  refine ⟨d,hd,h2e,fun W hW=>?_⟩
  subst h2e
  rw [(hW.cell (p:=⟨g2,i,none⟩) (h2l g2 rfl)),h2.cellAt i (by omega),List.getElem?_map]
  unfold keysE
  rw [List.getElem?_map,hd]
  rfl
 obtain ⟨e0,e1,e3⟩:=CELL.out w (Below.refl _ _)
 clear h hN hM h2 h4 hb0 hin0 hgr0 hmade hg hkl hsl hao2 hao4 hyl h2l h4l
 obtain ⟨G,hG⟩:∃ G,w.heap.size=G:=⟨_,rfl⟩
 have hG2:Hid (G=w.heap.size):=hG.symm
 rw [hG] at hmk HIN0
 go_enter Tryz.func124,Tryz.ntmps124
 go_wp2_with (fail)
 clear e0 e1 e3 hmk
 go_loopw [3] (fun s3 wr=>∃ s:Nat,s3=.int .i64 (s:Int)∧s≤M∧Hid (wr.ownsRow w.heap.size 4 1 (.slice (some ⟨G,0,none⟩) N N) N ((inF (Ws.take s).flatten N).map .bool))∧Hid (Below w.heap.size w wr)) (fun s3 _=>M - (intOf s3).toNat)
 case atStart=>exact ⟨0,rfl,by omega,by show World.ownsRow _ _ _ _ _ _ _;rw [hG];simpa using HIN0.out,HB0⟩
 case round =>
  obtain ⟨s,rfl,hs,HI,HB⟩:=hrel
  obtain ⟨e0,e1,e3⟩:=CELL.out wr HB.out
  clear HIN0 HB0
  by_cases hlt:s < M
  ·obtain ⟨I,gs,caps,aos,ns,rfl,hWs,hns,hn100,hseg,hint⟩:=SEG.out s hlt
   have HWS:=hid hWs
   have HNS:=hid hns
   have HSEG:=hid hseg
   have HINT:=hid hint
   have HI0:Hid (wr.ownsRow w.heap.size 4 1 (.slice (some ⟨G,0,none⟩) N N) N ((inF ((Ws.take s).flatten++I.take 0) N).map .bool)):=by
    show World.ownsRow _ _ _ _ _ _ _
    simpa using HI.out
   have hs2:(s:Int) < (M:Int):=by omega
   clear hWs hns hseg hint HI
   go_wp2_with (fail)
   go_loopw [4] (fun s4 wq=>∃ k:Nat,s4=.int .i64 (k:Int)∧k≤ns∧Hid (wq.ownsRow w.heap.size 4 1 (.slice (some ⟨G,0,none⟩) N N) N ((inF ((Ws.take s).flatten++I.take k) N).map .bool))∧Hid (Below w.heap.size w wq)) (fun s4 _=>ns - (intOf s4).toNat)
   case atStart=>exact ⟨0,rfl,by omega,HI0,HB⟩
   case round =>
    obtain ⟨k,rfl,hk,HK,HBk⟩:=hrel
    obtain ⟨wq,hwq⟩:∃ wq,wq=wr:=⟨_,rfl⟩
    subst hwq
    obtain ⟨f0,f1,f3⟩:=CELL.out wq HBk.out
    have f4:=HSEG.out wq HBk.out
    clear HI0 e0 e1 e3
    by_cases hlk:k < ns
    ·obtain ⟨rfl,i,hik,hiN,hci⟩:=HINT.out k hlk
     have fi:=hci wq HBk.out
     have hfz:=HK.out.frozenAt i
     have hcg:wq.cell? ⟨G,i,none⟩=some (.bool (decide (i∈(Ws.take s).flatten++I.take k))):=by rw [HK.out.cellAt i (by omega),List.getElem?_map,inF_get _ hiN];rfl
     have HK2:Hid ((wq.setCell ⟨G,i,none⟩ (.bool true)).ownsRow w.heap.size 4 1 (.slice (some ⟨G,0,none⟩) N N) N ((inF ((Ws.take s).flatten++I.take (k+1)) N).map .bool)):=by
      have:=(HK.out.stored i (.bool true)).1
      show World.ownsRow _ _ _ _ _ _ _
      rw [List.take_add_one,hik]
      have he:(Ws.take s).flatten++(I.take k++(some i).toList)=(Ws.take s).flatten++I.take k++[i]:=by simp
      rw [he,← inF_set,List.map_set]
      exact this
     have HBk2:Hid (Below w.heap.size w (wq.setCell ⟨G,i,none⟩ (.bool true))):=below_turned HBk.out (Turned.ofSet (Z:=fun b=>b=G) wq ⟨G,i,none⟩ _ rfl) HBk.out.size (fun j hj e=>by have:=hG2.out;omega)
     have hix2:(i:Int) < (N:Int):=by omega
     have hix3:(0:Int)≤(i:Int):=by omega
     have hk2:(k:Int) < (ns:Int):=by omega
     clear hik hci HK
     go_wp2_with (fail)
     go_roundw
     case rel=>exact ⟨k+1,by go_num,by omega,HK2,HBk2⟩
     case measure=>simp [intOf];omega
    ·obtain rfl:k=ns:=by omega
     have HK2:Hid (wq.ownsRow w.heap.size 4 1 (.slice (some ⟨G,0,none⟩) N N) N ((inF (Ws.take (s+1)).flatten N).map .bool)):=by
      have:=HK.out
      have htI:I.take k=I:=List.take_of_length_le (by rw [← HNS.out];exact Nat.le_refl _)
      rw [htI] at this
      show World.ownsRow _ _ _ _ _ _ _
      rw [List.take_add_one,HWS.out]
      simpa using this
     clear HK
     go_wp2_with (fail)
     go_roundw
     case rel=>exact ⟨s+1,by go_num,by omega,HK2,HBk⟩
     case measure=>simp [intOf];omega
  ·obtain rfl:s=M:=by omega
   have HI1:Hid (wr.ownsRow w.heap.size 4 1 (.slice (some ⟨G,0,none⟩) N N) N ((inF Ws.flatten N).map .bool)):=by
    have:=HI.out
    rwa [List.take_of_length_le (by rw [← HM.out];exact Nat.le_refl _)] at this
   clear HI hlt hs SEG
   go_wp2_with (fail)
   go_loopw [5,6] (fun s5 s6 wl=>∃ (i:Nat) (ao:Option Addr) (n c:Nat),s5=.slice ao n c∧s6=.int .i64 (i:Int)∧i≤N∧n≤i∧Hid (n=(mergeI E Ws.flatten i).length)∧Hid (wl.ownsRow w.heap.size 3 1 (.slice ao n c) n ((mergeI E Ws.flatten i).map natV))∧Hid (wl.ownsRow w.heap.size 4 1 (.slice (some ⟨G,0,none⟩) N N) N ((inF Ws.flatten N).map .bool))∧Hid (Below w.heap.size w wl)) (fun _ s6 _=>N - (intOf s6).toNat)
   case atStart=>exact ⟨0,none,0,0,rfl,rfl,by omega,by omega,by simp [mergeI,Hid],World.ownsRow_nil _ _ _ _,HI1,HB⟩
   case round =>
    obtain ⟨i,ao,n,c,rfl,rfl,hi,hn,HW,HL,HF,HBl⟩:=hrel
    obtain ⟨wl,hwl⟩:∃ wl,wl=wr:=⟨_,rfl⟩
    subst hwl
    obtain ⟨f0,f1,f3⟩:=CELL.out wl HBl.out
    have hsz:=HBl.out.size
    clear HI1 e0 e1 e3
    by_cases hlt:i < N
    ·obtain ⟨d,hd,rfl,hliv⟩:=LIV.out i hlt
     have fl:=hliv wl HBl.out
     have fg:wl.cell? ⟨G,i,none⟩=some (.bool (decide (i∈Ws.flatten))):=by rw [HF.out.cellAt i (by omega),List.getElem?_map,inF_get _ hlt];rfl
     have HMS:Hid (mergeI E Ws.flatten (i+1)=mergeI E Ws.flatten i++(if decide (i∈Ws.flatten) && d.live then [i] else [])):=by show _=_;rw [mergeI_succ,hd];rfl
     have hix2:(i:Int) < (N:Int):=by omega
     have hix3:(0:Int)≤(i:Int):=by omega
     clear hd hliv
     by_cases hb:(decide (i∈Ws.flatten) && d.live)=true
     ·rw [Bool.and_eq_true] at hb
      obtain ⟨hb1,hb2⟩:=hb
      rw [hb1,hb2] at HMS
      rw [hb1] at fg
      rw [hb2] at fl
      clear hb1 hb2
      have HL1:=hid (HL.out.alloc (.cells #[.int .i64 (i:Int)] 3))
      have AFT:Hid (∀ gA cA w5,(wl.alloc (.cells #[.int .i64 (i:Int)] 3)).grownBy w5 (Value.slice ao n c).ownBlock→w5.ownsRow w.heap.size 3 1 (.slice (some ⟨gA,0,none⟩) (n+1) cA) (n+1) ((mergeI E Ws.flatten i).map natV++[natV i])→w5.ownsRow w.heap.size 3 1 (.slice (some ⟨gA,0,none⟩) (n+1) cA) (n+1) ((mergeI E Ws.flatten (i+1)).map natV)∧w5.ownsRow w.heap.size 4 1 (.slice (some ⟨G,0,none⟩) N N) N ((inF Ws.flatten N).map .bool)∧Below w.heap.size w w5∧n+1=(mergeI E Ws.flatten (i+1)).length):=by
       intro gA cA w5 hg hown
       have t5:Turned (fun b=>(Value.slice ao n c).ownBlock=some b) wl w5:=(Turned.ofAlloc wl _).trans (Turned.ofGrown hg (fun k hk _=>hk))
       refine ⟨by rw [HMS.out,List.map_append];exact hown,ownsRow_turned HF.out t5 (fun g hg' e=>?_),below_turned HBl.out t5 hsz (fun j hj e=>by have:=(HL.out.lt j e).1;omega),by rw [HMS.out,List.length_append,← HW.out];rfl⟩
       obtain ⟨cu,bq⟩:=ownsRow_block HF.out hg'
       obtain ⟨cu2,bq2⟩:=ownsRow_block HL.out e
       exact tag_ne bq bq2 (by decide) rfl
      go_wp2_with (at_builtin;refine wpList_append_lies _ rfl _ _ 35 rfl w.heap.size 3 i3 (.int .i64 0) 1 8 Tryz.underlying35 hi3 b0 b1 b2 rfl (by omega) (.slice ao n c) n _ rfl HL1.out ⟨wl.heap.size,0,none⟩ 1 1 [natV i] rfl rfl (cell_one_new _ _ _) (fun x hx=>by simp at hx;subst hx;rfl) (by omega) (by unfold maxLen;omega) (by omega) (by simp;omega) (wl.heap.size+1) (by simp) ?_;intro gA cA w5 hownA hgA hatA hltA;obtain ⟨r1,r2,r3,r4⟩:=AFT.out gA cA w5 hgA hownA;have R1:=hid r1;have R2:=hid r2;have R3:=hid r3;have R4:=hid r4;clear r1 r2 r3 r4)
      go_roundw
      case rel=>exact ⟨i+1,some ⟨gA,0,none⟩,n+1,cA,rfl,by go_num,by omega,by omega,R4,R1,R2,R3⟩
      case measure=>simp [intOf];omega
     ·have HM2:Hid (mergeI E Ws.flatten (i+1)=mergeI E Ws.flatten i):=by show _=_;rw [HMS.out,if_neg hb,List.append_nil]
      have hcase:decide (i∈Ws.flatten)=false∨(decide (i∈Ws.flatten)=true∧d.live=false):=by
       cases h1:decide (i∈Ws.flatten) with
       | false=>exact Or.inl rfl
       | true =>
         cases h2:d.live with
         | false=>exact Or.inr ⟨rfl,rfl⟩
         | true=>exact absurd (by rw [h1,h2];rfl) hb
      clear hb HMS
      rcases hcase with hc | ⟨hc,hc2⟩
      ·rw [hc] at fg
       clear hc
       go_wp2_with (fail)
       go_roundw
       case rel=>exact ⟨i+1,ao,n,c,rfl,by go_num,by omega,by omega,by show _=_;rw [HM2.out];exact HW.out,by show World.ownsRow _ _ _ _ _ _ _;rw [HM2.out];exact HL.out,HF,HBl⟩
       case measure=>simp [intOf];omega
      ·rw [hc] at fg
       rw [hc2] at fl
       clear hc hc2
       go_wp2_with (fail)
       go_roundw
       case rel=>exact ⟨i+1,ao,n,c,rfl,by go_num,by omega,by omega,by show _=_;rw [HM2.out];exact HW.out,by show World.ownsRow _ _ _ _ _ _ _;rw [HM2.out];exact HL.out,HF,HBl⟩
       case measure=>simp [intOf];omega
    ·obtain rfl:i=N:=by omega
     have hRl:=HH.out.turned (Turned.ofBelow (Z:=fun _=>False) HBl.out) (fun _ _ h=>h)
     obtain ⟨hRc,hTc⟩:=hRl.cleared
     have ff:=frozen_four hRl.ref.eng 3
     have qc:=(cell_four hRc.ref.eng).2.2.2
     have hTw:Turned Z w (wl.setCell ⟨y,3,none⟩ (.slice none 0 0)):=(Turned.ofBelow HBl.out).trans hTc
     have hNE:i=E.length:=HN.out
     by_cases hn0:n=0
     ·have hI:mergeI E Ws.flatten i=[]:=List.eq_nil_of_length_eq_zero (by rw [← HW.out];exact hn0)
      have HFIN:Hid (RefXOk (wl.setCell ⟨y,3,none⟩ (.slice none 0 0)) Z y E (flushWs [] (mergeI E Ws.flatten E.length))∧Turned Z w (wl.setCell ⟨y,3,none⟩ (.slice none 0 0))):=⟨⟨_,_,_,_,_,_,by rw [← hNE,hI];simp only [flushWs,if_true];exact hRc⟩,hTw⟩
      subst hn0
      clear hRl hRc hTc hTw hI hNE
      go_wp2_with (fail)
      go_end0
      exact ⟨rfl,HFIN.out.1.zone (fun b hb=>Or.inl hb),HFIN.out.2⟩
     ·have hI:mergeI E Ws.flatten E.length≠[]:=fun e=>hn0 (by rw [HW.out,hNE,e];rfl)
      have hgt:(0:Int) < (n:Int):=by omega
      have hlS:(wl.setCell ⟨y,3,none⟩ (.slice none 0 0)).ownsRow w.heap.size 3 1 (.slice ao n c) n ((mergeI E Ws.flatten i).map natV):=ownsRow_turned HL.out (Turned.ofSet (Z:=fun b=>b=y) wl ⟨y,3,none⟩ _ rfl) (fun g hg' e=>by
       obtain ⟨cu,bq⟩:=ownsRow_block HL.out hg'
       rw [e,hRl.ref.eng] at bq;cases bq)
      have hsS:(wl.setCell ⟨y,3,none⟩ (.slice none 0 0)).heap.size=wl.heap.size:=size_set _ _ _
      have WR:Hid (∀ gA cA w6,((wl.setCell ⟨y,3,none⟩ (.slice none 0 0)).alloc (.cells #[.slice ao n c] 35)).grownBy w6 (Value.slice none 0 0).ownBlock→w6.ownsRow 0 35 1 (.slice (some ⟨gA,0,none⟩) (0+1) cA) (0+1) ([]++[.slice ao n c])→((Value.slice none 0 0).ownBlock=some gA∨gA=wl.heap.size+1)→w6.cell? ⟨y,3,none⟩=some (.slice none 0 0)∧w6.frozen? ⟨y,3,none⟩=false∧RefXOk (w6.setCell ⟨y,3,none⟩ (.slice (some ⟨gA,0,none⟩) (0+1) cA)) (grow Z w (w6.setCell ⟨y,3,none⟩ (.slice (some ⟨gA,0,none⟩) (0+1) cA))) y E (flushWs [] (mergeI E Ws.flatten E.length))∧Turned Z w (w6.setCell ⟨y,3,none⟩ (.slice (some ⟨gA,0,none⟩) (0+1) cA))):=by
       intro gA cA w6 hg hown hat
       have hsz6:wl.heap.size≤w6.heap.size:=by have:=hg.size;simp at this;omega
       have hR':RefX (wl.setCell ⟨y,3,none⟩ (.slice none 0 0)) (fun b=>Z b∨(w.heap.size≤b∧b < wl.heap.size)) y E [] (.slice ao1 i cap1) (.slice ao2 i cap2) v3 (.slice none 0 0) tvs []:=⟨hRc.ref,hRc.docs,hRc.own4,hRc.rows,fun b hb=>Or.inl (hRc.z b hb),fun g hg=>Or.inl (hRc.z4 g hg),fun i t g a b=>Or.inl (hRc.zt i t g a b),fun j s g a b=>Or.inl (hRc.zs j s g a b)⟩
       have hs:(wl.setCell ⟨y,3,none⟩ (.slice none 0 0)).ownsRow w.heap.size 3 1 (.slice ao n c) (mergeI E Ws.flatten E.length).length ((mergeI E Ws.flatten E.length).map natV):=by rw [← hNE,← HW.out];exact hlS
       obtain ⟨m1,m2,m3,m4⟩:=hR'.written hs hg hown (fun g hg'=>by
        simp [Value.ownBlock] at hg'
        subst hg'
        rcases hat with h' | h'
        ·exact Or.inl h'
        ·exact Or.inr (by omega)) (fun g hg'=>Or.inr (HL.out.lt g hg'))
       have hs4:(w6.setCell ⟨y,3,none⟩ (.slice (some ⟨gA,0,none⟩) (0+1) cA)).heap.size=w6.heap.size:=size_set _ _ _
       refine ⟨m1,m2,RefXOk.zone ⟨_,_,_,_,_,_,by simp only [flushWs,if_neg hI];exact m3⟩ ?_,hTw.trans2 m4 ?_⟩
       ·rintro b ((hb | hb) | hb)
        ·exact Or.inl hb
        ·exact Or.inr ⟨hb.1,by rw [hs4];omega⟩
        ·exact Or.inr ⟨by omega,by rw [hs4];exact hb.2⟩
       ·rintro j hj (hb | hb)
        ·exact hb
        ·omega
      have R4:Hid ((wl.setCell ⟨y,3,none⟩ (.slice none 0 0)).ownsRow 0 35 1 (.slice none 0 0) 0 []):=World.ownsRow_nil _ _ _ _
      clear hRl hRc hTc hTw hI hNE hlS HL HF HW
      go_wp2_with (at_builtin;refine wpList_append_lies _ rfl _ _ 191 rfl 0 35 i35 (.slice none 0 0) 1 24 Tryz.underlying191 hi35 a0 a1 a2 rfl (by omega) (.slice none 0 0) 0 _ rfl (R4.out.alloc _) ⟨wl.heap.size,0,none⟩ 1 1 [.slice ao n c] rfl rfl (cell_one_set _ _ _ _ _) (fun x hx=>by simp at hx;subst hx;rfl) (by omega) (by unfold maxLen;omega) (by omega) (by omega) (wl.heap.size+1) (by simp) ?_;intro gA cA w6 hownA hgA hatA hltA;obtain ⟨j1,jf,jR,jT⟩:=WR.out gA cA w6 hgA hownA hatA;have JR:=hid jR;have JT:=hid jT;clear jR jT)
      go_end0
      exact ⟨rfl,JR.out,JT.out⟩
end Go.Proofs.YtaacjjhmojecnaaGreatDoor
namespace Go.Proofs.YtaacjjhmojecnaaGreatDoor
open Go.RowKit Go.ScT Go.Proofs Go.Shelf
def liveB (E:List EDoc) (d:DocP):Bool:=match findK (keysE E) d.2.1 with | some i=>decide (i+1=d.1) | none=>decide (0=d.1)
set_option maxHeartbeats 1000000 in
set_option maxRecDepth 1000000 in
theorem isLive_any {w:World} {Z:Nat→Prop} {e:Nat} {E:List EDoc} {ss:List Bs} (h:EngXOk w Z e E ss) (d:DocP) (hk:d.2.1.length≤maxLen) :
 Calls Tryz.prog 44 #[.pointer (some ⟨e,0,none⟩),.agg #[.int .i64 (d.1:Int),lstV d.2.1,.int .i64 (d.2.2:Int)]] w fun en w'=>en=.returned (.bool (liveB E d))∧Below w.heap.size w w':=by
 obtain ⟨ml,mw,sv,dv,β,nW,DL,DW,h⟩:=h
 obtain ⟨num,key,len⟩:=d
 simp only at hk ⊢
 have hb:Below w.heap.size w (w.alloc (.cells #[.int .i64 (num:Int),.string ⟨key.toArray⟩,.int .i64 (len:Int)] 141)):=(Below.refl _ w).alloc (Nat.le_refl _) _
 have h1:=h.turned (Turned.ofBelow (Z:=fun _=>False) hb) (fun _ _ h=>h)
 have h2:=h1.turned (Turned.drew (Z:=fun _=>False) _) (fun _ _ h=>h)
 have q1:=(cell_five h1.buf.eng).2.1
 obtain ⟨n0,n1,n2,_⟩:=cell_three (heap_alloc_new w (.cells #[.int .i64 (num:Int),.string ⟨key.toArray⟩,.int .i64 (len:Int)] 141))
 obtain ⟨pv,pps,hlk,hpv⟩:=World.ownsMap.lookup h2.live law9 Tryz.underlying81 (Tryz.zeroValue3 _) (zd:=.lit (.int .i64 0)) (zp:=[]) (plainElem_int Tryz.underlying3 (by decide)) (key9 hk)
 obtain ⟨c,rfl,hc,_⟩:=plainElem_int_inv Tryz.underlying3 hpv
 have hcv:liveB E (num,key,len)=decide (c=(num:Int)):=by
  unfold liveB
  simp only
  rw [Prod.ext_iff] at hc
  have hc1:=hc.1
  simp only at hc1
  cases hf:findK (keysE E) key with
  | some i =>
    have h3:=hc1.symm.trans (h.num key i hf (.lit (.int .i64 0)))
    simp at h3
    rw [h3]
    by_cases e':i+1=num
    ·simp [e'];omega
    ·simp [e'];omega
  | none =>
    have hh:Maps.has DL (.string key)=false:=by
     have:=h.rel.has key
     rw [hf] at this
     simpa using this
    rw [Maps.atKey_of_not_has hh] at hc1
    simp at hc1
    rw [← hc1]
    by_cases e':0=num
    ·simp [← e']
    ·simp [e'];omega
 rw [hcv]
 have HB:=hid hb
 clear h h1 h2 hcv hc hpv hb
 by_cases hcn:c=(num:Int)
 ·have hd:decide (c=(num:Int))=true:=by simp [hcn]
  rw [hd]
  have hcb:(c == (num:Int))=true:=by simp [hcn]
  clear hd hcn
  go_enter Tryz.func44,Tryz.ntmps44
  go_wp2_with (fail)
  go_region
  all_goals
   go_wp2
   go_ret
   exact ⟨rfl,⟨HB.out.os,HB.out.tape,HB.out.output,HB.out.size,HB.out.block⟩⟩
 ·have hd:decide (c=(num:Int))=false:=by simp [hcn]
  rw [hd]
  have hcb:(c == (num:Int))=false:=by simp [hcn]
  clear hd hcn
  go_enter Tryz.func44,Tryz.ntmps44
  go_wp2_with (fail)
  go_region
  all_goals
   go_wp2
   go_ret
   exact ⟨rfl,⟨HB.out.os,HB.out.tape,HB.out.output,HB.out.size,HB.out.block⟩⟩
set_option maxHeartbeats 1000000 in
theorem newBuffer_any (w:World):Calls Tryz.prog 52 #[] w fun en w'=>en=.returned (.agg #[.slice none 0 0,.map (some (w.heap.size+1))])∧w'.ownsMap Tryz.prog 9 sliceE (w.heap.size+1) 0 (.map [])∧Below w.heap.size w w'∧w'.heap.size=w.heap.size+2:=by
 have mk2:∀ w,(Instr.makeMap 83 none).run Tryz.prog w=.ok (.map (some w.heap.size)) (w.alloc (.map #[] 0)):=fun w=>run_makeMap 83 w
 go_enter Tryz.func52,Tryz.ntmps52
 go_wp2
 have hc:((w.alloc (.cells #[.slice none 0 0,.map (some (w.heap.size+1))] 85)).alloc (.map #[] 0)).heap[w.heap.size]?=some (.cells #[.slice none 0 0,.map (some (w.heap.size+1))] 85 (0,0)):=(Below.heap_alloc _ _ _ (by simp)).trans (heap_alloc_new w _)
 obtain ⟨k0,k1⟩:=cell_two_any hc
 have hm:=World.ownsMap_made (H:=Unit) (w.alloc (.cells #[.slice none 0 0,.map (some (w.heap.size+1))] 85)) Tryz.prog 9 sliceE
 rw [World.size_alloc] at hm
 refine bodyPost_ret (v:=.agg #[.slice none 0 0,.map (some (w.heap.size+1))]) (by simp [results,Tryz.results52,go_sem,k0,k1]) rfl ⟨rfl,hm,((Below.refl _ w).alloc (Nat.le_refl _) _).alloc (by simp) _,by simp⟩
end Go.Proofs.YtaacjjhmojecnaaGreatDoor
