import Derived.Test.YtaacjjhmojecnaaGreatDoorQ45
namespace Go.Proofs.YtaacjjhmojecnaaGreatDoor
open Go.RowKit Go.ScT Go.Proofs Go.Shelf
structure MBuf (w:World) (m mm:Nat) (dv:Value) (ds:List DocP) (β:BT) (f:Bs→Pls) (nW:Nat) (DW:DataW Unit):Prop where
 blk:w.heap[m]?=some (.cells #[dv,.map (some mm)] 85 (0,0))
 docs:DRow w 0 dv ds
 words:w.ownsMap Tryz.prog 9 sliceE mm nW DW
 rel:WordsRel w DW β f
 eT:¬ InW β f m
 wT:¬ InW β f mm
 dT:∀ g,dv.ownBlock=some g→¬ InW β f g∧g≠m∧g≠mm
 em:m≠mm
theorem MBuf.turned {w w':World} {Z:Nat→Prop} {m mm:Nat} {dv:Value} {ds:List DocP} {β:BT} {f:Bs→Pls} {nW:Nat} {DW:DataW Unit} (h:MBuf w m mm dv ds β f nW DW) (ht:Turned Z w w') (hz:∀ b,ZX m mm dv β f b→¬ Z b):MBuf w' m mm dv ds β f nW DW :=
 ⟨(ht.block m (lt_of_block h.blk) (hz m (Or.inl rfl))).trans h.blk,rowX_turned h.docs ht (fun g hg=>hz g (Or.inr (Or.inr (Or.inl hg)))),ownsMap_turned h.words ht (hz mm (Or.inr (Or.inl rfl))),h.rel.turned ht (fun b hb=>hz b (Or.inr (Or.inr (Or.inr hb)))),h.eT,h.wT,h.dT,h.em⟩
theorem MBuf.see {w:World} {m mm:Nat} {dv:Value} {l:List DocR} {β:BT} {nW:Nat} {DW:DataW Unit} (h:MBuf w m mm dv (docsP l) β (numsP l) nW DW):BSee w m 0 mm dv l β nW DW :=
 ⟨(cell_two_any h.blk).1,(cell_two_any h.blk).2,h.docs,h.words,h.rel,lt_of_block h.blk⟩
theorem mbuf_doc {w w3:World} {m mm:Nat} {dv dv3:Value} {ds ds3:List DocP} {β:BT} {f:Bs→Pls} {nW:Nat} {DW:DataW Unit} (hb:MBuf w m mm dv ds β f nW DW) (ht:Turned (fun b=>dv.ownBlock=some b) w w3) (hD:DRow w3 0 dv3 ds3) (hat:∀ g,dv3.ownBlock=some g→dv.ownBlock=some g∨w.heap.size≤g) :
 MBuf (w3.setCell ⟨m,0,none⟩ dv3) m mm dv3 ds3 β f nW DW∧Turned (ZX m mm dv β f) w (w3.setCell ⟨m,0,none⟩ dv3):=by
 have hel:=lt_of_block hb.blk
 have hml:=hb.words.lt
 have hd3:∀ g,dv3.ownBlock=some g→¬ InW β f g∧g≠m∧g≠mm:=fun g hg=>by
  rcases hat g hg with h | h
  ·exact hb.dT g h
  ·exact ⟨fun h'=>by have:=hb.rel.lt h';omega,by omega,by omega⟩
 have E1:w3.heap[m]?=some (.cells #[dv,.map (some mm)] 85 (0,0)):=(ht.block m hel (fun h=>(hb.dT m h).2.1 rfl)).trans hb.blk
 have T2:Turned (fun b=>b=m) w3 (w3.setCell ⟨m,0,none⟩ dv3):=Turned.ofSet w3 _ _ rfl
 refine ⟨⟨heap_setCell_same w3 m 0 _ 85 dv3 E1,rowX_turned hD T2 (fun g hg=>(hd3 g hg).2.1),?_,?_,hb.eT,hb.wT,hd3,hb.em⟩,(ht.mono (fun i _ h=>Or.inr (Or.inr (Or.inl h)))).trans (T2.mono (fun i _ h=>Or.inl h))⟩
 ·exact ownsMap_turned (ownsMap_turned hb.words ht (fun h=>(hb.dT _ h).2.2 rfl)) T2 (fun h=>hb.em h.symm)
 ·exact (hb.rel.turned ht (fun g hg h=>(hb.dT g h).1 hg)).turned T2 (fun g hg (h:g=m)=>hb.eT (h ▸ hg))
theorem mbuf_word {w w5:World} {m mm:Nat} {dv pv v5:Value} {ds:List DocP} {β:BT} {f:Bs→Pls} {nW:Nat} {DW:DataW Unit} {k:Bs} {x:Value} {nl:Pls} (hnl:nl≠[]) (hb:MBuf w m mm dv ds β f nW DW) (hn:nW < maxLen) (hp:(f k=[]∧pv=.slice none 0 0)∨(f k≠[]∧pv=rowV β f k)) (hR:WRow w5 v5 nl) (hv:Moved w pv v5) (ht:Turned (fun b=>pv.ownBlock=some b) w w5) (hkey:keyOf Tryz.prog 9 x=some (.string k)) :
 w5.heap[m]?=some (.cells #[dv,.map (some mm)] 85 (0,0))∧∃ w6 β' DW',(Instr.mapUpdate 83 (.map (some mm)) x v5).run Tryz.prog w5=.ok () w6∧MBuf w6 m mm dv ds β' (upd f k nl) (nW+1) DW'∧(∀ b,InW β' (upd f k nl) b→InW β f b∨w.heap.size≤b)∧Turned (fun b=>b=mm∨InW β f b) w w6:=by
 have hel:=lt_of_block hb.blk
 have hml:=hb.words.lt
 have hpos:=List.length_pos_iff.2 hnl
 obtain ⟨g,cap,ao,hv5,_,hao⟩:=ownsRow_shape hR
 obtain rfl:=hao hpos
 subst hv5
 have hpin:∀ b,pv.ownBlock=some b→f k≠[]∧(β k).1=b:=fun b hpb=>by
  rcases hp with ⟨_,h2⟩ | ⟨h1,h2⟩
  ·rw [h2] at hpb;cases hpb
  ·rw [h2] at hpb;simp [rowV,Value.ownBlock] at hpb;exact ⟨h1,hpb⟩
 have hpW:∀ b,pv.ownBlock=some b→InW β f b:=fun b hpb=>⟨k,(hpin b hpb).1,(hpin b hpb).2⟩
 have hgat:(f k≠[]∧(β k).1=g)∨w.heap.size≤g:=by
  rcases hv with h | ⟨g',h1,h2⟩
  ·exact Or.inl (hpin g (by rw [← h];rfl))
  ·simp [Value.ownBlock] at h1
   subst h1
   exact Or.inr h2
 have hgo:∀ k',k'≠k→f k'≠[]→(β k').1≠g:=fun k' hk' hf' he=>by
  rcases hgat with ⟨h1,h2⟩ | h
  ·exact hk' (hb.rel.apart k' k hf' h1 (he.trans h2.symm))
  ·have:=hb.rel.lt ⟨k',hf',rfl⟩
   omega
 have hgn:∀ b,b < w.heap.size→¬ InW β f b→b≠g:=fun b hb' hn' he=>by
  rcases hgat with ⟨h1,h2⟩ | h
  ·exact hn' ⟨k,h1,h2.trans he.symm⟩
  ·omega
 have own5:=ownsMap_turned hb.words ht (fun h=>hb.wT (hpW _ h))
 obtain ⟨w6,hrun,own6,hg6⟩:=own5.update law9 Tryz.underlying83 hn hkey (sliceE_mk g nl.length cap)
 have T6:Turned (fun b=>b=mm) w5 w6:=Turned.ofGrown hg6 (fun k hk _=>by cases hk;rfl)
 have E5:=(ht.block m hel (fun h=>hb.eT (hpW _ h))).trans hb.blk
 have hR6:WRow w6 (.slice (some ⟨g,0,none⟩) nl.length cap) nl:=rowX_turned hR T6 (fun b hb' h=>by
  simp [Value.ownBlock] at hb'
  subst hb'
  exact hgn mm hml hb.wT h.symm)
 have t06:Turned (fun b=>pv.ownBlock=some b∨b=mm) w w6:=(ht.mono (fun _ _ h=>Or.inl h)).trans (T6.mono (fun _ _ h=>Or.inr h))
 have hrel6:=hb.rel.put (hb.words.tidy law9).isMap hnl hR6 t06 (fun k' hk' hf'=>by
  rintro (h | h)
  ·have h1:=hpin _ h
   exact hk' (hb.rel.apart k' k hf' h1.1 h1.2.symm)
  ·exact hb.wT ⟨k',hf',h⟩) hgo
 have hin:∀ b,InW (upd β k (g,cap)) (upd f k nl) b→InW β f b∨b=g:=by
  rintro b ⟨k',h1,h2⟩
  by_cases e':k'=k
  ·subst e';rw [upd_same] at h2;exact Or.inr h2.symm
  ·rw [upd_other e'] at h1 h2;exact Or.inl ⟨k',h1,h2⟩
 have nT:∀ b,b < w.heap.size→¬ InW β f b→¬ InW (upd β k (g,cap)) (upd f k nl) b:=fun b hb' hn' h=>by
  rcases hin b h with h | h
  ·exact hn' h
  ·exact hgn b hb' hn' h
 refine ⟨E5,w6,upd β k (g,cap),_,hrun,⟨(T6.block m (lt_of_block E5) hb.em).trans E5,rowX_turned (rowX_turned hb.docs ht (fun g hg h=>(hb.dT g hg).1 (hpW _ h))) T6 (fun g hg=>(hb.dT g hg).2.2),own6,hrel6,nT m hel hb.eT,nT mm hml hb.wT,fun g' hg'=>⟨nT g' ((hb.docs.lt g' hg').2) (hb.dT g' hg').1,(hb.dT g' hg').2⟩,hb.em⟩,fun b hb'=>?_,t06.mono (fun b _ h=>?_)⟩
 ·rcases hin b hb' with h | h
  ·exact Or.inl h
  ·subst h
   rcases hgat with ⟨h1,h2⟩ | h
   ·exact Or.inl ⟨k,h1,h2⟩
   ·exact Or.inr h
 ·rcases h with h | h
  ·exact Or.inr (hpW _ h)
  ·exact Or.inl h
end Go.Proofs.YtaacjjhmojecnaaGreatDoor
namespace Go.ScT
def wantR (p:DocP→Bool) (l:List DocR):List DocR:=l.filter fun d=>p (d.2.1,d.1,d.2.2.length)
theorem docsP_want (p:DocP→Bool) (l:List DocR):docsP (wantR p l)=(docsP l).filter p:=by
 unfold docsP wantR
 rw [List.filter_map]
 rfl
theorem docsP_app (a b:List DocR):docsP (a++b)=docsP a++docsP b:=by simp [docsP]
theorem numsP_app (k:Bs):∀ (a b:List DocR),numsP (a++b) k=numsP a k++numsP b k
 | [],b=>by simp [numsP]
 | d :: r,b=>by
   have:=numsP_app k r b
   simp only [List.cons_append,numsP,this]
   split <;> simp
def tell1 (p:DocP→Bool) (ds:List DocP) (q:Nat × Nat):Pls:=match ds[q.1]? with | some d=>if p d then [(d.1,q.2)] else [] | none=>[]
theorem tells_all (p:DocP→Bool) (k:Bs) (L:List DocP):∀ (l:List DocR) (i:Nat),(∀ j d,l[j]?=some d→L[i+j]?=some (d.2.1,d.1,d.2.2.length))→(plsFrom i l k).flatMap (tell1 p L)=numsP (wantR p l) k
 | [],_,_=>by simp [plsFrom,numsP,wantR]
 | d :: r,i,h=>by
   have ih:=tells_all p k L r (i+1) (fun j d' hj=>by have:=h (j+1) d' (by simpa using hj);rwa [show i+1+j=i+(j+1) by omega])
   have h0:L[i]?=some (d.2.1,d.1,d.2.2.length):=by simpa using h 0 d rfl
   unfold plsFrom
   by_cases hp:p (d.2.1,d.1,d.2.2.length)=true
   ·have hw:wantR p (d :: r)=d :: wantR p r:=by simp [wantR,hp]
    rw [hw]
    by_cases hc:0 < d.2.2.count k
    ·rw [if_pos hc,List.flatMap_cons,ih]
     simp [tell1,h0,hp,numsP,hc]
    ·rw [if_neg hc,ih]
     simp [numsP,hc]
   ·have hw:wantR p (d :: r)=wantR p r:=by simp [wantR,hp]
    rw [hw]
    by_cases hc:0 < d.2.2.count k
    ·rw [if_pos hc,List.flatMap_cons,ih]
     simp [tell1,h0,hp]
    ·rw [if_neg hc,ih]
theorem tells_cont (p:DocP→Bool) (k:Bs) (l:List DocR):(plsFrom 0 l k).flatMap (tell1 p (docsP l))=numsP (wantR p l) k :=
 tells_all p k (docsP l) l 0 (fun j d hj=>by unfold docsP;rw [Nat.zero_add,List.getElem?_map,hj];rfl)
end Go.ScT
namespace Go.Proofs.YtaacjjhmojecnaaGreatDoor
open Go.RowKit Go.ScT Go.Proofs Go.Shelf
theorem enters44:∀ args w,(callFunc 44 args).run Tryz.prog w=.ok (.enter 44 args) w:=enters_of Tryz.func44 (by kernel_rfl) rfl
def ZM (base bC:Nat):Nat→Prop:=fun b=>base≤b∧b < bC
structure TakeIn (w:World) (base bC e:Nat) (E:List EDoc) (D L:Value) (lc:List DocR):Prop where
 bb:base≤bC
 bw:bC≤w.heap.size
 live:∀ W,Turned (ZM base bC) w W→∀ d:DocP,d.2.1.length≤maxLen→Calls Tryz.prog 44 #[.pointer (some ⟨e,0,none⟩),.agg #[.int .i64 (d.1:Int),lstV d.2.1,.int .i64 (d.2.2:Int)]] W fun en w'=>en=.returned (.bool (liveB E d))∧Below W.heap.size W w'
 docs:DRow w bC D (docsP lc)
 lists:ListsAt w bC (lensOf (docsP lc)) L (listsP lc)
 rise:Rise lc
 keys:∀ d∈docsP lc,d.2.1.length≤maxLen
 words:∀ k∈wordsOf lc,k.length≤maxLen
theorem TakeIn.docAt {w:World} {base bC e:Nat} {E:List EDoc} {L:Value} {lc:List DocR} {ao:Option Addr} {n c:Nat} (h:TakeIn w base bC e E (.slice ao n c) L lc) (hn:n=(docsP lc).length) {i:Nat} (hi:i < n):∃ g d,(docsP lc)[i]?=some d∧ao=some ⟨g,0,none⟩∧∀ W,Turned (ZM base bC) w W→W.cell? ⟨g,i * 3,none⟩=some (.int .i64 (d.1:Int))∧W.cell? ⟨g,i * 3+1,none⟩=some (lstV d.2.1)∧W.cell? ⟨g,i * 3+2,none⟩=some (.int .i64 (d.2.2:Int)):=by
 have hD:w.ownsRow bC 141 3 (.slice ao n c) n (docC (docsP lc)):=by have:=h.docs;unfold DRow at this;rw [← hn] at this;exact this
 obtain ⟨g,c',ao',he,_,hao⟩:=ownsRow_shape hD
 cases he
 obtain rfl:=hao (by omega)
 obtain ⟨d,hd⟩:∃ d,(docsP lc)[i]?=some d:=⟨_,List.getElem?_eq_getElem (by omega)⟩
 have hc:=docC_get hd
 refine ⟨g,d,hd,rfl,fun W hT=>?_⟩
 have hW:=ownsRow_turned hD hT (fun g' hg' hz=>by have:=(hD.lt g' hg').1;unfold ZM at hz;omega)
 exact ⟨by rw [hW.cellAt (i * 3) (by omega)];exact hc.1,by rw [hW.cellAt (i * 3+1) (by omega)];exact hc.2.1,by rw [hW.cellAt (i * 3+2) (by omega)];exact hc.2.2⟩
structure T1Inv (w:World) (base bC m mm:Nat) (D L:Value) (ds:List DocP) (β:BT) (f:Bs→Pls) (nW:Nat) (DW:DataW Unit) (dv:Value) (W:World):Prop where
 buf:MBuf W m mm dv ds β f nW DW
 box:W.heap[w.heap.size]?=some (.cells #[D,L] 91 (0,0))
 t:Turned (ZM base bC) w W
 zd:∀ g,dv.ownBlock=some g→ZM base bC g∨w.heap.size < g
theorem T1Inv.alloc {w W:World} {base bC m mm:Nat} {D L:Value} {ds:List DocP} {β:BT} {f:Bs→Pls} {nW:Nat} {DW:DataW Unit} {dv:Value} (h:T1Inv w base bC m mm D L ds β f nW DW dv W) {W':World} (hb:Below W.heap.size W W'):T1Inv w base bC m mm D L ds β f nW DW dv W' :=
 ⟨h.buf.turned (Turned.ofBelow (Z:=fun _=>False) hb) (fun _ _ h=>h),(hb.block _ (lt_of_block h.box)).trans h.box,h.t.trans (Turned.ofBelow hb),h.zd⟩
theorem T1Inv.push {w W w3:World} {base bC m mm:Nat} {D L:Value} {ds ds3:List DocP} {β:BT} {f:Bs→Pls} {nW:Nat} {DW:DataW Unit} {dv dv3:Value} {o:Obj} (h:T1Inv w base bC m mm D L ds β f nW DW dv W) (hz:∀ b,(b=m∨b=mm∨InW β f b)→ZM base bC b) (hbw:bC≤w.heap.size) (hg:(W.alloc o).grownBy w3 dv.ownBlock) (hD3:DRow w3 0 dv3 ds3) (hat:∀ g,dv3.ownBlock=some g→dv.ownBlock=some g∨W.heap.size≤g) :
 w3.cell? ⟨m,0,none⟩=some dv∧w3.frozen? ⟨m,0,none⟩=false∧T1Inv w base bC m mm D L ds3 β f nW DW dv3 (w3.setCell ⟨m,0,none⟩ dv3):=by
 have ht:Turned (fun b=>dv.ownBlock=some b) W w3:=(Turned.ofAlloc W o).trans (Turned.ofGrown hg (fun k hk _=>hk))
 obtain ⟨q1,q2⟩:=mbuf_doc h.buf ht hD3 hat
 have E1:w3.heap[m]?=some (.cells #[dv,.map (some mm)] 85 (0,0)):=(ht.block m (lt_of_block h.buf.blk) (fun h'=>(h.buf.dT m h').2.1 rfl)).trans h.buf.blk
 have hbox:=lt_of_block h.box
 refine ⟨(cell_two_any E1).1,by simp [World.frozen?,E1],q1,?_,h.t.trans2 q2 ?_,fun g hg'=>?_⟩
 ·refine (q2.block _ hbox ?_).trans h.box
  rintro (hb | hb | hb | hb)
  ·have:=hz _ (Or.inl hb);unfold ZM at this;omega
  ·have:=hz _ (Or.inr (Or.inl hb));unfold ZM at this;omega
  ·rcases h.zd _ hb with h' | h'
   ·unfold ZM at h';omega
   ·omega
  ·have:=hz _ (Or.inr (Or.inr hb));unfold ZM at this;omega
 ·rintro b hb' (hb | hb | hb | hb)
  ·exact hz b (Or.inl hb)
  ·exact hz b (Or.inr (Or.inl hb))
  ·rcases h.zd b hb with h' | h'
   ·exact h'
   ·omega
  ·exact hz b (Or.inr (Or.inr hb))
 ·rcases hat g hg' with h' | h'
  ·exact h.zd g h'
  ·exact Or.inr (by omega)
structure T2Inv (w:World) (base bC m mm:Nat) (D L:Value) (ds:List DocP) (f:Bs→Pls) (β:BT) (nW:Nat) (DW:DataW Unit) (dv:Value) (W:World):Prop where
 buf:MBuf W m mm dv ds β f nW DW
 box:W.heap[w.heap.size]?=some (.cells #[D,L] 91 (0,0))
 t:Turned (ZM base bC) w W
 z:∀ b,ZX m mm dv β f b→ZM base bC b∨w.heap.size < b
theorem T2Inv.alloc {w W:World} {base bC m mm:Nat} {D L:Value} {ds:List DocP} {β:BT} {f:Bs→Pls} {nW:Nat} {DW:DataW Unit} {dv:Value} (h:T2Inv w base bC m mm D L ds f β nW DW dv W) {W':World} (hb:Below W.heap.size W W'):T2Inv w base bC m mm D L ds f β nW DW dv W' :=
 ⟨h.buf.turned (Turned.ofBelow (Z:=fun _=>False) hb) (fun _ _ h=>h),(hb.block _ (lt_of_block h.box)).trans h.box,h.t.trans (Turned.ofBelow hb),h.z⟩
theorem T2Inv.put {w W w5:World} {base bC m mm:Nat} {D L:Value} {ds:List DocP} {β:BT} {f:Bs→Pls} {nW:Nat} {DW:DataW Unit} {dv pv v5:Value} {k:Bs} {x:Value} {nl:Pls} {o:Obj} (h:T2Inv w base bC m mm D L ds f β nW DW dv W) (_hbw:bC≤w.heap.size) (hnl:nl≠[]) (hn:nW < maxLen) (hp:(f k=[]∧pv=.slice none 0 0)∨(f k≠[]∧pv=rowV β f k)) (hg:(W.alloc o).grownBy w5 pv.ownBlock) (hR:WRow w5 v5 nl) (hv:Moved W pv v5) (hkey:keyOf Tryz.prog 9 x=some (.string k)) :
 (∀ (b:Nat) (c:Array Value) (t:TypeId) (fz:Nat × Nat),W.heap[b]?=some (Obj.cells c t fz)→t≠175→w5.heap[b]?=some (Obj.cells c t fz))∧∃ w6 β' DW',(Instr.mapUpdate 83 (.map (some mm)) x v5).run Tryz.prog w5=.ok () w6∧T2Inv w base bC m mm D L ds (upd f k nl) β' (nW+1) DW' dv w6∧∀ (b:Nat) (c:Array Value) (t:TypeId) (fz:Nat × Nat),W.heap[b]?=some (Obj.cells c t fz)→t≠175→w6.heap[b]?=some (Obj.cells c t fz):=by
 have ht:Turned (fun b=>pv.ownBlock=some b) W w5:=(Turned.ofAlloc W o).trans (Turned.ofGrown hg (fun k hk _=>hk))
 obtain ⟨_,w6,β',DW',hrun,hB6,hI6,hT6⟩:=mbuf_word hnl h.buf hn hp hR hv ht hkey
 have hpW:∀ b,pv.ownBlock=some b→InW β f b:=fun b hpb=>by
  rcases hp with ⟨_,h2⟩ | ⟨h1,h2⟩
  ·rw [h2] at hpb;cases hpb
  ·rw [h2] at hpb;simp [rowV,Value.ownBlock] at hpb;exact ⟨k,h1,hpb⟩
 have hnI:∀ (b:Nat) (c:Array Value) (t:TypeId) (fz:Nat × Nat),W.heap[b]?=some (Obj.cells c t fz)→t≠175→¬ (b=mm∨InW β f b):=by
  rintro b c t fz hb hne (rfl | ⟨k',hk',rfl⟩)
  ·obtain ⟨es,clock,hb',_⟩:=h.buf.words
   rw [hb'] at hb;cases hb
  ·obtain ⟨cu,bq⟩:=ownsRow_block (h.buf.rel.row k' hk') (g:=(β k').1) rfl
   rw [bq] at hb;cases hb;exact hne rfl
 have k6:∀ (b:Nat) (c:Array Value) (t:TypeId) (fz:Nat × Nat),W.heap[b]?=some (Obj.cells c t fz)→t≠175→w6.heap[b]?=some (Obj.cells c t fz):=fun b c t fz hb hne=>(hT6.block b (lt_of_block' hb) (hnI b c t fz hb hne)).trans hb
 refine ⟨fun b c t fz hb hne=>(ht.block b (lt_of_block' hb) (fun e=>hnI b c t fz hb hne (Or.inr (hpW b e)))).trans hb,w6,β',DW',hrun,⟨hB6,k6 _ _ _ _ h.box (by decide),h.t.trans2 hT6 ?_,?_⟩,k6⟩
 ·rintro b hb' hz
  rcases h.z b (by rcases hz with hz | hz;exact Or.inr (Or.inl hz);exact Or.inr (Or.inr (Or.inr hz))) with h' | h'
  ·exact h'
  ·omega
 ·rintro b (hb | hb | hb | hb)
  ·exact h.z b (Or.inl hb)
  ·exact h.z b (Or.inr (Or.inl hb))
  ·exact h.z b (Or.inr (Or.inr (Or.inl hb)))
  ·rcases hI6 b hb with h' | h'
   ·exact h.z b (Or.inr (Or.inr (Or.inr h')))
   ·have:=lt_of_block h.box
    exact Or.inr (by omega)
def fL (p:DocP→Bool) (l lc:List DocR) (i:Nat):Bs→Pls:=fun k=>numsP l k++(if k∈(wordsOf lc).take i then numsP (wantR p lc) k else [])
theorem fL_zero (p:DocP→Bool) (l lc:List DocR):fL p l lc 0=numsP l:=funext fun k=>by simp [fL]
theorem fL_all (p:DocP→Bool) (l lc:List DocR) {i:Nat} (hi:(wordsOf lc).length≤i):fL p l lc i=numsP (l++wantR p lc):=by
 funext k
 unfold fL
 rw [List.take_of_length_le hi,numsP_app]
 split
 ·rfl
 ·rename_i hk
  congr 1
  symm
  apply Classical.byContradiction
  intro hne
  obtain ⟨d,hd,hkd⟩:=numsP_ne.1 hne
  exact hk (wordsOf_mem.2 ⟨d,(List.mem_filter.1 hd).1,hkd⟩)
theorem fL_new (p:DocP→Bool) (l lc:List DocR) {i:Nat} {k:Bs} (hk:(wordsOf lc)[i]?=some k):fL p l lc i k=numsP l k:=by
 unfold fL
 rw [if_neg,List.append_nil]
 intro hm
 obtain ⟨j,hj⟩:=List.getElem?_of_mem hm
 rw [List.getElem?_take] at hj
 split at hj
 ·rename_i hji
  have hnd:=srt_nodup (wordsOf_srt lc)
  obtain ⟨h1,h2⟩:=List.getElem?_eq_some_iff.1 hk
  obtain ⟨h3,h4⟩:=List.getElem?_eq_some_iff.1 hj
  have:=(List.getElem_inj hnd).1 (h2.trans h4.symm)
  omega
 ·cases hj
theorem fL_succ (p:DocP→Bool) (l lc:List DocR) {i:Nat} {k:Bs} (hk:(wordsOf lc)[i]?=some k):upd (fL p l lc i) k (numsP l k++(plsFrom 0 lc k).flatMap (tell1 p (docsP lc)))=fL p l lc (i+1):=by
 funext k'
 by_cases e':k'=k
 ·subst e'
  rw [upd_same,tells_cont]
  unfold fL
  rw [List.take_add_one,hk,if_pos (by simp)]
 ·rw [upd_other e']
  unfold fL
  rw [List.take_add_one,hk]
  congr 1
  simp [e']
theorem tell1_len (p:DocP→Bool) (ds:List DocP) (q:Nat × Nat):(tell1 p ds q).length≤1:=by
 unfold tell1
 split
 ·split <;> simp
 ·simp
theorem tells_len (p:DocP→Bool) (ds:List DocP):∀ ps:Pls,(ps.flatMap (tell1 p ds)).length≤ps.length
 | []=>by simp
 | q :: r=>by
   have h1:=tells_len p ds r
   have h2:=tell1_len p ds q
   rw [List.flatMap_cons,List.length_append,List.length_cons]
   omega
set_option maxHeartbeats 4000000 in
set_option maxRecDepth 1000000 in
theorem take_any {w:World} {base bC e m mm:Nat} {E:List EDoc} {D L dv:Value} {lc l:List DocR} {β:BT} {nW:Nat} {DW:DataW Unit} (hT:TakeIn w base bC e E D L lc) (hM:MBuf w m mm dv (docsP l) β (numsP l) nW DW) (hMz:∀ b,ZX m mm dv β (numsP l) b→ZM base bC b) (hl:l.length≤10000) (hnW:nW≤1000000000) :
 Calls Tryz.prog 53 #[.pointer (some ⟨m,0,none⟩),.agg #[D,L],.func (.func 44) #[.pointer (some ⟨e,0,none⟩)] #[]] w fun en w'=>en=.returned (.tuple #[])∧(∃ dv' β' nW' DW',MBuf w' m mm dv' (docsP (l++wantR (liveB E) lc)) β' (numsP (l++wantR (liveB E) lc)) nW' DW'∧nW'≤nW+400000∧∀ b,ZX m mm dv' β' (numsP (l++wantR (liveB E) lc)) b→base≤b)∧Turned (ZM base bC) w w':=by
 obtain ⟨i141,hi1,ha0,ha1,ha2⟩:=info_parts info141
 obtain ⟨_,cD,aoD,hDe,_,_⟩:=ownsRow_shape hT.docs
 obtain ⟨nD,hnD⟩:∃ n,n=(docsP lc).length:=⟨_,rfl⟩
 rw [← hnD] at hDe
 subst hDe
 have hnD1:nD≤100:=by rw [hnD,docsP_len];exact hT.rise.most
 obtain ⟨xs,hxs,hLr,hNm⟩:=(id hT.lists)
 obtain ⟨aoL,cL,hLe⟩:=LRow.shape hLr
 obtain ⟨nL,hnL⟩:∃ n,n=xs.length:=⟨_,rfl⟩
 rw [← hnL] at hLe
 subst hLe
 have hml:=lt_of_block hM.blk
 have hzM:Hid (∀ b,(b=m∨b=mm∨InW β (numsP l) b)→ZM base bC b):=fun b hb=>hMz b (by rcases hb with hb | hb | hb;exact Or.inl hb;exact Or.inr (Or.inl hb);exact Or.inr (Or.inr (Or.inr hb)))
 have hbw:=hT.bw
 have HT:=hid hT
 have HND:=hid hnD
 have HNL:=hid hnL
 have HXS:=hid hxs
 have HLR:=hid hLr
 have HNM:=hid hNm
 have e44:=enters44
 obtain ⟨_,dc0,dao0,hdv0,_,_⟩:=ownsRow_shape hM.docs
 obtain ⟨dn0,hdn0⟩:∃ n,n=(docsP l).length:=⟨_,rfl⟩
 rw [← hdn0] at hdv0
 subst hdv0
 have H0:Hid (T1Inv w base bC m mm (.slice aoD nD cD) (.slice aoL nL cL) (docsP l++((docsP lc).take 0).filter (liveB E)) β (numsP l) nW DW (.slice dao0 dn0 dc0) (w.alloc (.cells #[.slice aoD nD cD,.slice aoL nL cL] 91))):=by
  refine ⟨?_,heap_alloc_new w _,Turned.ofAlloc w _,fun g hg=>Or.inl (hMz g (Or.inr (Or.inr (Or.inl hg))))⟩
  simpa using hM.turned (Turned.ofAlloc (Z:=fun _=>False) w (.cells #[.slice aoD nD cD,.slice aoL nL cL] 91)) (fun _ _ h=>h)
 have HDN0:=hid hdn0
 have hdl0:dn0≤10000:=by rw [hdn0,docsP_len];exact hl
 have c00:=(cell_two_any H0.out.box).1
 clear hT hnD hnL hxs hLr hNm hM hMz hdn0
 go_enter Tryz.func53,Tryz.ntmps53
 go_wp2_with (fail)
 go_loopw [16] (fun s16 wr=>∃ (i:Nat) (ao:Option Addr) (n c:Nat),s16=.int .i64 (i:Int)∧i≤nD∧n≤dn0+i∧Hid (n=(docsP l++((docsP lc).take i).filter (liveB E)).length)∧Hid (T1Inv w base bC m mm (.slice aoD nD cD) (.slice aoL nL cL) (docsP l++((docsP lc).take i).filter (liveB E)) β (numsP l) nW DW (.slice ao n c) wr)) (fun s16 _=>nD - (intOf s16).toNat)
 case atStart=>exact ⟨0,dao0,dn0,dc0,rfl,by omega,by omega,by show _=_;simpa using HDN0.out,H0⟩
 case round =>
  obtain ⟨i,ao,n,c,rfl,hi,hn,HN,HI⟩:=hrel
  clear H0 c00
  by_cases hlt:i < nD
  ·obtain ⟨g,d,hd,rfl,hcell⟩:=HT.out.docAt HND.out hlt
   obtain ⟨k0,k1,k2⟩:=hcell wr HI.out.t
   have HD:=hid hd
   clear hd hcell
   obtain ⟨dnum,dkey,dlen⟩:=d
   simp only at k0 k1 k2
   have HKL:Hid (dkey.length≤maxLen):=HT.out.keys (dnum,dkey,dlen) (List.mem_of_getElem? HD.out)
   have hb0:Below wr.heap.size wr (wr.alloc (.cells #[.int .i64 (dnum:Int),.string ⟨dkey.toArray⟩,.int .i64 (dlen:Int)] 141)):=(Below.refl _ wr).alloc (Nat.le_refl _) _
   have CL:Hid (Calls Tryz.prog 44 #[.pointer (some ⟨e,0,none⟩),.agg #[.int .i64 (dnum:Int),.string ⟨dkey.toArray⟩,.int .i64 (dlen:Int)]] (wr.alloc (.cells #[.int .i64 (dnum:Int),.string ⟨dkey.toArray⟩,.int .i64 (dlen:Int)] 141)) fun en w'=>en=.returned (.bool (liveB E (dnum,dkey,dlen)))∧Below (wr.alloc (.cells #[.int .i64 (dnum:Int),.string ⟨dkey.toArray⟩,.int .i64 (dlen:Int)] 141)).heap.size (wr.alloc (.cells #[.int .i64 (dnum:Int),.string ⟨dkey.toArray⟩,.int .i64 (dlen:Int)] 141)) w'):=HT.out.live _ (HI.out.t.trans (Turned.ofBelow hb0)) (dnum,dkey,dlen) HKL.out
   have HI0:=hid (HI.out.alloc hb0)
   obtain ⟨n0,n1,n2,_⟩:=cell_three (heap_alloc_new wr (.cells #[.int .i64 (dnum:Int),.string ⟨dkey.toArray⟩,.int .i64 (dlen:Int)] 141))
   have hlt0:wr.heap.size < (wr.alloc (.cells #[.int .i64 (dnum:Int),.string ⟨dkey.toArray⟩,.int .i64 (dlen:Int)] 141)).heap.size:=by simp
   have HTK:Hid (docsP l++((docsP lc).take (i+1)).filter (liveB E)=docsP l++((docsP lc).take i).filter (liveB E)++(if liveB E (dnum,dkey,dlen) then [(dnum,dkey,dlen)] else [])):=by
    show _=_
    rw [List.take_add_one,HD.out,List.filter_append,List.append_assoc]
    congr 2
    cases hlv:liveB E (dnum,dkey,dlen) <;> simp [hlv]
   cases hlv:liveB E (dnum,dkey,dlen) with
   | false =>
     rw [hlv] at CL HTK
     clear hlv
     go_wp2_with (fail)
     refine CL.out.mono ?_
     rintro en w1 ⟨rfl,hb1⟩
     have HI1:=hid (HI0.out.alloc hb1)
     clear CL hb1 HI0 HI hb0 k0 k1 k2 n0 n1 n2 hlt0
     go_wp2_with (fail)
     go_roundw
     case rel=>exact ⟨i+1,ao,n,c,by go_num,by omega,by omega,by show _=_;rw [HTK.out];simpa using HN.out,by show T1Inv _ _ _ _ _ _ _ _ _ _ _ _ _ _;rw [HTK.out];simpa using HI1.out⟩
     case measure=>simp [intOf];omega
   | true =>
     rw [hlv] at CL HTK
     clear hlv
     go_wp2_with (fail)
     refine CL.out.mono ?_
     rintro en w1 ⟨rfl,hb1⟩
     have HI1:=hid (HI0.out.alloc hb1)
     have m0:=below_c hb1 hlt0 n0
     have m1:=below_c hb1 hlt0 n1
     have m2:=below_c hb1 hlt0 n2
     have hs1:=hb1.size
     have hlt1:wr.heap.size < w1.heap.size:=by omega
     clear CL hb1 HI0 HI hb0 k0 k1 k2 n0 n1 n2 hlt0
     have c0:=(cell_two_any HI1.out.buf.blk).1
     go_wp2_with (fail)
     have HI2:Hid (T1Inv w base bC m mm (.slice (some ⟨g,0,none⟩) nD cD) (.slice aoL nL cL) (docsP l++((docsP lc).take i).filter (liveB E)) β (numsP l) nW DW (.slice ao n c) w1.drew):=HI1.out.alloc ⟨rfl,rfl,rfl,Nat.le_refl _,fun _ _=>rfl⟩
     have HDR:Hid (w1.drew.ownsRow 0 141 3 (.slice ao n c) n (docC (docsP l++((docsP lc).take i).filter (liveB E)))):=by
      have:=HI2.out.buf.docs
      unfold DRow at this
      rw [← HN.out] at this
      exact this
     have PSH:Hid (∀ gA cA w6 o,(w1.drew.alloc o).grownBy w6 (Value.slice ao n c).ownBlock→w6.ownsRow 0 141 3 (.slice (some ⟨gA,0,none⟩) (n+1) cA) (n+1) (docC (docsP l++((docsP lc).take i).filter (liveB E))++[natV dnum,lstV dkey,natV dlen])→((Value.slice ao n c).ownBlock=some gA∨gA=w1.heap.size+1)→w6.cell? ⟨m,0,none⟩=some (.slice ao n c)∧w6.frozen? ⟨m,0,none⟩=false∧T1Inv w base bC m mm (.slice (some ⟨g,0,none⟩) nD cD) (.slice aoL nL cL) (docsP l++((docsP lc).take i).filter (liveB E)++[(dnum,dkey,dlen)]) β (numsP l) nW DW (.slice (some ⟨gA,0,none⟩) (n+1) cA) (w6.setCell ⟨m,0,none⟩ (.slice (some ⟨gA,0,none⟩) (n+1) cA))):=by
      intro gA cA w6 o hg hown hat
      refine HI2.out.push hzM.out hbw hg ?_ (fun g' hg'=>?_)
      ·unfold DRow
       rw [docC_snoc,List.length_append,← HN.out]
       exact hown
      ·simp [Value.ownBlock] at hg'
       subst hg'
       rcases hat with h | h
       ·exact Or.inl h
       ·exact Or.inr (by show w1.heap.size≤_;omega)
     have hmw1:=lt_of_block HI1.out.buf.blk
     have c0a:∀ o,(w1.drew.alloc o).cell? ⟨m,0,none⟩=some (.slice ao n c):=fun o=>(World.cell?_of_block (Below.heap_alloc _ _ _ hmw1)).trans c0
     clear HI1 HI2 HD
     refine wp_region_any (by kernel_rfl) ?_
     change wpAny _ _ _ _ _ _ _ (World.drew _)
     refine wpAny_take (i:=0) (v:=.pointer (some ⟨m,0,none⟩)) rfl (by kernel_rfl) (by kernel_rfl) (by kernel_rfl) (fun _ _ _ h=>h) (Or.inl ⟨by rfl,fun w=>by go_simp⟩) ?_
     refine wpAny_take (i:=1) (v:=.pointer (some ⟨m,0,none⟩)) rfl (by kernel_rfl) (by kernel_rfl) (by kernel_rfl) (fun _ _ _ h=>h) (Or.inl ⟨by rfl,fun w=>by go_simp⟩) ?_
     refine wpAny_take (i:=2) (v:=.pointer (some ⟨m,0,none⟩)) rfl (by kernel_rfl) (by kernel_rfl) (by kernel_rfl) (fun _ _ _ h=>h) (Or.inl ⟨by rfl,fun w=>by go_simp⟩) ?_
     refine wpAny_take (i:=3) (v:=.pointer (some ⟨m,0,none⟩)) rfl (by kernel_rfl) (by kernel_rfl) (by kernel_rfl) (fun _ _ _ h=>h) (Or.inl ⟨by rfl,fun w=>by go_simp⟩) ?_
     refine wpAny_ready (rs:=[4,5]) (by kernel_rfl) (by simp) ?_
     refine AllReady.cons rfl (fun K hK=>?_) (AllReady.cons rfl (fun K hK=>?_) AllReady.nil)
     ·go_simp
      refine hK _ _ ?_
      clear hK K
      refine wpAny_ready (rs:=[5]) (by kernel_rfl) (by simp) ?_
      refine AllReady.cons rfl (fun K hK=>?_) AllReady.nil
      go_simp
      refine hK _ _ ?_
      clear hK K
      refine wpAny_ready (rs:=[6]) (by kernel_rfl) (by simp) ?_
      refine AllReady.cons rfl (fun K hK=>?_) AllReady.nil
      go_simp
      refine hK _ _ ?_
      clear hK K
      refine wpAny_ready (rs:=[7]) (by kernel_rfl) (by simp) ?_
      refine AllReady.cons rfl (fun K hK=>?_) AllReady.nil
      refine step_append_lies _ (by rfl) _ _ _ (by rfl) 0 141 i141 _ 3 32 Tryz.underlying82 hi1 ha0 ha1 ha2 rfl (by omega) (.slice ao n c) n _ (by rfl) (by exact HDR.out.alloc _) ⟨w1.heap.size,0,none⟩ 1 1 [natV dnum,lstV dkey,natV dlen] (by rfl) (by rfl) (World.news_of_block (cs:=#[natV dnum,lstV dkey,natV dlen]) (t:=141) (fr:=(0,0)) (heap_alloc_new w1.drew _)) (by simp [Value.oneCell']) (by omega) (by unfold maxLen;omega) (by omega) (by omega) (w1.heap.size+1) (by simp) ?_
      intro gA cA w6 hownA hgA hatA hltA
      obtain ⟨j1,jf,jI⟩:=PSH.out gA cA w6 _ hgA hownA hatA
      have HJI:=hid jI
      clear jI
      refine hK _ _ ?_
      clear hK K
      refine wpAny_ready (rs:=[8]) (by kernel_rfl) (by simp) ?_
      refine AllReady.cons rfl (fun K hK=>?_) AllReady.nil
      go_simp
      refine hK _ _ ?_
      clear hK K
      refine wpAny_ready (rs:=[9]) (by kernel_rfl) (by simp) ?_
      refine AllReady.cons rfl (fun K hK=>?_) AllReady.nil
      go_simp
      refine hK _ _ ?_
      clear hK K
      refine wpAny_ready (rs:=[10]) (by kernel_rfl) (by simp) ?_
      refine AllReady.cons rfl (fun K hK=>?_) AllReady.nil
      go_simp
      refine hK _ _ ?_
      clear hK K
      refine wpAny_done (by kernel_rfl) ?_ _
      clear PSH HDR hownA hgA hatA hltA j1 jf c0 m0 m1 m2
      go_wp2_with (fail)
      go_roundw
      case rel=>exact ⟨i+1,some ⟨gA,0,none⟩,n+1,cA,by go_num,by omega,by omega,by show _=_;rw [HTK.out,List.length_append,← HN.out];rfl,by show T1Inv _ _ _ _ _ _ _ _ _ _ _ _ _ _;rw [HTK.out];exact HJI.out⟩
      case measure=>simp [intOf];omega
     ·go_simp
      refine hK _ _ ?_
      clear hK K
      refine wpAny_ready (rs:=[4,6]) (by kernel_rfl) (by simp) ?_
      refine AllReady.cons rfl (fun K hK=>?_) (AllReady.cons rfl (fun K hK=>?_) AllReady.nil)
      ·go_simp
       refine hK _ _ ?_
       clear hK K
       refine wpAny_ready (rs:=[6]) (by kernel_rfl) (by simp) ?_
       refine AllReady.cons rfl (fun K hK=>?_) AllReady.nil
       go_simp
       refine hK _ _ ?_
       clear hK K
       refine wpAny_ready (rs:=[7]) (by kernel_rfl) (by simp) ?_
       refine AllReady.cons rfl (fun K hK=>?_) AllReady.nil
       refine step_append_lies _ (by rfl) _ _ _ (by rfl) 0 141 i141 _ 3 32 Tryz.underlying82 hi1 ha0 ha1 ha2 rfl (by omega) (.slice ao n c) n _ (by rfl) (by exact HDR.out.alloc _) ⟨w1.heap.size,0,none⟩ 1 1 [natV dnum,lstV dkey,natV dlen] (by rfl) (by rfl) (World.news_of_block (cs:=#[natV dnum,lstV dkey,natV dlen]) (t:=141) (fr:=(0,0)) (heap_alloc_new w1.drew _)) (by simp [Value.oneCell']) (by omega) (by unfold maxLen;omega) (by omega) (by omega) (w1.heap.size+1) (by simp) ?_
       intro gA cA w6 hownA hgA hatA hltA
       obtain ⟨j1,jf,jI⟩:=PSH.out gA cA w6 _ hgA hownA hatA
       have HJI:=hid jI
       clear jI
       refine hK _ _ ?_
       clear hK K
       refine wpAny_ready (rs:=[8]) (by kernel_rfl) (by simp) ?_
       refine AllReady.cons rfl (fun K hK=>?_) AllReady.nil
       go_simp
       refine hK _ _ ?_
       clear hK K
       refine wpAny_ready (rs:=[9]) (by kernel_rfl) (by simp) ?_
       refine AllReady.cons rfl (fun K hK=>?_) AllReady.nil
       go_simp
       refine hK _ _ ?_
       clear hK K
       refine wpAny_ready (rs:=[10]) (by kernel_rfl) (by simp) ?_
       refine AllReady.cons rfl (fun K hK=>?_) AllReady.nil
       go_simp
       refine hK _ _ ?_
       clear hK K
       refine wpAny_done (by kernel_rfl) ?_ _
       clear PSH HDR hownA hgA hatA hltA j1 jf c0 m0 m1 m2
       go_wp2_with (fail)
       go_roundw
       case rel=>exact ⟨i+1,some ⟨gA,0,none⟩,n+1,cA,by go_num,by omega,by omega,by show _=_;rw [HTK.out,List.length_append,← HN.out];rfl,by show T1Inv _ _ _ _ _ _ _ _ _ _ _ _ _ _;rw [HTK.out];exact HJI.out⟩
       case measure=>simp [intOf];omega
      ·go_simp
       refine hK _ _ ?_
       clear hK K
       refine wpAny_ready (rs:=[4]) (by kernel_rfl) (by simp) ?_
       refine AllReady.cons rfl (fun K hK=>?_) AllReady.nil
       go_simp
       refine hK _ _ ?_
       clear hK K
       refine wpAny_ready (rs:=[7]) (by kernel_rfl) (by simp) ?_
       refine AllReady.cons rfl (fun K hK=>?_) AllReady.nil
       refine step_append_lies _ (by rfl) _ _ _ (by rfl) 0 141 i141 _ 3 32 Tryz.underlying82 hi1 ha0 ha1 ha2 rfl (by omega) (.slice ao n c) n _ (by rfl) (by exact HDR.out.alloc _) ⟨w1.heap.size,0,none⟩ 1 1 [natV dnum,lstV dkey,natV dlen] (by rfl) (by rfl) (World.news_of_block (cs:=#[natV dnum,lstV dkey,natV dlen]) (t:=141) (fr:=(0,0)) (heap_alloc_new w1.drew _)) (by simp [Value.oneCell']) (by omega) (by unfold maxLen;omega) (by omega) (by omega) (w1.heap.size+1) (by simp) ?_
       intro gA cA w6 hownA hgA hatA hltA
       obtain ⟨j1,jf,jI⟩:=PSH.out gA cA w6 _ hgA hownA hatA
       have HJI:=hid jI
       clear jI
       refine hK _ _ ?_
       clear hK K
       refine wpAny_ready (rs:=[8]) (by kernel_rfl) (by simp) ?_
       refine AllReady.cons rfl (fun K hK=>?_) AllReady.nil
       go_simp
       refine hK _ _ ?_
       clear hK K
       refine wpAny_ready (rs:=[9]) (by kernel_rfl) (by simp) ?_
       refine AllReady.cons rfl (fun K hK=>?_) AllReady.nil
       go_simp
       refine hK _ _ ?_
       clear hK K
       refine wpAny_ready (rs:=[10]) (by kernel_rfl) (by simp) ?_
       refine AllReady.cons rfl (fun K hK=>?_) AllReady.nil
       go_simp
       refine hK _ _ ?_
       clear hK K
       refine wpAny_done (by kernel_rfl) ?_ _
       clear PSH HDR hownA hgA hatA hltA j1 jf c0 m0 m1 m2
       go_wp2_with (fail)
       go_roundw
       case rel=>exact ⟨i+1,some ⟨gA,0,none⟩,n+1,cA,by go_num,by omega,by omega,by show _=_;rw [HTK.out,List.length_append,← HN.out];rfl,by show T1Inv _ _ _ _ _ _ _ _ _ _ _ _ _ _;rw [HTK.out];exact HJI.out⟩
       case measure=>simp [intOf];omega
  ·obtain rfl:i=nD:=by omega
   have hds:docsP l++((docsP lc).take i).filter (liveB E)=docsP (l++wantR (liveB E) lc):=by rw [List.take_of_length_le (by rw [← HND.out];exact Nat.le_refl _),docsP_app,docsP_want]
   have HI2:Hid (T2Inv w base bC m mm (.slice aoD i cD) (.slice aoL nL cL) (docsP (l++wantR (liveB E) lc)) (numsP l) β nW DW (.slice ao n c) wr):=by
    have hI:=HI.out
    rw [hds] at hI
    refine ⟨hI.buf,hI.box,hI.t,?_⟩
    rintro b (hb | hb | hb | hb)
    ·exact Or.inl (hzM.out b (Or.inl hb))
    ·exact Or.inl (hzM.out b (Or.inr (Or.inl hb)))
    ·exact hI.zd b hb
    ·exact Or.inl (hzM.out b (Or.inr (Or.inr hb)))
   have hnLw:nL=(wordsOf lc).length:=by
    rw [HNL.out]
    have:=congrArg List.length HXS.out
    simpa [listsP] using this
   have hnL4:nL≤4000:=by rw [hnLw];exact wordsOf_len HT.out.rise
   have HNW:=hid hnLw
   have c1:=(cell_two_any HI2.out.box).2
   clear HI hds hlt hi HN hnLw
   go_wp2_with (fail)
   go_loopw [37] (fun s37 wq=>∃ (j:Nat) (βq:BT) (nq:Nat) (Dq:DataW Unit),s37=.int .i64 (j:Int)∧j≤nL∧nq≤nW+j * 100∧Hid (T2Inv w base bC m mm (.slice aoD i cD) (.slice aoL nL cL) (docsP (l++wantR (liveB E) lc)) (fL (liveB E) l lc j) βq nq Dq (.slice ao n c) wq)) (fun s37 _=>nL - (intOf s37).toNat)
   case atStart=>exact ⟨0,β,nW,DW,rfl,by omega,by omega,by show T2Inv _ _ _ _ _ _ _ _ _ _ _ _ _ _;rw [fL_zero];exact HI2.out⟩
   case round =>
    obtain ⟨j,βq,nq,Dq,rfl,hj,hnq,HQ⟩:=hrel
    obtain ⟨wq,hwq⟩:∃ wq,wq=wr:=⟨_,rfl⟩
    subst hwq
    clear HI2 c1
    by_cases hlj:j < nL
    ·obtain ⟨y,hy⟩:∃ y,xs[j]?=some y:=⟨_,List.getElem?_eq_getElem (by rw [← HNL.out];exact hlj)⟩
     obtain ⟨⟨k,pls⟩,vP,vH⟩:=y
     have hkw:(wordsOf lc)[j]?=some k∧pls=plsFrom 0 lc k:=by
      have h1:(xs.map (·.1))[j]?=some (k,pls):=by rw [List.getElem?_map,hy];rfl
      rw [HXS.out] at h1
      unfold listsP at h1
      rw [List.getElem?_map] at h1
      obtain ⟨k',h2,h3⟩:=Option.map_eq_some_iff.1 h1
      cases h3
      exact ⟨h2,rfl⟩
     obtain ⟨hkw,rfl⟩:=hkw
     have HKW:=hid hkw
     have hkl:k.length≤maxLen:=HT.out.words k (List.mem_of_getElem? hkw)
     have hLq:wq.ownsRow bC 167 3 (.slice aoL nL cL) nL (lsC xs):=by
      have:=ownsRow_turned HLR.out HQ.out.t (fun g' hg' hz=>by have:=(HLR.out.lt g' hg').1;unfold ZM at hz;omega)
      unfold LRow at this
      rw [← HNL.out] at this
      exact this
     obtain ⟨gL,_,_,hLe,_,haoL⟩:=ownsRow_shape hLq
     cases hLe
     obtain rfl:=haoL (by omega)
     have hlc:=lsC_get hy
     have l0:wq.cell? ⟨gL,j * 3,none⟩=some (lstV k):=by rw [hLq.cellAt (j * 3) (by omega)];exact hlc.1
     have l1:wq.cell? ⟨gL,j * 3+1,none⟩=some vP:=by rw [hLq.cellAt (j * 3+1) (by omega)];exact hlc.2.1
     have l2:wq.cell? ⟨gL,j * 3+2,none⟩=some vH:=by rw [hLq.cellAt (j * 3+2) (by omega)];exact hlc.2.2
     obtain ⟨hPn,hHn⟩:=HNM.out _ (List.mem_of_getElem? hy)
     simp only at hPn hHn
     obtain ⟨_,cP,aoP,rfl,_,haoP⟩:=ownsRow_shape hPn
     obtain ⟨_,cH,aoH,rfl,_,_⟩:=ownsRow_shape hHn
     obtain ⟨nP,hnP⟩:∃ n,n=(plsFrom 0 lc k).length:=⟨_,rfl⟩
     obtain ⟨nH,hnH⟩:∃ n,n=(hdsOf (lensOf (docsP lc)) (plsFrom 0 lc k)).length:=⟨_,rfl⟩
     rw [← hnP] at l1
     rw [← hnH] at l2
     have hP1:w.ownsRow bC 169 2 (.slice aoP nP cP) nP (plC (plsFrom 0 lc k)):=by
      have:=hPn
      unfold PRow at this
      rw [← hnP] at this
      exact this
     have HP1:=hid hP1
     have HNP:=hid hnP
     have hnP1:nP≤100:=by have:=plsFrom_len 0 lc k;have:=HT.out.rise.most;omega
     have hbq:Below wq.heap.size wq (wq.alloc (.cells #[.string ⟨k.toArray⟩,.slice aoP nP cP,.slice aoH nH cH] 167)):=(Below.refl _ wq).alloc (Nat.le_refl _) _
     have HB9:=hid (heap_alloc_new wq (.cells #[.string ⟨k.toArray⟩,.slice aoP nP cP,.slice aoH nH cH] 167))
     have HQ1:Hid (T2Inv w base bC m mm (.slice aoD i cD) (.slice (some ⟨gL,0,none⟩) nL cL) (docsP (l++wantR (liveB E) lc)) (upd (fL (liveB E) l lc j) k (numsP l k++((plsFrom 0 lc k).take 0).flatMap (tell1 (liveB E) (docsP lc)))) βq nq Dq (.slice ao n c) (wq.alloc (.cells #[.string ⟨k.toArray⟩,.slice aoP nP cP,.slice aoH nH cH] 167))):=by
      have h1:=HQ.out.alloc hbq
      have h2:upd (fL (liveB E) l lc j) k (numsP l k++((plsFrom 0 lc k).take 0).flatMap (tell1 (liveB E) (docsP lc)))=fL (liveB E) l lc j:=by
       rw [List.take_zero,List.flatMap_nil,List.append_nil,← fL_new (liveB E) l lc hkw,upd_self]
      show T2Inv _ _ _ _ _ _ _ _ _ _ _ _ _ _
      rw [h2]
      exact h1
     have hb9w:w.heap.size < wq.heap.size:=lt_of_block HQ.out.box
     clear hLq hlc hPn hHn hP1 hnP hnH haoL hkw hy haoP hbq HQ
     go_wp2_with (fail)
     go_loopw [44] (fun s44 wi=>∃ (q:Nat) (βi:BT) (ni:Nat) (Di:DataW Unit),s44=.int .i64 (q:Int)∧q≤nP∧ni≤nW+j * 100+q∧Hid (T2Inv w base bC m mm (.slice aoD i cD) (.slice (some ⟨gL,0,none⟩) nL cL) (docsP (l++wantR (liveB E) lc)) (upd (fL (liveB E) l lc j) k (numsP l k++((plsFrom 0 lc k).take q).flatMap (tell1 (liveB E) (docsP lc)))) βi ni Di (.slice ao n c) wi)∧Hid (wi.heap[wq.heap.size]?=some (.cells #[.string ⟨k.toArray⟩,.slice aoP nP cP,.slice aoH nH cH] 167 (0,0)))) (fun s44 _=>nP - (intOf s44).toNat)
     case atStart=>exact ⟨0,βq,nq,Dq,rfl,by omega,by omega,HQ1,HB9⟩
     case round =>
      obtain ⟨q,βi,ni,Di,rfl,hq,hni,HX,HX9⟩:=hrel
      obtain ⟨wi,hwi⟩:∃ wi,wi=wr:=⟨_,rfl⟩
      subst hwi
      clear HQ1 HB9 l0 l1 l2
      by_cases hlq:q < nP
      ·obtain ⟨p,hp⟩:∃ p,(plsFrom 0 lc k)[q]?=some p:=⟨_,List.getElem?_eq_getElem (by rw [← HNP.out];exact hlq)⟩
       have hpb:=plsFrom_bnd HT.out.rise k p (List.mem_of_getElem? hp)
       have hpi:p.1 < i:=by rw [HND.out,docsP_len];exact hpb.1
       have hP2:wi.ownsRow bC 169 2 (.slice aoP nP cP) nP (plC (plsFrom 0 lc k)):=ownsRow_turned HP1.out HX.out.t (fun g' hg' hz=>by have:=(HP1.out.lt g' hg').1;unfold ZM at hz;omega)
       obtain ⟨gP,_,_,hPe,_,haoP⟩:=ownsRow_shape hP2
       cases hPe
       obtain rfl:=haoP (by omega)
       have hpc:=plC_get hp
       have p0:wi.cell? ⟨gP,q * 2,none⟩=some (.int .i64 (p.1:Int)):=by rw [hP2.cellAt (q * 2) (by omega)];exact hpc.1
       have p1:wi.cell? ⟨gP,q * 2+1,none⟩=some (.int .i64 (p.2:Int)):=by rw [hP2.cellAt (q * 2+1) (by omega)];exact hpc.2
       obtain ⟨g,d,hd,hge,hcell⟩:=HT.out.docAt HND.out hpi
       subst hge
       have HDD:=hid hd
       have HPP:=hid hp
       obtain ⟨dnum,dkey,dlen⟩:=d
       obtain ⟨po,pc⟩:=p
       simp only at p0 p1 hpi hpb
       have hb1:Below wi.heap.size wi (wi.alloc (.cells #[.int .i64 (po:Int),.int .i64 (pc:Int)] 169)):=(Below.refl _ wi).alloc (Nat.le_refl _) _
       have hb2:Below wi.heap.size wi ((wi.alloc (.cells #[.int .i64 (po:Int),.int .i64 (pc:Int)] 169)).alloc (.cells #[.int .i64 (dnum:Int),.string ⟨dkey.toArray⟩,.int .i64 (dlen:Int)] 141)):=hb1.alloc (by simp) _
       have HX1:=hid (HX.out.alloc hb1)
       have HX2:=hid (HX.out.alloc hb2)
       obtain ⟨k0,k1,k2⟩:=hcell _ HX1.out.t
       simp only at k0 k1 k2
       have b0:=(cell_two_any HX1.out.box).1
       obtain ⟨n0,n1⟩:=cell_two_any (heap_alloc_new wi (.cells #[.int .i64 (po:Int),.int .i64 (pc:Int)] 169))
       have HKL:Hid (dkey.length≤maxLen):=HT.out.keys (dnum,dkey,dlen) (List.mem_of_getElem? HDD.out)
       have CL:Hid (Calls Tryz.prog 44 #[.pointer (some ⟨e,0,none⟩),.agg #[.int .i64 (dnum:Int),.string ⟨dkey.toArray⟩,.int .i64 (dlen:Int)]] ((wi.alloc (.cells #[.int .i64 (po:Int),.int .i64 (pc:Int)] 169)).alloc (.cells #[.int .i64 (dnum:Int),.string ⟨dkey.toArray⟩,.int .i64 (dlen:Int)] 141)) fun en w'=>en=.returned (.bool (liveB E (dnum,dkey,dlen)))∧Below ((wi.alloc (.cells #[.int .i64 (po:Int),.int .i64 (pc:Int)] 169)).alloc (.cells #[.int .i64 (dnum:Int),.string ⟨dkey.toArray⟩,.int .i64 (dlen:Int)] 141)).heap.size ((wi.alloc (.cells #[.int .i64 (po:Int),.int .i64 (pc:Int)] 169)).alloc (.cells #[.int .i64 (dnum:Int),.string ⟨dkey.toArray⟩,.int .i64 (dlen:Int)] 141)) w'):=HT.out.live _ HX2.out.t (dnum,dkey,dlen) HKL.out
       have HTK:Hid (((plsFrom 0 lc k).take (q+1)).flatMap (tell1 (liveB E) (docsP lc))=((plsFrom 0 lc k).take q).flatMap (tell1 (liveB E) (docsP lc))++(if liveB E (dnum,dkey,dlen) then [(dnum,pc)] else [])):=by
        show _=_
        rw [List.take_add_one,HPP.out,List.flatMap_append]
        simp [tell1,HDD.out]
       have N11:Hid (((wi.alloc (.cells #[.int .i64 (po:Int),.int .i64 (pc:Int)] 169)).alloc (.cells #[.int .i64 (dnum:Int),.string ⟨dkey.toArray⟩,.int .i64 (dlen:Int)] 141)).heap[wi.heap.size]?=some (.cells #[.int .i64 (po:Int),.int .i64 (pc:Int)] 169 (0,0))):=(Below.heap_alloc _ _ _ (by simp)).trans (heap_alloc_new wi _)
       have N12:Hid (((wi.alloc (.cells #[.int .i64 (po:Int),.int .i64 (pc:Int)] 169)).alloc (.cells #[.int .i64 (dnum:Int),.string ⟨dkey.toArray⟩,.int .i64 (dlen:Int)] 141)).heap[wi.heap.size+1]?=some (.cells #[.int .i64 (dnum:Int),.string ⟨dkey.toArray⟩,.int .i64 (dlen:Int)] 141 (0,0))):=by
        have:=heap_alloc_new (wi.alloc (.cells #[.int .i64 (po:Int),.int .i64 (pc:Int)] 169)) (.cells #[.int .i64 (dnum:Int),.string ⟨dkey.toArray⟩,.int .i64 (dlen:Int)] 141)
        rwa [World.size_alloc] at this
       have N9:Hid (((wi.alloc (.cells #[.int .i64 (po:Int),.int .i64 (pc:Int)] 169)).alloc (.cells #[.int .i64 (dnum:Int),.string ⟨dkey.toArray⟩,.int .i64 (dlen:Int)] 141)).heap[wq.heap.size]?=some (.cells #[.string ⟨k.toArray⟩,.slice (some ⟨gP,0,none⟩) nP cP,.slice aoH nH cH] 167 (0,0))):=(hb2.block _ (lt_of_block HX9.out)).trans HX9.out
       clear hP2 haoP hpc hp hd hcell hb1 hb2 hpb HX HX9 HX1
       cases hlv:liveB E (dnum,dkey,dlen) with
       | false =>
         rw [hlv] at CL HTK
         clear hlv
         go_wp2_with (fail)
         refine CL.out.mono ?_
         rintro en w1 ⟨rfl,hbw1⟩
         have HX3:=hid (HX2.out.alloc hbw1)
         have HX93:Hid (w1.heap[wq.heap.size]?=some (.cells #[.string ⟨k.toArray⟩,.slice (some ⟨gP,0,none⟩) nP cP,.slice aoH nH cH] 167 (0,0))):=(hbw1.block _ (lt_of_block N9.out)).trans N9.out
         clear CL hbw1 HX2 N9 N11 N12 k0 k1 k2 n0 n1 b0 p0 p1
         go_wp2_with (fail)
         go_roundw
         case rel=>exact ⟨q+1,βi,ni,Di,by go_num,by omega,by omega,by show T2Inv _ _ _ _ _ _ _ _ _ _ _ _ _ _;rw [HTK.out];simpa using HX3.out,HX93⟩
         case measure=>simp [intOf];omega
       | true =>
         rw [hlv] at CL HTK
         clear hlv
         go_wp2_with (fail)
         refine CL.out.mono ?_
         rintro en w1 ⟨rfl,hbw1⟩
         have HX3:=hid (HX2.out.alloc hbw1)
         have HX93:Hid (w1.heap[wq.heap.size]?=some (.cells #[.string ⟨k.toArray⟩,.slice (some ⟨gP,0,none⟩) nP cP,.slice aoH nH cH] 167 (0,0))):=(hbw1.block _ (lt_of_block N9.out)).trans N9.out
         have HX11:Hid (w1.heap[wi.heap.size]?=some (.cells #[.int .i64 (po:Int),.int .i64 (pc:Int)] 169 (0,0))):=(hbw1.block _ (lt_of_block N11.out)).trans N11.out
         have HX12:Hid (w1.heap[wi.heap.size+1]?=some (.cells #[.int .i64 (dnum:Int),.string ⟨dkey.toArray⟩,.int .i64 (dlen:Int)] 141 (0,0))):=(hbw1.block _ (lt_of_block N12.out)).trans N12.out
         clear CL hbw1 HX2 N9 N11 N12 k0 k1 k2 n0 n1 b0 p0 p1
         obtain ⟨i175,hj1,hq0,hq1,hq2⟩:=info_parts info175
         have HX4:=hid (HX3.out.alloc (W':=w1.drew) ⟨rfl,rfl,rfl,Nat.le_refl _,fun _ _=>rfl⟩)
         obtain ⟨A,hA⟩:∃ A,A=numsP l k++((plsFrom 0 lc k).take q).flatMap (tell1 (liveB E) (docsP lc)):=⟨_,rfl⟩
         have hAl:A.length≤10200:=by
          rw [hA,List.length_append]
          have h1:=numsP_len l k
          have h2:=tells_len (liveB E) (docsP lc) ((plsFrom 0 lc k).take q)
          rw [List.length_take] at h2
          omega
         rw [← hA] at HX4
         have HA:=hid hA
         clear hA
         obtain ⟨F,hF⟩:∃ F,F=upd (fL (liveB E) l lc j) k A:=⟨_,rfl⟩
         have hFk:F k=A:=by rw [hF,upd_same]
         have HFU:Hid (∀ x,upd F k x=upd (fL (liveB E) l lc j) k x):=fun x=>by
          rw [hF];funext k';unfold upd;split <;> rfl
         rw [← hF] at HX4
         obtain ⟨pv,pps,hlk,hpv⟩:=World.ownsMap.lookup (w:=w1.drew) (ownsMap_reader (R':=sliceN) HX4.out.buf.words (fun v y h=>sliceN_of h)) law9 Tryz.underlying83 (Tryz.zeroValue173 _) (zd:=.nil) (zp:=[]) rfl (key9 hkl)
         obtain ⟨hrow,hpc⟩:=word_look (k:=k) HX4.out.buf.rel hpv rfl
         have HPC:=hid hpc
         have hlk2:∀ o,(Instr.lookup 83 (.map (some mm)) (.string ⟨k.toArray⟩) false).run Tryz.prog (w1.alloc o).drew=.ok pv (w1.alloc o).drew:=fun o=>by
          have hA5:=HX4.out.alloc (W':=(w1.alloc o).drew) (by have hq:=(Below.refl w1.heap.size w1).alloc (Nat.le_refl _) o;exact ⟨hq.os,hq.tape,hq.output,hq.size,hq.block⟩)
          obtain ⟨pv2,pps2,hlk2,hpv2⟩:=World.ownsMap.lookup (w:=(w1.alloc o).drew) (ownsMap_reader (R':=sliceN) hA5.buf.words (fun v y h=>sliceN_of h)) law9 Tryz.underlying83 (Tryz.zeroValue173 _) (zd:=.nil) (zp:=[]) rfl (key9 hkl)
          obtain ⟨_,hpc2⟩:=word_look (k:=k) hA5.buf.rel hpv2 rfl
          have:pv2=pv:=by
           rcases hpc with ⟨h1,h2⟩ | ⟨h1,h2⟩ <;> rcases hpc2 with ⟨h3,h4⟩ | ⟨h3,h4⟩
           ·rw [h2,h4]
           ·exact absurd h1 h3
           ·exact absurd h3 h1
           ·rw [h2,h4]
          rw [this] at hlk2
          exact hlk2
         rw [hFk] at hrow
         obtain ⟨_,pcap,pa,hpe,_,_⟩:=ownsRow_shape hrow
         obtain ⟨pn,hpn⟩:∃ n,n=A.length:=⟨_,rfl⟩
         rw [← hpn] at hpe hAl
         subst hpe
         have HRW:Hid (w1.drew.ownsRow 0 175 2 (.slice pa pn pcap) pn (plC A)):=by
          have:=hrow
          unfold WRow at this
          rw [← hpn] at this
          exact this
         have PUT:Hid (∀ gA cA w5 o,(w1.drew.alloc o).grownBy w5 (Value.slice pa pn pcap).ownBlock→w5.ownsRow 0 175 2 (.slice (some ⟨gA,0,none⟩) (pn+1) cA) (pn+1) (plC A++[natV dnum,natV pc])→((Value.slice pa pn pcap).ownBlock=some gA∨gA=w1.heap.size+1)→(∀ (b:Nat) (c:Array Value) (t:TypeId) (fz:Nat × Nat),w1.drew.heap[b]?=some (Obj.cells c t fz)→t≠175→w5.heap[b]?=some (Obj.cells c t fz))∧∃ w6 β' DW',(Instr.mapUpdate 83 (.map (some mm)) (.string ⟨k.toArray⟩) (.slice (some ⟨gA,0,none⟩) (pn+1) cA)).run Tryz.prog w5=.ok () w6∧T2Inv w base bC m mm (.slice (some ⟨g,0,none⟩) i cD) (.slice (some ⟨gL,0,none⟩) nL cL) (docsP (l++wantR (liveB E) lc)) (upd F k (A++[(dnum,pc)])) β' (ni+1) DW' (.slice ao n c) w6∧∀ (b:Nat) (c:Array Value) (t:TypeId) (fz:Nat × Nat),w1.drew.heap[b]?=some (Obj.cells c t fz)→t≠175→w6.heap[b]?=some (Obj.cells c t fz)):=by
          intro gA cA w5 o hg hown hat
          refine HX4.out.put (nl:=A++[(dnum,pc)]) hbw (by simp) (by unfold maxLen;omega) HPC.out hg ?_ ?_ (key9 hkl)
          ·unfold WRow
           rw [plC_app,List.length_append,← hpn]
           exact hown
          ·rcases hat with h | h
           ·exact Or.inl h.symm
           ·exact Or.inr ⟨gA,rfl,by show w1.heap.size≤_;omega⟩
         have s0:=(cell_two_any HX4.out.buf.blk).2
         have HBLK:=hid HX4.out.buf.blk
         have s1:w1.cell? ⟨wq.heap.size,0,none⟩=some (.string ⟨k.toArray⟩):=(cell_three HX93.out).1
         have s2:w1.cell? ⟨wi.heap.size+1,0,none⟩=some (.int .i64 (dnum:Int)):=(cell_three HX12.out).1
         have s3:w1.cell? ⟨wi.heap.size,1,none⟩=some (.int .i64 (pc:Int)):=(cell_two_any HX11.out).2
         have CELLS:Hid (∀ w':World,(∀ (b:Nat) (c:Array Value) (t:TypeId) (fz:Nat × Nat),w1.drew.heap[b]?=some (Obj.cells c t fz)→t≠175→w'.heap[b]?=some (Obj.cells c t fz))→w'.cell? ⟨m,1,none⟩=some (.map (some mm))∧w'.cell? ⟨wq.heap.size,0,none⟩=some (.string ⟨k.toArray⟩)∧w'.cell? ⟨wi.heap.size+1,0,none⟩=some (.int .i64 (dnum:Int))∧w'.cell? ⟨wi.heap.size,1,none⟩=some (.int .i64 (pc:Int))∧w'.heap[wq.heap.size]?=some (.cells #[.string ⟨k.toArray⟩,.slice (some ⟨gP,0,none⟩) nP cP,.slice aoH nH cH] 167 (0,0))):=fun w' h=>⟨(cell_two_any (h _ _ _ _ HBLK.out (by decide))).2,(cell_three (h _ _ _ _ HX93.out (by decide))).1,(cell_three (h _ _ _ _ HX12.out (by decide))).1,(cell_two_any (h _ _ _ _ HX11.out (by decide))).2,h _ _ _ _ HX93.out (by decide)⟩
         have s0':w1.cell? ⟨m,1,none⟩=some (.map (some mm)):=s0
         clear hpv hrow hpc hF hFk hpn HX3 HX4 s0 HX93 HX11 HX12 HBLK
         go_wp2_with (fail)
         go_region_held3 (fun w'=>w'.cell? ⟨m,1,none⟩=some (.map (some mm))∧w'.cell? ⟨wq.heap.size,0,none⟩=some (.string ⟨k.toArray⟩)∧w'.cell? ⟨wi.heap.size+1,0,none⟩=some (.int .i64 (dnum:Int))∧w'.cell? ⟨wi.heap.size,1,none⟩=some (.int .i64 (pc:Int))) (go_keep)
          ((refine step_append_lies _ (by rfl) _ _ _ (by rfl) 0 175 i175 _ 2 16 Tryz.underlying173 hj1 hq0 hq1 hq2 rfl (by omega) (.slice pa pn pcap) pn _ (by rfl) (by exact HRW.out.alloc _)
             ⟨w1.heap.size,0,none⟩ 1 1 [natV dnum,natV pc] (by rfl) (by rfl) (World.news_of_block (cs:=#[natV dnum,natV pc]) (t:=175) (fr:=(0,0)) (heap_alloc_new w1.drew _)) (by simp [Value.oneCell']) (by omega) (by unfold maxLen;omega) (by omega) (by omega) (w1.heap.size+1) (by simp) ?_;intro gA cA w5 hownA hgA hatA hltA;obtain ⟨K5,w6,β6,D6,hrun6,hI6,K6⟩:=PUT.out gA cA w5 _ hgA hownA hatA;obtain ⟨x0,x1,x2,x3,_⟩:=CELLS.out w5 K5;obtain ⟨y0,y1,y2,y3,y4⟩:=CELLS.out w6 K6;have HI6:=hid hI6;have HY4:=hid y4;clear hI6 y4))
         all_goals
          have HF6:Hid (T2Inv w base bC m mm (.slice (some ⟨g,0,none⟩) i cD) (.slice (some ⟨gL,0,none⟩) nL cL) (docsP (l++wantR (liveB E) lc)) (upd (fL (liveB E) l lc j) k (numsP l k++((plsFrom 0 lc k).take (q+1)).flatMap (tell1 (liveB E) (docsP lc)))) β6 (ni+1) D6 (.slice ao n c) w6):=by
           have h1:=HI6.out
           rw [HFU.out,HA.out,List.append_assoc] at h1
           show T2Inv _ _ _ _ _ _ _ _ _ _ _ _ _ _
           rw [HTK.out]
           exact h1
          clear HI6 PUT CELLS hlk hlk2 hrun6 HRW HFU HPC HTK hownA hgA hatA hltA K5 K6 x0 x1 x2 x3 y0 y1 y2 y3 s0' s1 s2 s3
          go_wp2_with (fail)
          go_roundw
          case rel=>exact ⟨q+1,β6,ni+1,D6,by go_num,by omega,by omega,HF6,HY4⟩
          case measure=>simp [intOf];omega
      ·obtain rfl:q=nP:=by omega
       have HX2:Hid (T2Inv w base bC m mm (.slice aoD i cD) (.slice (some ⟨gL,0,none⟩) nL cL) (docsP (l++wantR (liveB E) lc)) (fL (liveB E) l lc (j+1)) βi ni Di (.slice ao n c) wi):=by
        have:=HX.out
        rw [List.take_of_length_le (by rw [← HNP.out];exact Nat.le_refl _),fL_succ (liveB E) l lc HKW.out] at this
        exact this
       clear HX HX9
       go_wp2_with (fail)
       go_roundw
       case rel=>exact ⟨j+1,βi,ni,Di,by go_num,by omega,by omega,HX2⟩
       case measure=>simp [intOf];omega
    ·obtain rfl:j=nL:=by omega
     have HQ2:Hid (T2Inv w base bC m mm (.slice aoD i cD) (.slice aoL j cL) (docsP (l++wantR (liveB E) lc)) (numsP (l++wantR (liveB E) lc)) βq nq Dq (.slice ao n c) wq):=by
      have:=HQ.out
      rw [fL_all (liveB E) l lc (by rw [← HNW.out];exact Nat.le_refl _)] at this
      exact this
     clear HQ hlj
     go_wp2_with (fail)
     go_end0
     have hbb:=HT.out.bb
     exact ⟨rfl,⟨_,_,_,_,HQ2.out.buf,by omega,fun b hb=>by rcases HQ2.out.z b hb with h' | h';exact h'.1;omega⟩,HQ2.out.t⟩
end Go.Proofs.YtaacjjhmojecnaaGreatDoor
