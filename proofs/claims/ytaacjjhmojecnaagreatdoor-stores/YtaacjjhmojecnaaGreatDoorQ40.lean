import Derived.Test.YtaacjjhmojecnaaGreatDoorQ39
import Derived.Test.YtaacjjhmojecnaaGreatDoorQ25
import Derived.Test.YtaacjjhmojecnaaGreatDoorQ30
import Derived.Test.YtaacjjhmojecnaaGreatDoorXE
import Derived.Test.YtaacjjhmojecnaaGreatDoorQ23
namespace Go.Proofs.YtaacjjhmojecnaaGreatDoor
open Go.RowKit Go.ScT Go.Proofs Go.Shelf
theorem BufX.setC0 {w:World} {e mw:Nat} {c0 c1 c4 dv:Value} {ds:List DocP} {β:BT} {f:Bs→Pls} {nW:Nat} {DW:DataW Unit} (h:BufX w e mw c0 c1 c4 dv ds β f nW DW) (x:Value):BufX (w.setCell ⟨e,0,none⟩ x) e mw x c1 c4 dv ds β f nW DW:=by
 have T2:Turned (fun b=>b=e) w (w.setCell ⟨e,0,none⟩ x):=Turned.ofSet w _ _ rfl
 exact ⟨heap_setCell_same w e 0 _ 87 x h.eng,rowX_turned h.docs T2 (fun g hg=>(h.dT g hg).2.1),ownsMap_turned h.words T2 (fun he=>h.em he.symm),h.rel.turned T2 (fun g hg (he:g=e)=>h.eT (he ▸ hg)),h.eT,h.wT,h.dT,h.em⟩
theorem BufX.drew {w:World} {e mw:Nat} {c0 c1 c4 dv:Value} {ds:List DocP} {β:BT} {f:Bs→Pls} {nW:Nat} {DW:DataW Unit} (h:BufX w e mw c0 c1 c4 dv ds β f nW DW):BufX w.drew e mw c0 c1 c4 dv ds β f nW DW :=
 h.turned (Z:=fun _=>False) (Turned.drew w) (fun _ _ h=>h)
theorem EngX.notL {w:World} {Z:Nat→Prop} {e:Nat} {E:List EDoc} {ss:List Bs} {ml mw:Nat} {sv dv:Value} {β:BT} {nW:Nat} {DL DW:DataW Unit} (h:EngX w Z e E ss ml mw sv dv β nW DL DW):¬ ZX e mw dv β (fun k=>wplaces k 0 E) ml:=by
 rintro (hb | hb | hb | hb)
 ·exact h.le hb
 ·exact h.lw hb
 ·exact h.lD _ hb rfl
 ·exact h.lT hb
theorem putX_mid {w w1:World} {Z:Nat→Prop} {e:Nat} {E:List EDoc} {ss:List Bs} {ml mw:Nat} {sv dv:Value} {β:BT} {nW:Nat} {DL DW:DataW Unit} (h:EngX w Z e E ss ml mw sv dv β nW DL DW) (hb:Below w.heap.size w w1) (hl:E.length < 100) (key:Bs) (hk:key.length≤maxLen) :
 ∃ w2,(Instr.mapUpdate 81 (.map (some ml)) (.string ⟨key.toArray⟩) (.int .i64 ((E.length:Int)+1))).run Tryz.prog (w1.setCell ⟨e,0,none⟩ (.int .i64 ((E.length:Int)+1))).drew=.ok () w2 ∧
   BufX w2.drew e mw (.int .i64 ((E.length:Int)+1)) (.map (some ml)) sv dv (wdocs 0 E) β (fun k=>wplaces k 0 E) nW DW∧w2.ownsMap Tryz.prog 9 (plainElem Tryz.prog 3) ml (E.length+1) (DL.put (.string key) (.lit (.int .i64 ((E.length:Int)+1))))∧Turned (fun b=>b=e∨b=ml) w w2.drew:=by
 have h1:=h.turned (Turned.ofBelow (Z:=fun _=>False) hb) (fun _ _ h=>h)
 have hB:=h1.buf.setC0 (.int .i64 ((E.length:Int)+1))
 have T2:Turned (fun b=>b=e) w1 (w1.setCell ⟨e,0,none⟩ (.int .i64 ((E.length:Int)+1))):=Turned.ofSet w1 _ _ rfl
 have hL:=ownsMap_turned h1.live T2 (fun he=>h.le he)
 have hL':(w1.setCell ⟨e,0,none⟩ (.int .i64 ((E.length:Int)+1))).drew.ownsMap Tryz.prog 9 (plainElem Tryz.prog 3) ml E.length DL:=hL
 have hwf:(Lit.int .i64 ((E.length:Int)+1)).wf=true:=by
  have h1:IntKind.i64.min=-9223372036854775808:=by decide
  have h2:IntKind.i64.max=9223372036854775807:=by decide
  simp [Lit.wf,h1,h2]
  omega
 obtain ⟨w2,hrun,own2,hg2⟩:=hL'.update law9 Tryz.underlying81 (by unfold maxLen;omega) (key9 hk) (plainElem_int Tryz.underlying3 hwf)
 have t2:Turned (fun b=>b=ml) (w1.setCell ⟨e,0,none⟩ (.int .i64 ((E.length:Int)+1))).drew w2:=Turned.ofGrown hg2 (fun k hk _=>by cases hk;rfl)
 refine ⟨w2,hrun,?_,own2,?_⟩
 ·exact (hB.drew.turned t2 (fun b hb he=>h.notL (he ▸ hb))).drew
 ·exact ((((Turned.ofBelow hb).trans (T2.mono (fun b _ hb=>Or.inl hb))).trans (Turned.drew _)).trans (t2.mono (fun b _ hb=>Or.inr hb))).trans (Turned.drew _)
theorem keysE_snoc (E:List EDoc) (d:EDoc):keysE (E++[d])=keysE E++[(d.key,d.live)]:=by simp [keysE]
theorem findK_snoc {ds:Docs} {key key':Bs} {j:Nat} (hn:findK ds key=none) (h:findK (ds++[(key,true)]) key'=some j):(key'=key∧j=ds.length)∨(key'≠key∧findK ds key'=some j):=by
 obtain ⟨d,h1,h2,h3⟩:=findK_at _ _ _ h
 rw [List.getElem?_append] at h1
 have hst:∀ {ds:Docs} {k:Bs} {j:Nat} {t:Docs},findK ds k=some j→findK (ds++t) k=some j:=by
  intro ds
  induction ds with
  | nil=>intro k j t h;simp [findK] at h
  | cons a r ih =>
    intro k j t h
    simp only [List.cons_append,findK] at h ⊢
    split at h
    ·rename_i hh;rw [if_pos hh];exact h
    ·rename_i hh
     rw [if_neg hh]
     cases hr:findK r k with
     | none=>rw [hr] at h;simp at h
     | some j'=>rw [ih hr];rw [hr] at h;exact h
 by_cases e:key'=key
 ·left
  subst e
  refine ⟨rfl,?_⟩
  split at h1
  ·exfalso
   have:=(findK_iff ds key').2 ⟨j,d,h1,h2,h3⟩
   rw [hn] at this
   cases this
  ·rename_i hge
   have:=(List.getElem?_eq_some_iff.1 h1).1
   simp at this
   omega
 ·right
  refine ⟨e,?_⟩
  split at h1
  ·have h6:=(findK_iff ds key').2 ⟨j,d,h1,h2,h3⟩
   obtain ⟨j',hj'⟩:=Option.isSome_iff_exists.1 h6
   have:=(hst (t:=[(key,true)]) hj').symm.trans h
   rw [hj'];exact this
  ·rename_i hge
   exfalso
   have hlt:=(List.getElem?_eq_some_iff.1 h1).1
   simp at hlt
   have h0:j - ds.length=0:=by omega
   rw [h0] at h1
   simp at h1
   subst h1
   exact e h3.symm
theorem putX_done {w w2 w3:World} {Z:Nat→Prop} {e:Nat} {E:List EDoc} {ss:List Bs} {ml mw:Nat} {sv dv dv':Value} {β β':BT} {nW:Nat} {DL DW DW':DataW Unit} {ws:List Bs} (h:EngX w Z e E ss ml mw sv dv β nW DL DW) (key:Bs) (hn:findK (keysE E) key=none) (hk40:ws.length≤40)
 (own2:w2.ownsMap Tryz.prog 9 (plainElem Tryz.prog 3) ml (E.length+1) (DL.put (.string key) (.lit (.int .i64 ((E.length:Int)+1))))) (t2:Turned (fun b=>b=e∨b=ml) w w2) (hB3:BufX w3 e mw (.int .i64 ((E.length:Int)+1)) (.map (some ml)) sv dv' (wdocs 0 E++[(E.length+1,key,ws.length)]) β' (addF (fun k=>wplaces k 0 E) (E.length+1) ws) (nW+ws.length) DW')
 (hd:∀ g,dv'.ownBlock=some g→dv.ownBlock=some g∨w2.heap.size≤g) (hF:∀ b,InW β' (addF (fun k=>wplaces k 0 E) (E.length+1) ws) b→InW β (fun k=>wplaces k 0 E) b∨w2.heap.size≤b) (t3:Turned (ZX e mw dv β (fun k=>wplaces k 0 E)) w2 w3) :
 EngXOk w3 (grow Z w w3) e (E++[⟨key,ws,true,true⟩]) ss∧Turned Z w w3:=by
 have hs:=t2.size
 have hlen:(E++[(⟨key,ws,true,true⟩:EDoc)]).length=E.length+1:=by simp
 have hml:=h.live.lt
 rw [addF_wplaces E key ws] at hB3 hF
 have hwd:wdocs 0 E++[(E.length+1,key,ws.length)]=wdocs 0 (E++[⟨key,ws,true,true⟩]):=by rw [wdocs_snoc];simp
 rw [hwd] at hB3
 have hZ:∀ b,ZX e mw dv' β' (fun k=>wplaces k 0 (E++[⟨key,ws,true,true⟩])) b→ZX e mw dv β (fun k=>wplaces k 0 E) b∨(w2.heap.size≤b∧b < w3.heap.size):=by
  rintro b (hb | hb | hb | hb)
  ·exact Or.inl (Or.inl hb)
  ·exact Or.inl (Or.inr (Or.inl hb))
  ·rcases hd b hb with h' | h'
   ·exact Or.inl (Or.inr (Or.inr (Or.inl h')))
   ·exact Or.inr ⟨h',(hB3.docs.lt b hb).2⟩
  ·rcases hF b hb with h' | h'
   ·exact Or.inl (Or.inr (Or.inr (Or.inr h')))
   ·exact Or.inr ⟨h',hB3.rel.lt hb⟩
 have hmlN:¬ ZX e mw dv' β' (fun k=>wplaces k 0 (E++[⟨key,ws,true,true⟩])) ml:=fun hz=>by
  rcases hZ ml hz with h' | h'
  ·exact h.notL h'
  ·omega
 have hsv:w3.ownsRow 0 9 1 sv ss.length (ss.map strV):=rowX_turned (rowX_turned h.segs t2 (fun g hg hz=>by
  rcases hz with hz | hz
  ·exact (h.sN g hg).2 (Or.inl hz)
  ·exact (h.sN g hg).1 hz)) t3 (fun g hg hz=>(h.sN g hg).2 hz)
 refine ⟨⟨ml,mw,sv,dv',β',nW+ws.length,DL.put (.string key) (.lit (.int .i64 ((E.length:Int)+1))),DW',⟨?_,?_,?_,fun key' j hj zd=>?_,hsv,?_,h.le,h.lw,fun hT=>hmlN (Or.inr (Or.inr (Or.inr hT))),fun g hg he=>hmlN (Or.inr (Or.inr (Or.inl (he ▸ hg)))),fun g hg=>⟨(h.sN g hg).1,fun hz=>?_⟩,Or.inl h.zl,fun b hb=>?_,fun g hg=>Or.inl (h.zS g hg)⟩⟩,?_⟩
 ·rw [hlen]
  simpa using hB3
 ·rw [hlen]
  exact ownsMap_turned own2 t3 h.notL
 ·rw [keysE_snoc]
  exact h.rel.push (h.live.tidy law9) key hn _ (isKeyLit key)
 ·rw [keysE_snoc] at hj
  rcases findK_snoc hn hj with ⟨rfl,rfl⟩ | ⟨h1,h2⟩
  ·rw [Maps.atKey_put_same (h.live.tidy law9).isMap (isKeyLit _)]
   simp [keysE]
  ·rw [Maps.atKey_put_other (strLit_ne h1)]
   exact h.num key' j h2 zd
 ·rw [hlen]
  have:=h.nW
  omega
 ·rcases hZ g hz with h' | h'
  ·exact (h.sN g hg).2 h'
  ·have:=(h.segs.lt g hg).2
   omega
 ·rcases hZ b hb with h' | h'
  ·exact Or.inl (h.zX b h')
  ·exact Or.inr ⟨by omega,h'.2⟩
 ·refine (t2.mono (fun b _ hb=>?_)).trans (t3.mono (fun b _ hb=>h.zX b hb))
  rcases hb with rfl | rfl
  ·exact h.zX _ (Or.inl rfl)
  ·exact h.zl
set_option maxHeartbeats 2000000 in
set_option maxRecDepth 1000000 in
theorem putX_any {w:World} {Z:Nat→Prop} {e:Nat} {E:List EDoc} {ss:List Bs} (h:EngXOk w Z e E ss) (hl:E.length < 100) (ht:∀ d∈E,d.toks.length≤40) {key:Bs} (hk:key.length≤1000) (hn:findK (keysE E) key=none) {base:Nat} {v:Value} {ws:List Bs} (hw:w.ownsRow base 9 1 v ws.length (ws.map strV)) (hl40:ws.length≤40) (hlen:∀ x∈ws,x.length≤maxLen)
 (hv:∀ g,v.ownBlock=some g→¬ Z g) :
 Calls Tryz.prog 55 #[.pointer (some ⟨e,0,none⟩),.string ⟨key.toArray⟩,v] w fun en w'=>en=.returned (.tuple #[])∧EngXOk w' (grow Z w w') e (E++[⟨key,ws,true,true⟩]) ss∧Turned Z w w':=by
 obtain ⟨ml,mw,sv,dv,β,nW,DL,DW,h⟩:=h
 obtain ⟨gv,capv,aov,rfl,_,_⟩:=ownsRow_shape hw
 have hkm:key.length≤maxLen:=by unfold maxLen;omega
 have CC:=hid (clone_any ⟨key.toArray⟩ w (by show key.toArray.size≤_;simp;omega))
 have H:=hid h
 have HW:=hid hw
 have hnW:=h.nW
 have HWL:=hid (Nat.le_trans (wdocs_len E 0) (show E.length≤1000 by omega))
 have HBL:Hid (BndF (fun k=>wplaces k 0 E) 5000):=fun k=>⟨Nat.le_trans (wplaces_bnd ht k 0).1 (by omega),fun p hp=>Nat.le_trans ((wplaces_bnd ht k 0).2 p hp) (by omega)⟩
 clear h hw
 obtain ⟨N,hN⟩:∃ N,E.length=N:=⟨_,rfl⟩
 rw [hN] at hl hnW
 go_enter Tryz.func55,Tryz.ntmps55
 go_wp2_with (first
  | (go_at_call 98;refine CC.out.mono ?_;rintro en w1 ⟨rfl,hb1⟩;have hE1:=H.out.turned (Turned.ofBelow (Z:=fun _=>False) hb1) (fun _ _ h=>h);have q0:=(cell_five hE1.buf.eng).1;have q1:=(cell_five hE1.buf.eng).2.1;have f0:=frozen_five hE1.buf.eng 0;rw [hN] at q0;clear hE1))
 obtain ⟨w2,hrun2,hB2,own2,t2⟩:=putX_mid H.out hb1 (by omega) key hkm
 rw [hN] at hrun2
 have C91:=hid (addX_any hB2 HWL.out HBL.out (by omega) (E.length+1) ws.length key (base:=base) (ws:=ws) (v:=.slice aov ws.length capv) (rowX_turned HW.out t2 (fun g hg hz=>by
  rcases hz with hz | hz
  ·exact hv g hg (H.out.zX g (Or.inl hz))
  ·exact hv g hg (hz ▸ H.out.zl))) hl40 hlen (fun g hg hz=>hv g hg (H.out.zX g hz)))
 have E2:w2.heap[e]?=some (.cells #[.int .i64 ((E.length:Int)+1),.map (some ml),dv,.map (some mw),sv] 87 (0,0)):=hB2.eng
 rw [hN] at E2
 have r0:=(cell_five E2).1
 have O2:=hid own2
 have T2:=hid t2
 have HN:=hid hN
 clear hB2 own2 t2 E2 CC HW hv hlen
 have C92:Hid (Calls Tryz.prog 99 #[.pointer (some ⟨e,2,none⟩),.agg #[.int .i64 ((N:Int)+1),.string ⟨key.toArray⟩,.int .i64 (ws.length:Int)],.slice aov ws.length capv] w2.drew fun en w'=>en=.returned (.tuple #[])∧(∃ dv' β' DW',BufX w' e mw (.int .i64 ((E.length:Int)+1)) (.map (some ml)) sv dv' (wdocs 0 E++[(E.length+1,key,ws.length)]) β' (addF (fun k=>wplaces k 0 E) (E.length+1) ws) (nW+ws.length) DW'∧(∀ g,dv'.ownBlock=some g→dv.ownBlock=some g∨w2.drew.heap.size≤g)∧(∀ b,InW β' (addF (fun k=>wplaces k 0 E) (E.length+1) ws) b→InW β (fun k=>wplaces k 0 E) b∨w2.drew.heap.size≤b))∧Turned (ZX e mw dv β (fun k=>wplaces k 0 E)) w2.drew w'):=by
  have:=C91.out
  rw [show natV (E.length+1)=.int .i64 ((N:Int)+1) by rw [hN];rfl] at this
  exact this
 clear C91
 go_cut [] from 15 to 23 (fun wx=>wx=w2)
 case first =>
  go_region
  all_goals (go_wp2_with fail;go_meet;rfl)
 case rest =>
  subst hcut
  go_wp2_with fail
  go_region_with (go_at_call 99;refine C92.out.mono ?_;rintro en w3 ⟨rfl,⟨dv3,β3,DW3,hB3,hd3,hF3⟩,ht3⟩)
  all_goals
   go_wp2
   go_end0
   have FIN:=putX_done (w2:=wc.drew) H.out key hn hl40 O2.out T2.out hB3 hd3 hF3 ht3
   exact ⟨rfl,FIN.1,FIN.2⟩
structure BSee (w:World) (b o mw:Nat) (dv:Value) (l:List DocR) (β:BT) (nW:Nat) (DW:DataW Unit):Prop where
 c0:w.cell? ⟨b,o,none⟩=some dv
 c1:w.cell? ⟨b,o+1,none⟩=some (.map (some mw))
 docs:DRow w 0 dv (docsP l)
 words:w.ownsMap Tryz.prog 9 sliceE mw nW DW
 rel:WordsRel w DW β (numsP l)
 lt:b < w.heap.size
theorem BSee.below {w w':World} {b o mw:Nat} {dv:Value} {l:List DocR} {β:BT} {nW:Nat} {DW:DataW Unit} (h:BSee w b o mw dv l β nW DW) (hb:Below w.heap.size w w'):BSee w' b o mw dv l β nW DW :=
 ⟨(hb.cell (p:=⟨b,o,none⟩) h.lt).trans h.c0,(hb.cell (p:=⟨b,o+1,none⟩) h.lt).trans h.c1,ownsRow_turned h.docs (Turned.ofBelow (Z:=fun _=>False) hb) (fun _ _ h=>h),ownsMap_turned h.words (Turned.ofBelow (Z:=fun _=>False) hb) (fun h=>h),h.rel.turned (Turned.ofBelow (Z:=fun _=>False) hb) (fun _ _ h=>h),Nat.lt_of_lt_of_le h.lt hb.size⟩
structure Rise (l:List DocR):Prop where
 most:l.length≤100
 len:∀ d∈l,d.2.2.length≤40
 num:∀ d∈l,d.2.1≤100
 rise:l.Pairwise fun a b=>a.2.1 < b.2.1
theorem docsP_rise {l:List DocR} (h:Rise l):(docsP l).Pairwise fun a b=>a.1 < b.1:=by
 unfold docsP
 rw [List.pairwise_map]
 exact h.rise
theorem docsP_len (l:List DocR):(docsP l).length=l.length:=by simp [docsP]
theorem plsFrom_bnd {l:List DocR} (h:Rise l) (k:Bs):∀ p∈plsFrom 0 l k,p.1 < l.length∧p.2≤40:=by
 have key:∀ (r:List DocR) (i:Nat),(∀ d∈r,d.2.2.length≤40)→∀ p∈plsFrom i r k,p.1 < i+r.length∧p.2≤40:=by
  intro r
  induction r with
  | nil=>intro i _ p hp;simp [plsFrom] at hp
  | cons d r ih =>
    intro i hr p hp
    have ih':=ih (i+1) (fun d hd=>hr d (List.mem_cons_of_mem _ hd))
    unfold plsFrom at hp
    split at hp
    ·rcases List.mem_cons.1 hp with rfl | hp
     ·have:=hr d (by simp)
      have:=List.count_le_length (a:=k) (l:=d.2.2)
      simp;omega
     ·have:=ih' p hp;simp;omega
    ·have:=ih' p hp;simp;omega
 intro p hp
 have:=key l 0 h.len p hp
 omega
theorem numsP_bnd {l:List DocR} (h:Rise l) (k:Bs):∀ p∈numsP l k,p.1≤100∧p.2≤40:=by
 intro p hp
 obtain ⟨d,hd,rfl,_⟩:=numsP_mem hp
 have h1:=h.len d hd
 have h2:=List.count_le_length (a:=k) (l:=d.2.2)
 exact ⟨h.num d hd,by simp;omega⟩
theorem ordP_le (l:List DocP) (n:Nat):ordP l n≤l.length:=List.countP_le_length
set_option maxHeartbeats 4000000 in
set_option maxRecDepth 1000000 in
theorem list_any {w:World} {b o mw:Nat} {dv:Value} {l:List DocR} {β:BT} {nW:Nat} {DW:DataW Unit} (hB:BSee w b o mw dv l β nW DW) (hr:Rise l) {k:Bs} (hk:numsP l k≠[]) (hkl:k.length≤maxLen) :
 Calls Tryz.prog 70 #[.pointer (some ⟨b,o,none⟩),.string ⟨k.toArray⟩] w fun e w'=>∃ vP vH,e=.returned (.agg #[lstV k,vP,vH])∧PRow w' w.heap.size vP (plsFrom 0 l k)∧HRow w' w.heap.size vH (hdsOf (lensOf (docsP l)) (plsFrom 0 l k))∧Below w.heap.size w w':=by
 obtain ⟨i169,hi1,ha0,ha1,ha2⟩:=info_parts info169
 have C:=hid (fun W (hW:Below w.heap.size w W) (num:Nat)=>ordinal_any (num:=num) (hB.below hW).c0 (hB.below hW).docs (by rw [docsP_len];have:=hr.most;omega) (docsP_rise hr))
 have hbA:Below w.heap.size w (w.alloc (.cells #[.string ⟨#[]⟩,.slice none 0 0,.slice none 0 0] 167)):=(Below.refl _ w).alloc (Nat.le_refl _) _
 have hB1:=hB.below hbA
 obtain ⟨pv,pps,hlk,hpv⟩:=World.ownsMap.lookup (w:=w.alloc (.cells #[.string ⟨#[]⟩,.slice none 0 0,.slice none 0 0] 167)) (ownsMap_reader (R':=sliceN) hB1.words (fun v y h=>sliceN_of h)) law9 Tryz.underlying83 (Tryz.zeroValue173 _) (zd:=.nil) (zp:=[]) rfl (key9 hkl)
 obtain ⟨hrow,hpc⟩:=word_look (k:=k) hB.rel hpv rfl
 obtain ⟨gW,cW,aoW,rfl,_,haoW⟩:=ownsRow_shape hrow
 obtain ⟨N,hN⟩:∃ N,N=(numsP l k).length:=⟨_,rfl⟩
 have hNp:0 < N:=by rw [hN];exact List.length_pos_iff.2 hk
 obtain rfl:=haoW (by omega)
 have hNl:N≤100:=by have:=numsP_len l k;have:=hr.most;omega
 rw [← hN] at hlk
 have hW0:w.ownsRow 0 175 2 (.slice (some ⟨gW,0,none⟩) N cW) N (plC (numsP l k)):=by
  have:=hrow;unfold WRow at this;rw [← hN] at this;exact this
 have HW:=hid hW0
 have HN:=hid hN
 have hgl:gW < w.heap.size:=by
  rcases hpc with ⟨h1,_⟩ | ⟨h1,h2⟩
  ·exact absurd h1 hk
  ·have h3:gW=(β k).1:=by unfold rowV at h2;cases h2;rfl
   rw [h3];exact hB.rel.lt ⟨k,h1,rfl⟩
 have HCELL:Hid (∀ i,i < N→∃ p,(numsP l k)[i]?=some p∧p.1≤100∧p.2≤40∧∀ W,Below w.heap.size w W→W.cell? ⟨gW,i * 2,none⟩=some (.int .i64 (p.1:Int))∧W.cell? ⟨gW,i * 2+1,none⟩=some (.int .i64 (p.2:Int))):=by
  intro i hi
  obtain ⟨p,hp⟩:∃ p,(numsP l k)[i]?=some p:=⟨_,List.getElem?_eq_getElem (by rw [← hN];exact hi)⟩
  have hc:=plC_get hp
  have hb:=numsP_bnd hr k p (List.mem_of_getElem? hp)
  refine ⟨p,hp,hb.1,hb.2,fun W hW=>⟨?_,?_⟩⟩
  ·rw [(hW.cell (p:=⟨gW,i * 2,none⟩) hgl),hW0.cellAt (i * 2) (by omega)];exact hc.1
  ·rw [(hW.cell (p:=⟨gW,i * 2+1,none⟩) hgl),hW0.cellAt (i * 2+1) (by omega)];exact hc.2
 have HB:=hid hB
 have HR:=hid hr
 have c1:=hB1.c1
 have HR0:=hid (heap_alloc_new w (.cells #[.string ⟨#[]⟩,.slice none 0 0,.slice none 0 0] 167))
 have HL:Hid (plsFrom 0 l k=(numsP l k).map (fun p=>(ordP (docsP l) p.1,p.2))):=(plsFrom_all hr.rise k).symm
 have HDN:=hid (docsP_len l)
 have hml:=hr.most
 clear hB hB1 hr hpv hrow hpc hk haoW hW0 hN
 have HBA:=hid hbA
 clear hbA
 go_enter Tryz.func70,Tryz.ntmps70
 go_wp2_with (fail)
 go_loopw [5,15] (fun s5 s15 wr=>∃ (i:Nat) (ao:Option Addr) (c:Nat),s5=.slice ao i c∧s15=.int .i64 (i:Int)∧i≤N∧Hid (wr.ownsRow w.heap.size 169 2 (.slice ao i c) i (plC (((numsP l k).take i).map (fun p=>(ordP (docsP l) p.1,p.2)))))∧Below w.heap.size w wr∧Hid (wr.heap[w.heap.size]?=some (.cells #[.string ⟨#[]⟩,.slice none 0 0,.slice none 0 0] 167 (0,0)))) (fun _ s15 _=>N - (intOf s15).toNat)
 case atStart=>exact ⟨0,none,0,rfl,rfl,by omega,World.ownsRow_nil _ _ _ _,HBA.out,HR0⟩
 case round =>
  obtain ⟨i,ao,c,rfl,rfl,hi,HP,hbw,HRr⟩:=hrel
  have hsz:=hbw.size
  have hwr:w.heap.size < wr.heap.size:=lt_of_block HRr.out
  by_cases hlt:i < N
  ·obtain ⟨p,hp,hp1,hp2,hpc⟩:=HCELL.out i hlt
   have HPP:=hid hp
   obtain ⟨ha,hb⟩:=hpc wr hbw
   clear hpc hp
   go_wp2_with (fail)
   have hb1:Below w.heap.size w (wr.alloc (.cells #[.int .i64 (p.1:Int),.int .i64 (p.2:Int)] 175)):=hbw.alloc (by omega) _
   obtain ⟨n0,n1⟩:=cell_two_any (heap_alloc_new wr (.cells #[.int .i64 (p.1:Int),.int .i64 (p.2:Int)] 175))
   have HP1:Hid ((wr.alloc (.cells #[.int .i64 (p.1:Int),.int .i64 (p.2:Int)] 175)).ownsRow w.heap.size 169 2 (.slice ao i c) i (plC (((numsP l k).take i).map (fun p=>(ordP (docsP l) p.1,p.2))))):=HP.out.alloc _
   have HR1:Hid ((wr.alloc (.cells #[.int .i64 (p.1:Int),.int .i64 (p.2:Int)] 175)).heap[w.heap.size]?=some (.cells #[.string ⟨#[]⟩,.slice none 0 0,.slice none 0 0] 167 (0,0))):=(Below.heap_alloc _ _ _ hwr).trans HRr.out
   have hlt1:wr.heap.size < (wr.alloc (.cells #[.int .i64 (p.1:Int),.int .i64 (p.2:Int)] 175)).heap.size:=by simp
   generalize wr.alloc (.cells #[.int .i64 (p.1:Int),.int .i64 (p.2:Int)] 175)=W1 at *
   have C1:Hid (Calls Tryz.prog 127 #[.pointer (some ⟨b,o,none⟩),.int .i64 (p.1:Int)] W1.drew fun e w'=>e=.returned (.int .i64 (ordP (docsP l) p.1:Int))∧Below W1.heap.size W1 w'):=(C.out W1.drew ⟨hb1.os,hb1.tape,hb1.output,hb1.size,hb1.block⟩ p.1).mono fun e w' ⟨h1,h2⟩=>⟨h1,⟨h2.os,h2.tape,h2.output,h2.size,h2.block⟩⟩
   have hol:ordP (docsP l) p.1≤100:=by have:=ordP_le (docsP l) p.1;have:=HDN.out;omega
   have HTK:Hid (((numsP l k).take (i+1)).map (fun p=>(ordP (docsP l) p.1,p.2))=((numsP l k).take i).map (fun p=>(ordP (docsP l) p.1,p.2))++[(ordP (docsP l) p.1,p.2)]):=by
    show _=_
    rw [List.take_add_one,HPP.out]
    simp
   generalize ordP (docsP l) p.1=z at *
   have hneA:(Value.slice ao i c).ownBlock≠some wr.heap.size:=fun e=>by have:=(HP.out.lt _ e).2;omega
   clear ha hb HP HRr hwr hbw hsz HCELL
   have hs1:=hb1.size
   go_region_held3 (fun w'=>w'.cell? ⟨wr.heap.size,0,none⟩=some (.int .i64 (p.1:Int))∧w'.cell? ⟨wr.heap.size,1,none⟩=some (.int .i64 (p.2:Int))) (go_keep)
    (first
      | (go_at_call 127;refine C1.out.mono ?_;rintro e w4 ⟨rfl,hB4⟩;have j0:=below_c hB4 hlt1 n0;have j1:=below_c hB4 hlt1 n1;have HP4:=hid (ownsRow_turned HP1.out (Turned.ofBelow (Z:=fun _=>False) hB4) (fun _ _ h=>h));have hs4:=hB4.size)
      | (refine step_append_lies _ (by rfl) _ _ _ (by rfl) w.heap.size 169 i169 _ 2 16 Tryz.underlying164 hi1 ha0 ha1 ha2 rfl (by omega) (.slice ao i c) i _ (by rfl) (by exact HP4.out.alloc _)
          ⟨w4.heap.size,0,none⟩ 1 1 [natV z,natV p.2] (by rfl) (by rfl) (World.news_of_block (cs:=#[natV z,natV p.2]) (t:=169) (fr:=(0,0)) (heap_alloc_new w4 _)) (by simp [Value.oneCell']) (by omega) (by unfold maxLen;omega) (by omega) (by simp;omega) (w4.heap.size+1) (by simp) ?_;intro gA cA w5 hownA hgA hatA hltA;have j0':=((hgA.cell_far ⟨wr.heap.size,0,none⟩ (by simp;omega) (Ne.symm hneA)).trans (World.cell?_of_block (Below.heap_alloc _ _ _ (show wr.heap.size < w4.heap.size by omega)))).trans j0;have j1':=((hgA.cell_far ⟨wr.heap.size,1,none⟩ (by simp;omega) (Ne.symm hneA)).trans (World.cell?_of_block (Below.heap_alloc _ _ _ (show wr.heap.size < w4.heap.size by omega)))).trans j1))
   have hT5:Turned (fun b=>(Value.slice ao i c).ownBlock=some b) W1 w5:=(Turned.ofBelow hB4).trans ((Turned.ofAlloc w4 _).trans (Turned.ofGrown hgA (fun j hj _=>hj)))
   have HB5:Hid (Below w.heap.size w w5):=below_turned hb1 hT5 hs1 (fun j hj e=>by have:=(HP1.out.lt j e).1;omega)
   have HR5:Hid (w5.heap[w.heap.size]?=some (.cells #[.string ⟨#[]⟩,.slice none 0 0,.slice none 0 0] 167 (0,0))):=(hT5.block _ (lt_of_block HR1.out) (fun e=>by
    obtain ⟨cu,bq⟩:=ownsRow_block HP1.out e
    exact tag_ne HR1.out bq (by decide) rfl)).trans HR1.out
   have HO5:Hid (w5.ownsRow w.heap.size 169 2 (.slice (some ⟨gA,0,none⟩) (i+1) cA) (i+1) (plC (((numsP l k).take (i+1)).map (fun p=>(ordP (docsP l) p.1,p.2))))):=by
    show World.ownsRow _ _ _ _ _ _ _
    rw [HTK.out,plC_app]
    exact hownA
   clear hgA hatA hltA hownA hB4 hT5 HP4 j0 j1 j0' j1' hs4 hb1 HP1 HR1 C1 HTK n0 n1
   go_wp2_with (fail)
   go_roundw
   case rel=>exact ⟨i+1,some ⟨gA,0,none⟩,cA,rfl,by go_num,by omega,HO5,HB5.out,HR5⟩
   case measure=>simp [intOf];omega
  ·obtain rfl:i=N:=by omega
   clear hlt hi
   have HQ:Hid (wr.ownsRow w.heap.size 169 2 (.slice ao i c) i (plC (plsFrom 0 l k))):=by
    have:=HP.out
    rw [List.take_of_length_le (by rw [← HN.out];exact Nat.le_refl _),← HL.out] at this
    exact this
   have HNL:Hid (i=(plsFrom 0 l k).length):=by show _=_;rw [HL.out,List.length_map];exact HN.out
   obtain ⟨gP,cP,hPe,_,_⟩:=HQ.out.form hNp
   cases hPe
   obtain ⟨gD,cD,aoD,hDe,_,haoD⟩:=ownsRow_shape HB.out.docs
   have hDl:0 < (docsP l).length:=by
    rw [HDN.out]
    have h1:=plsFrom_len 0 l k
    have:=HNL.out
    omega
   have c0:=(HB.out.below hbw).c0
   rw [hDe,haoD hDl] at c0
   have CL:Hid (Calls Tryz.prog 128 #[lstV k,.slice (some ⟨gP,0,none⟩) i c,.slice (some ⟨gD,0,none⟩) (docsP l).length cD] wr fun e w'=>∃ vH,e=.returned (.agg #[lstV k,.slice (some ⟨gP,0,none⟩) i c,vH])∧HRow w' wr.heap.size vH (hdsOf (lensOf (docsP l)) (plsFrom 0 l k))∧Below wr.heap.size wr w'):=by
    have hDr:=(HB.out.below hbw).docs
    rw [hDe,haoD hDl] at hDr
    have:=listOf_any (w:=wr) (tk:=k) (base:=w.heap.size) (base2:=0) (g:=gP) (cap:=c) (gD:=gD) (cD:=cD) (ps:=plsFrom 0 l k) (ds:=docsP l) (by have:=HQ.out;unfold PRow;rw [← HNL.out];exact this) hDr (by have:=HNL.out;omega) (fun p hp=>by have:=(plsFrom_bnd HR.out k p hp).1;rw [HDN.out];exact this) (by rw [HDN.out];omega) (fun d hd=>by
     unfold docsP at hd
     obtain ⟨d',hd',rfl⟩:=List.mem_map.1 hd
     have:=HR.out.len d' hd'
     simp;omega) (fun p hp=>by have:=(plsFrom_bnd HR.out k p hp).2;omega)
    rw [← HNL.out] at this
    exact this
   have FIN:Hid (∀ w2 vH,HRow w2 wr.heap.size vH (hdsOf (lensOf (docsP l)) (plsFrom 0 l k))→Below wr.heap.size wr w2→w2.heap[w.heap.size]?=some (.cells #[.string ⟨#[]⟩,.slice none 0 0,.slice none 0 0] 167 (0,0))∧(((w2.setCell ⟨w.heap.size,0,none⟩ (lstV k)).setCell ⟨w.heap.size,1,none⟩ (.slice (some ⟨gP,0,none⟩) i c)).setCell ⟨w.heap.size,2,none⟩ vH).heap[w.heap.size]?=some (.cells #[lstV k,.slice (some ⟨gP,0,none⟩) i c,vH] 167 (0,0))∧PRow (((w2.setCell ⟨w.heap.size,0,none⟩ (lstV k)).setCell ⟨w.heap.size,1,none⟩ (.slice (some ⟨gP,0,none⟩) i c)).setCell ⟨w.heap.size,2,none⟩ vH) w.heap.size (.slice (some ⟨gP,0,none⟩) i c) (plsFrom 0 l k)∧HRow (((w2.setCell ⟨w.heap.size,0,none⟩ (lstV k)).setCell ⟨w.heap.size,1,none⟩ (.slice (some ⟨gP,0,none⟩) i c)).setCell ⟨w.heap.size,2,none⟩ vH) w.heap.size vH (hdsOf (lensOf (docsP l)) (plsFrom 0 l k))∧Below w.heap.size w (((w2.setCell ⟨w.heap.size,0,none⟩ (lstV k)).setCell ⟨w.heap.size,1,none⟩ (.slice (some ⟨gP,0,none⟩) i c)).setCell ⟨w.heap.size,2,none⟩ vH)):=by
    intro w2 vH hH hb2
    have r0:w2.heap[w.heap.size]?=some (.cells #[.string ⟨#[]⟩,.slice none 0 0,.slice none 0 0] 167 (0,0)):=(hb2.block _ hwr).trans HRr.out
    have r1:=heap_setCell_same _ w.heap.size 0 _ 167 (lstV k) r0
    have r2:=heap_setCell_same _ w.heap.size 1 _ 167 (.slice (some ⟨gP,0,none⟩) i c) r1
    have r3:=heap_setCell_same _ w.heap.size 2 _ 167 vH r2
    have T:=turned_set3 w2 w.heap.size (lstV k) (.slice (some ⟨gP,0,none⟩) i c) vH
    have hP2:PRow w2 w.heap.size (.slice (some ⟨gP,0,none⟩) i c) (plsFrom 0 l k):=by
     have:=ownsRow_turned HQ.out (Turned.ofBelow (Z:=fun _=>False) hb2) (fun _ _ h=>h)
     unfold PRow;rw [← HNL.out];exact this
    refine ⟨r0,by simpa using r3,ownsRow_turned hP2 T ?_,(ownsRow_turned hH T ?_).mono hsz,below_turned (hbw.trans (hb2.mono hsz)) T (by have:=hb2.size;omega) (fun j hj e=>by omega)⟩
    ·intro g hg e
     obtain ⟨cu,bq⟩:=ownsRow_block hP2 hg
     rw [e,r0] at bq;cases bq
    ·intro g hg e
     obtain ⟨cu,bq⟩:=ownsRow_block hH hg
     rw [e,r0] at bq;cases bq
   have hmd:∃ m,m=(docsP l).length:=⟨_,rfl⟩
   obtain ⟨m,hm⟩:=hmd
   rw [← hm] at c0 CL
   clear hm hDe haoD hDl HP HRr hlk c1
   go_wp2_with (go_at_call 128;refine CL.out.mono ?_;rintro e w2 ⟨vH,rfl,hH2,hb2⟩;obtain ⟨gH,cH,aoH,rfl,_,_⟩:=ownsRow_shape hH2;obtain ⟨r0,F2⟩:=FIN.out w2 _ hH2 hb2;obtain ⟨d0,d1,d2,df⟩:=cell_three r0;have df0:=df 0;have df1:=df 1;have df2:=df 2;have HF2:=hid F2;clear F2 df r0)
   obtain ⟨f1,f2,f3,f4⟩:=HF2.out
   obtain ⟨k0,k1,k2,_⟩:=cell_three f1
   refine bodyPost_ret (v:=.agg #[lstV k,.slice (some ⟨gP,0,none⟩) i c,.slice aoH (hdsOf (lensOf (docsP l)) (plsFrom 0 l k)).length cH]) ?_ rfl ⟨_,_,rfl,f2,f3,f4⟩
   generalize (((w2.setCell ⟨w.heap.size,0,none⟩ (lstV k)).setCell ⟨w.heap.size,1,none⟩ (.slice (some ⟨gP,0,none⟩) i c)).setCell ⟨w.heap.size,2,none⟩ (.slice aoH (hdsOf (lensOf (docsP l)) (plsFrom 0 l k)).length cH))=W4 at k0 k1 k2 ⊢
   simp [results,Tryz.results70,go_sem,k0,k1,k2]
end Go.Proofs.YtaacjjhmojecnaaGreatDoor
