import Derived.Test.YtaacjjhmojecnaaGreatDoorQ43
import Derived.Laws.OwnMore
namespace Go.Proofs.YtaacjjhmojecnaaGreatDoor
open Go.RowKit Go.ScT Go.Proofs Go.Shelf
def flushE (E:List EDoc):List EDoc:=E.map fun d=>{ d with waits:=false }
theorem flushE_len (E:List EDoc):(flushE E).length=E.length:=by simp [flushE]
theorem keysE_flush (E:List EDoc):keysE (flushE E)=keysE E:=by simp [keysE,flushE]
theorem wdocs_flush:∀ (E:List EDoc) (n:Nat),wdocs n (flushE E)=[]
 | [],_=>rfl
 | d :: r,n=>by
   have:=wdocs_flush r (n+1)
   simpa [flushE,wdocs] using this
theorem wplaces_flush (k:Bs):∀ (E:List EDoc) (n:Nat),wplaces k n (flushE E)=[]
 | [],_=>rfl
 | d :: r,n=>by
   have:=wplaces_flush k r (n+1)
   simpa [flushE,wplaces] using this
theorem EngX.see {w:World} {Z:Nat→Prop} {e:Nat} {E:List EDoc} {ss:List Bs} {ml mw:Nat} {sv dv:Value} {β:BT} {nW:Nat} {DL DW:DataW Unit} (h:EngX w Z e E ss ml mw sv dv β nW DL DW):BSee w e 2 mw dv (waitR 0 E) β nW DW:=by
 have hf:(fun k=>wplaces k 0 E)=numsP (waitR 0 E):=funext fun k=>wplaces_R k E 0
 have hr:=h.buf.rel
 rw [hf] at hr
 exact ⟨(cell_five h.buf.eng).2.2.1,(cell_five h.buf.eng).2.2.2.1,by rw [← wdocs_R];exact h.buf.docs,h.buf.words,hr,lt_of_block h.buf.eng⟩
theorem BufX.setC4 {w:World} {e mw:Nat} {c0 c1 c4 dv:Value} {ds:List DocP} {β:BT} {f:Bs→Pls} {nW:Nat} {DW:DataW Unit} (h:BufX w e mw c0 c1 c4 dv ds β f nW DW) (x:Value):BufX (w.setCell ⟨e,4,none⟩ x) e mw c0 c1 x dv ds β f nW DW:=by
 have T2:Turned (fun b=>b=e) w (w.setCell ⟨e,4,none⟩ x):=Turned.ofSet w _ _ rfl
 exact ⟨heap_setCell_same w e 4 _ 87 x h.eng,rowX_turned h.docs T2 (fun g hg=>(h.dT g hg).2.1),ownsMap_turned h.words T2 (fun he=>h.em he.symm),h.rel.turned T2 (fun g hg (he:g=e)=>h.eT (he ▸ hg)),h.eT,h.wT,h.dT,h.em⟩
set_option maxHeartbeats 400000 in
theorem segmentsX_any {w:World} {Z:Nat→Prop} {e:Nat} {E:List EDoc} {ss:List Bs} (h:EngXOk w Z e E ss):Calls Tryz.prog 24 #[.pointer (some ⟨e,0,none⟩)] w fun en w'=>en=.returned (.int .i64 (ss.length:Int))∧w'=w:=by
 obtain ⟨ml,mw,sv,dv,β,nW,DL,DW,h⟩:=h
 obtain ⟨_,cap,ao,rfl,_,_⟩:=ownsRow_shape h.segs
 have q4:=(cell_five h.buf.eng).2.2.2.2
 clear h
 go_enter Tryz.func24,Tryz.ntmps24
 go_wp2
 go_ret
 exact ⟨rfl,rfl⟩
def dumpRes (ss:List Bs) (n:Int):Bs × Int:=if n < 0 then ([],7) else match ss[n.toNat]? with | some s=>(s,0) | none=>([],7)
set_option maxHeartbeats 1000000 in
theorem dumpX_any {w:World} {Z:Nat→Prop} {e:Nat} {E:List EDoc} {ss:List Bs} (h:EngXOk w Z e E ss) (n:Int) (hss:ss.length≤1000):Calls Tryz.prog 25 #[.pointer (some ⟨e,0,none⟩),.int .i64 n] w fun en w'=>en=.returned (.tuple #[lstV (dumpRes ss n).1,.int .i64 (dumpRes ss n).2])∧w'=w:=by
 obtain ⟨ml,mw,sv,dv,β,nW,DL,DW,h⟩:=h
 obtain ⟨g,cap,ao,rfl,_,hao⟩:=ownsRow_shape h.segs
 have q4:=(cell_five h.buf.eng).2.2.2.2
 obtain ⟨m,hm⟩:∃ m,m=ss.length:=⟨_,rfl⟩
 rw [← hm] at q4 hss
 by_cases h0:n < 0
 ·have hd:dumpRes ss n=([],7):=by simp [dumpRes,h0]
  rw [hd]
  clear h hd hm
  go_enter Tryz.func25,Tryz.ntmps25
  go_wp2
  go_ret2
  exact ⟨rfl,rfl⟩
 ·by_cases h1:n.toNat < m
  ·obtain ⟨i,rfl⟩:∃ i:Nat,n=(i:Int):=⟨n.toNat,by omega⟩
   have hi:i < m:=by omega
   obtain ⟨s,hs⟩:∃ s,ss[i]?=some s:=⟨_,List.getElem?_eq_getElem (by omega)⟩
   have hd:dumpRes ss (i:Int)=(s,0):=by simp [dumpRes,hs,h0]
   obtain rfl:=hao (by omega)
   have hc:w.cell? ⟨g,i,none⟩=some (.string ⟨s.toArray⟩):=by
    have:=h.segs.cellAt i (by omega)
    rw [this,List.getElem?_map,hs]
    rfl
   rw [hd]
   have hi2:(i:Int) < (m:Int):=by omega
   clear h hd hm hs h0 h1
   go_enter Tryz.func25,Tryz.ntmps25
   go_wp2
   go_ret2
   exact ⟨rfl,rfl⟩
  ·have hd:dumpRes ss n=([],7):=by
    have:ss[n.toNat]?=none:=List.getElem?_eq_none (by omega)
    simp [dumpRes,h0,this]
   rw [hd]
   have h2:(m:Int)≤n:=by omega
   clear h hd hm h1
   go_enter Tryz.func25,Tryz.ntmps25
   go_wp2
   go_ret2
   exact ⟨rfl,rfl⟩
theorem flush_mid {w w1 w3:World} {Z:Nat→Prop} {e:Nat} {E:List EDoc} {ss ss':List Bs} {ml mw:Nat} {sv sv' dv:Value} {β:BT} {nW:Nat} {DL DW:DataW Unit} (h:EngX w Z e E ss ml mw sv dv β nW DL DW) (hb:Below w.heap.size w w1) (hg:w1.grownBy w3 sv.ownBlock) (hown:w3.ownsRow 0 9 1 sv' ss'.length (ss'.map strV)) :
 w3.cell? ⟨e,4,none⟩=some sv∧w3.frozen? ⟨e,4,none⟩=false∧BufX (w3.setCell ⟨e,4,none⟩ sv') e mw (.int .i64 (E.length:Int)) (.map (some ml)) sv' dv (wdocs 0 E) β (fun k=>wplaces k 0 E) nW DW∧(w3.setCell ⟨e,4,none⟩ sv').ownsRow 0 9 1 sv' ss'.length (ss'.map strV)∧(w3.setCell ⟨e,4,none⟩ sv').ownsMap Tryz.prog 9 (plainElem Tryz.prog 3) ml E.length DL∧Turned Z w (w3.setCell ⟨e,4,none⟩ sv'):=by
 have h1:=h.turned (Turned.ofBelow (Z:=fun _=>False) hb) (fun _ _ h=>h)
 have T3:Turned (fun b=>sv.ownBlock=some b) w1 w3:=Turned.ofGrown hg (fun j hj _=>hj)
 have B3:=h1.buf.turned T3 (fun b hb' e'=>(h.sN b e').2 hb')
 have T4:Turned (fun b=>b=e) w3 (w3.setCell ⟨e,4,none⟩ sv'):=Turned.ofSet w3 _ _ rfl
 refine ⟨(cell_five B3.eng).2.2.2.2,frozen_five B3.eng 4,B3.setC4 sv',?_,?_,?_⟩
 ·refine rowX_turned hown T4 (fun g hg' e'=>?_)
  obtain ⟨cu,bq⟩:=ownsRow_block hown hg'
  rw [e'] at bq
  exact tag_ne B3.eng bq (by decide) rfl
 ·exact ownsMap_turned (ownsMap_turned h1.live T3 (fun e'=>(h.sN ml e').1 rfl)) T4 (fun e'=>h.le e')
 ·exact ((Turned.ofBelow hb).trans (T3.mono (fun b _ hb'=>h.zS b hb'))).trans (T4.mono (fun b _ hb'=>by rw [hb'];exact h.zX e (Or.inl rfl)))
theorem flush_done {w W w5:World} {Z:Nat→Prop} {e:Nat} {E:List EDoc} {ss ss':List Bs} {ml mw:Nat} {sv sv' dv dv':Value} {β:BT} {nW:Nat} {DL DW:DataW Unit} (h:EngX w Z e E ss ml mw sv dv β nW DL DW) (hN:∀ g,sv'.ownBlock=some g→sv.ownBlock=some g∨w.heap.size≤g) (hS:W.ownsRow 0 9 1 sv' ss'.length (ss'.map strV)) (hL:W.ownsMap Tryz.prog 9 (plainElem Tryz.prog 3) ml E.length DL) (hT:Turned Z w W)
 (hB:BufX w5 e mw (.int .i64 (E.length:Int)) (.map (some ml)) sv' dv' [] β (fun _=>[]) 0 (.map [])) (hdv:dv'.ownBlock=dv.ownBlock) (t5:Turned (ZX e mw dv β (fun k=>wplaces k 0 E)) W w5) :
 EngXOk w5 (grow Z w w5) e (flushE E) ss'∧Turned Z w w5:=by
 have hfl:(fun k=>wplaces k 0 (flushE E))=fun _=>[]:=funext fun k=>wplaces_flush k E 0
 have hmlt:=h.live.lt
 have hs:=hT.size
 have hZX:∀ b,ZX e mw dv' β (fun _=>[]) b→ZX e mw dv β (fun k=>wplaces k 0 E) b:=by
  rintro b (hb | hb | hb | ⟨k,hk,_⟩)
  ·exact Or.inl hb
  ·exact Or.inr (Or.inl hb)
  ·exact Or.inr (Or.inr (Or.inl (hdv ▸ hb)))
  ·exact absurd rfl hk
 have hsN:∀ g,sv'.ownBlock=some g→¬ ZX e mw dv β (fun k=>wplaces k 0 E) g:=fun g hg hz=>by
  rcases hN g hg with h' | h'
  ·exact (h.sN g h').2 hz
  ·rcases hz with hz | hz | hz | hz
   ·have:=lt_of_block h.buf.eng;omega
   ·have:=h.buf.words.lt;omega
   ·have:=(h.buf.docs.lt g hz).2;omega
   ·have:=h.buf.rel.lt hz;omega
 refine ⟨⟨ml,mw,sv',dv',β,0,DL,.map [],⟨?_,?_,?_,?_,?_,Nat.zero_le _,h.le,h.lw,?_,fun g hg=>h.lD g (hdv ▸ hg),fun g hg=>⟨?_,?_⟩,Or.inl h.zl,fun b hb=>?_,fun g hg=>?_⟩⟩,hT.trans (t5.mono (fun b _ hb=>h.zX b hb))⟩
 ·rw [flushE_len,wdocs_flush,hfl];exact hB
 ·rw [flushE_len];exact ownsMap_turned hL t5 h.notL
 ·rw [keysE_flush];exact h.rel
 ·rw [keysE_flush];exact h.num
 ·exact rowX_turned hS t5 (fun g hg=>hsN g hg)
 ·rw [hfl];rintro ⟨k,hk,_⟩;exact hk rfl
 ·intro e'
  rcases hN g hg with h' | h'
  ·exact (h.sN g h').1 e'
  ·omega
 ·rw [hfl];exact fun hz=>hsN g hg (hZX g hz)
 ·rw [hfl] at hb;exact Or.inl (h.zX b (hZX b hb))
 ·rcases hN g hg with h' | h'
  ·exact Or.inl (h.zS g h')
  ·have:=(hS.lt g hg).2
   have:=t5.size
   exact Or.inr ⟨h',by omega⟩
theorem step_append_run {P:Program} {ops:Array Oper} {o:Oper} {a:Act} {w:World} {K:Act→World→Prop} {Q:Exit→Act→World→Prop} {E:Prop} (hgd:o.guard=none) (s x:Operand) (t:TypeId) (ho:o.op=.call { callee:=.builtin .append,args:=#[s,x],argTypes:=#[t,t] }) {v u v':Value} {w':World} (hs:a.eval s=v) (hx:a.eval x=u) (hrun:(Builtin.append_ #[t,t] o.type #[v,u]).run P w=.ok v' w') (h:K (a.put o.dst v') w') :
 if Region.wanted o (yielded ops a.tmps)=true then Oper.wp P o a w K Q else E:=by
 have hw:Region.wanted o (yielded ops a.tmps)=true:=by simp [Region.wanted,hgd]
 rw [if_pos hw]
 unfold Oper.wp
 simp [execOp,ho,resolve,invoke,builtin,hs,hx,hrun,Result.andThen]
 exact h
theorem info9:(Tryz.prog.info? 9).map (fun i=>(i.zero,i.size,i.bytes))=some (some (.string ⟨#[]⟩),1,16):=by kernel_rfl
theorem flush_app {w1:World} {sv v:Value} {ss new:List Bs} {b1:Nat} (hS:w1.ownsRow 0 9 1 sv ss.length (ss.map strV)) (hrow:w1.ownsRow b1 9 1 v new.length (new.map strV)) (hnil:new=[]→v=.slice none 0 0) (h1:new.length≤1) (hss:ss.length≤1000) :
 ∃ sv' w3,(Builtin.append_ #[34,34] 34 #[sv,v]).run Tryz.prog w1=.ok sv' w3∧w1.grownBy w3 sv.ownBlock∧w3.ownsRow 0 9 1 sv' (ss++new).length ((ss++new).map strV)∧(∀ g,sv'.ownBlock=some g→sv.ownBlock=some g∨w1.heap.size≤g)∧∃ ao n c,sv'=.slice ao n c:=by
 obtain ⟨i9,hi9,ha0,ha1,ha2⟩:=info_parts info9
 by_cases hn:new=[]
 ·have hv:=hnil hn
  subst hn hv
  have hrun:=run_append_owned_none (P:=Tryz.prog) w1 0 34 34 9 i9 1 Tryz.underlying34 hi9 sv ss.length (ss.map strV) hS
  obtain ⟨_,c,ao,hsv,_,_⟩:=ownsRow_shape hS
  exact ⟨sv,w1,hrun,⟨rfl,rfl,rfl,Nat.le_refl _,fun _ _ _=>rfl⟩,by simpa using hS,fun g hg=>Or.inl hg,ao,_,c,hsv⟩
 ·have hl:new.length=1:=by have:=List.length_pos_iff.2 hn;omega
  rw [hl] at hrow
  obtain ⟨g,cap,rfl,_,_⟩:=hrow.form (by omega)
  obtain ⟨gA,cA,w3,hrun,hown,hg,hat,hlt⟩:=run_append_lies (P:=Tryz.prog) w1 34 34 0 9 i9 _ 1 16 Tryz.underlying34 hi9 ha0 ha1 ha2 rfl (by omega) sv ss.length (ss.map strV) hS ⟨g,0,none⟩ 1 cap (new.map strV) (by simp [hl]) (row_news hrow) (fun u hu=>by obtain ⟨x,_,rfl⟩:=List.mem_map.1 hu;rfl) (by omega) (by unfold maxLen;omega) (by omega) (by omega) w1.heap.size rfl
  refine ⟨_,w3,hrun,hg,?_,?_,_,_,_,rfl⟩
  ·rw [List.length_append,hl,List.map_append];exact hown
  ·intro g' hg'
   simp [Value.ownBlock] at hg'
   subst hg'
   rcases hat with h' | h'
   ·exact Or.inl h'
   ·exact Or.inr (by omega)
set_option maxHeartbeats 2000000 in
set_option maxRecDepth 1000000 in
theorem flushX_any {w:World} {Z:Nat→Prop} {e:Nat} {E:List EDoc} {ss:List Bs} (h:EngXOk w Z e E ss) (hss:ss.length≤1000) (hwt:waitR 0 E=[]∨Could (waitR 0 E)) :
 Calls Tryz.prog 28 #[.pointer (some ⟨e,0,none⟩)] w fun en w'=>en=.returned (.tuple #[])∧EngXOk w' (grow Z w w') e (flushE E) (ss++segOf (waitR 0 E))∧Turned Z w w':=by
 obtain ⟨ml,mw,sv,dv,β,nW,DL,DW,h⟩:=h
 obtain ⟨_,cap,ao,rfl,_,_⟩:=ownsRow_shape h.segs
 have q4:=(cell_five h.buf.eng).2.2.2.2
 obtain ⟨new,hnew⟩:∃ new,new=segOf (waitR 0 E):=⟨_,rfl⟩
 have hn1:new.length≤1:=by rw [hnew];unfold segOf;split <;> simp
 have hnn:waitR 0 E=[] ↔ new=[]:=by rw [hnew];unfold segOf;split <;> simp [*]
 have hD:=h.turned (Turned.drew (Z:=fun _=>False) w) (fun _ _ h=>h)
 have CW:Hid (Calls Tryz.prog 50 #[.pointer (some ⟨e,2,none⟩)] w.drew fun en w'=>∃ v,en=.returned v∧w'.ownsRow w.heap.size 9 1 v new.length (new.map strV)∧Below w.heap.size w w'∧(new=[]→v=.slice none 0 0)):=by
  have:=written_any hD.see hwt
  rw [← hnew] at this
  exact this.mono fun en w' ⟨v,h1,h2,h3,h4⟩=>⟨v,h1,h2,⟨h3.os,h3.tape,h3.output,h3.size,h3.block⟩,fun e'=>h4 (hnn.2 e')⟩
 have AFT:Hid (∀ w1 v,w1.ownsRow w.heap.size 9 1 v new.length (new.map strV)→Below w.heap.size w w1→(new=[]→v=.slice none 0 0)→w1.cell? ⟨e,4,none⟩=some (.slice ao ss.length cap)∧∃ ao2 n2 c2 w3,(Builtin.append_ #[34,34] 34 #[.slice ao ss.length cap,v]).run Tryz.prog w1=.ok (.slice ao2 n2 c2) w3∧w3.cell? ⟨e,4,none⟩=some (.slice ao ss.length cap)∧w3.frozen? ⟨e,4,none⟩=false∧Hid (Calls Tryz.prog 51 #[.pointer (some ⟨e,2,none⟩)] (w3.setCell ⟨e,4,none⟩ (.slice ao2 n2 c2)) fun en w'=>en=.returned (.tuple #[])∧EngXOk w' (grow Z w w') e (flushE E) (ss++new)∧Turned Z w w')):=by
  intro w1 v hrow hb hnil
  have h1:=h.turned (Turned.ofBelow (Z:=fun _=>False) hb) (fun _ _ h=>h)
  obtain ⟨sv2,w3,hrun,hg,hown,hN,ao2,n2,c2,rfl⟩:=flush_app h1.segs hrow hnil hn1 hss
  obtain ⟨m4,mf,mB,mS,mL,mT⟩:=flush_mid h hb hg hown
  refine ⟨(cell_five h1.buf.eng).2.2.2.2,ao2,n2,c2,w3,hrun,m4,mf,(empty_any mB).mono ?_⟩
  rintro en w5 ⟨rfl,⟨dv',hB5,hdv⟩,t5⟩
  have:=hb.size
  exact ⟨rfl,flush_done h (fun g hg'=>(hN g hg').imp id (fun h'=>by omega)) mS mL mT hB5 hdv t5⟩
 have SH:Hid (∀ (w1:World) v,w1.ownsRow w.heap.size 9 1 v new.length (new.map strV)→∃ ao c,v=.slice ao new.length c):=fun w1 v hv=>by
  obtain ⟨_,c,ao,h1,_,_⟩:=ownsRow_shape hv
  exact ⟨ao,c,h1⟩
 rw [← hnew]
 obtain ⟨m,hm⟩:∃ m,m=ss.length:=⟨_,rfl⟩
 rw [← hm] at q4 AFT
 clear h hD hnew hnn hwt hm
 go_enter Tryz.func28,Tryz.ntmps28
 go_wp2_with (fail)
 refine wp_region_any (by kernel_rfl) ?_
 change wpAny _ _ _ _ _ _ _ (World.drew _)
 refine wpAny_take (i:=0) (v:=.pointer (some ⟨e,0,none⟩)) rfl (by kernel_rfl) (by kernel_rfl) (by kernel_rfl) (fun _ _ _ h=>h) (Or.inl ⟨by rfl,fun w=>by go_simp⟩) ?_
 refine wpAny_take (i:=1) (v:=.pointer (some ⟨e,0,none⟩)) rfl (by kernel_rfl) (by kernel_rfl) (by kernel_rfl) (fun _ _ _ h=>h) (Or.inl ⟨by rfl,fun w=>by go_simp⟩) ?_
 refine wpAny_take (i:=2) (v:=.pointer (some ⟨e,0,none⟩)) rfl (by kernel_rfl) (by kernel_rfl) (by kernel_rfl) (fun _ _ _ h=>h) (Or.inl ⟨by rfl,fun w=>by go_simp⟩) ?_
 refine wpAny_take (i:=3) (v:=.pointer (some ⟨e,4,none⟩)) rfl (by kernel_rfl) (by kernel_rfl) (by kernel_rfl) (fun _ _ _ h=>h) (Or.inl ⟨by rfl,fun w=>by go_simp⟩) ?_
 refine wpAny_take (i:=5) (v:=.pointer (some ⟨e,0,none⟩)) rfl (by kernel_rfl) (by kernel_rfl) (by kernel_rfl) (fun _ _ _ h=>h) (Or.inl ⟨by rfl,fun w=>by go_simp⟩) ?_
 refine wpAny_take (i:=6) (v:=.pointer (some ⟨e,0,none⟩)) rfl (by kernel_rfl) (by kernel_rfl) (by kernel_rfl) (fun _ _ _ h=>h) (Or.inl ⟨by rfl,fun w=>by go_simp⟩) ?_
 refine wpAny_take (i:=7) (v:=.pointer (some ⟨e,2,none⟩)) rfl (by kernel_rfl) (by kernel_rfl) (by kernel_rfl) (fun _ _ _ h=>h) (Or.inl ⟨by rfl,fun w=>by go_simp⟩) ?_
 refine wpAny_ready (rs:=[4,8]) (by kernel_rfl) (by simp) ?_
 refine AllReady.cons rfl (fun K hK=>?_) (AllReady.cons rfl (fun K hK=>?_) AllReady.nil)
 ·go_simp
  refine hK _ _ ?_
  clear hK K
  refine wpAny_ready (rs:=[8]) (by kernel_rfl) (by simp) ?_
  refine AllReady.cons rfl (fun K hK=>?_) AllReady.nil
  go_simp
  go_wp2_with (go_at_call 50;refine CW.out.mono ?_;rintro en w1 ⟨v,rfl,hrow,hb1,hnil⟩;obtain ⟨c0,ao2,n2,c2,w3,hrun,k4,kf,HF⟩:=AFT.out w1 v hrow hb1 hnil;obtain ⟨aoV,cV,hve⟩:=SH.out w1 v hrow;subst hve)
  refine wpAny_ready (rs:=[9]) (by kernel_rfl) (by simp) ?_
  refine AllReady.cons rfl (fun K hK=>?_) AllReady.nil
  refine step_append_run rfl _ _ 34 rfl rfl rfl hrun ?_
  refine hK _ _ ?_
  clear hK K
  refine wpAny_ready (rs:=[10]) (by kernel_rfl) (by simp) ?_
  refine AllReady.cons rfl (fun K hK=>?_) AllReady.nil
  go_simp
  refine hK _ _ ?_
  clear hK K
  refine wpAny_ready (rs:=[11]) (by kernel_rfl) (by simp) ?_
  refine AllReady.cons rfl (fun K hK=>?_) AllReady.nil
  go_simp
  refine hK _ _ ?_
  clear hK K
  refine wpAny_ready (rs:=[12]) (by kernel_rfl) (by simp) ?_
  refine AllReady.cons rfl (fun K hK=>?_) AllReady.nil
  go_simp
  refine hK _ _ ?_
  clear hK K
  refine wpAny_done (by kernel_rfl) ?_ _
  go_wp2_with (go_at_call 51;refine HF.out.mono ?_;rintro en w5 ⟨rfl,hE5,ht5⟩)
  go_end0
  exact ⟨rfl,hE5,ht5⟩
 ·go_simp
  go_wp2_with (go_at_call 50;refine CW.out.mono ?_;rintro en w1 ⟨v,rfl,hrow,hb1,hnil⟩;obtain ⟨c0,ao2,n2,c2,w3,hrun,k4,kf,HF⟩:=AFT.out w1 v hrow hb1 hnil;obtain ⟨aoV,cV,hve⟩:=SH.out w1 v hrow;subst hve)
  refine wpAny_ready (rs:=[4]) (by kernel_rfl) (by simp) ?_
  refine AllReady.cons rfl (fun K hK=>?_) AllReady.nil
  go_simp
  refine hK _ _ ?_
  clear hK K
  refine wpAny_ready (rs:=[9]) (by kernel_rfl) (by simp) ?_
  refine AllReady.cons rfl (fun K hK=>?_) AllReady.nil
  refine step_append_run rfl _ _ 34 rfl rfl rfl hrun ?_
  refine hK _ _ ?_
  clear hK K
  refine wpAny_ready (rs:=[10]) (by kernel_rfl) (by simp) ?_
  refine AllReady.cons rfl (fun K hK=>?_) AllReady.nil
  go_simp
  refine hK _ _ ?_
  clear hK K
  refine wpAny_ready (rs:=[11]) (by kernel_rfl) (by simp) ?_
  refine AllReady.cons rfl (fun K hK=>?_) AllReady.nil
  go_simp
  refine hK _ _ ?_
  clear hK K
  refine wpAny_ready (rs:=[12]) (by kernel_rfl) (by simp) ?_
  refine AllReady.cons rfl (fun K hK=>?_) AllReady.nil
  go_simp
  refine hK _ _ ?_
  clear hK K
  refine wpAny_done (by kernel_rfl) ?_ _
  go_wp2_with (go_at_call 51;refine HF.out.mono ?_;rintro en w5 ⟨rfl,hE5,ht5⟩)
  go_end0
  exact ⟨rfl,hE5,ht5⟩
end Go.Proofs.YtaacjjhmojecnaaGreatDoor
namespace Go.Proofs.YtaacjjhmojecnaaGreatDoor
open Go.RowKit Go.ScT Go.Proofs
set_option maxHeartbeats 400000 in
theorem refSegmentsE_any {w:World} {Z:Nat→Prop} {y:Nat} {E:List EDoc} {Ws:List (List Nat)} (h:RefXOk w Z y E Ws):Calls Tryz.prog 122 #[.pointer (some ⟨y,0,none⟩)] w fun e w'=>e=.returned (.int .i64 (Ws.length:Int))∧w'=w:=by
 obtain ⟨v1,v2,v3,v4,tvs,svs,h⟩:=h
 obtain ⟨_,cap,ao,rfl,_,_⟩:=ownsRow_shape h.own4
 have q3:=(cell_four h.ref.eng).2.2.2
 clear h
 go_enter Tryz.func122,Tryz.ntmps122
 go_wp2
 go_ret
 exact ⟨rfl,rfl⟩
def waitI:Nat→List EDoc→List Nat
 | _,[]=>[]
 | n,d :: r=>if d.waits then n :: waitI (n+1) r else waitI (n+1) r
theorem waitI_snoc:∀ (E:List EDoc) (n:Nat) (d:EDoc),waitI n (E++[d])=waitI n E++(if d.waits then [n+E.length] else [])
 | [],n,d=>by simp [waitI]
 | a :: r,n,d=>by
   have ih:=waitI_snoc r (n+1) d
   rw [show n+1+r.length=n+(a :: r).length by simp;omega] at ih
   simp only [List.cons_append,waitI,ih]
   split <;> simp
theorem take_snoc {E:List EDoc} {i:Nat} {d:EDoc} (h:E[i]?=some d):E.take (i+1)=E.take i++[d]:=by rw [List.take_add_one,h];rfl
def flushB (i:Nat) (ws:List Bool):List Bool:=List.replicate i false++ws.drop i
theorem flushB_get (i:Nat) (ws:List Bool) (j:Nat):(flushB i ws)[j]?=if j < i then some false else ws[j]?:=by
 unfold flushB
 rw [List.getElem?_append]
 simp only [List.length_replicate,List.getElem?_drop,List.getElem?_replicate]
 by_cases h1:j < i
 ·rw [if_pos h1,if_pos h1,if_pos h1]
 ·rw [if_neg h1,if_neg h1,show i+(j - i)=j by omega]
theorem flushB_len {i:Nat} {ws:List Bool} (h:i≤ws.length):(flushB i ws).length=ws.length:=by simp [flushB];omega
theorem flushB_set {i:Nat} {ws:List Bool} (h:i < ws.length):(flushB i ws).set i false=flushB (i+1) ws:=by
 apply List.ext_getElem?
 intro j
 rw [List.getElem?_set,flushB_get,flushB_get,flushB_len (by omega)]
 by_cases hij:i=j
 ·subst hij
  rw [if_pos rfl,if_pos h,if_pos (by omega)]
 ·rw [if_neg hij]
  by_cases h1:j < i
  ·rw [if_pos h1,if_pos (by omega)]
  ·rw [if_neg h1,if_neg (by omega)]
theorem flushB_false {i:Nat} {ws:List Bool} (h:ws[i]?=some false):flushB i ws=flushB (i+1) ws:=by
 apply List.ext_getElem?
 intro j
 rw [flushB_get,flushB_get]
 by_cases hij:i=j
 ·subst hij
  rw [if_neg (by omega),if_pos (by omega),h]
 ·by_cases h1:j < i
  ·rw [if_pos h1,if_pos (by omega)]
  ·rw [if_neg h1,if_neg (by omega)]
theorem flushB_all (E:List EDoc):flushB E.length (E.map (·.waits))=(flushE E).map (·.waits):=by
 apply List.ext_getElem?
 intro j
 rw [flushB_get]
 simp only [flushE,List.getElem?_map]
 by_cases h:j < E.length
 ·rw [if_pos h,List.getElem?_eq_getElem h];rfl
 ·rw [if_neg h,List.getElem?_eq_none (by omega)];rfl
theorem eR_flush:∀ (E:List EDoc) (n:Nat),eR n (flushE E)=eR n E
 | [],_=>rfl
 | d :: r,n=>by
   have:=eR_flush r (n+1)
   simp only [flushE,List.map_cons,eR] at this ⊢
   rw [this]
def flushWs (Ws:List (List Nat)) (I:List Nat):List (List Nat):=if I=[] then Ws else Ws++[I]
theorem flush_ref {w W:World} {Z:Nat→Prop} {y:Nat} {E:List EDoc} {Ws:List (List Nat)} {v1 v2 v3 v4:Value} {tvs svs:List Value} (h:RefX w Z y E Ws v1 v2 v3 v4 tvs svs) (h3:W.ownsRow 0 4 1 v3 E.length ((flushB E.length (E.map (·.waits))).map .bool)) (ht:Turned (fun b=>v3.ownBlock=some b) w W):RefX W Z y (flushE E) Ws v1 v2 v3 v4 tvs svs∧Turned Z w W:=by
 have htf:Turned (Zf y v1 v2 v3) w W:=ht.mono (fun b _ hb=>Or.inr (Or.inr (Or.inr hb)))
 obtain ⟨r1,r2,r3⟩:=h.rest htf
 have hn:∀ (b:Nat) (c:Array Value) (t:TypeId) (f:Nat × Nat),w.heap[b]?=some (Obj.cells c t f)→t≠4→¬ v3.ownBlock=some b:=fun b c t f hb hne e=>by
  obtain ⟨cu,bq⟩:=ownsRow_block h.ref.own3 e
  rw [bq] at hb;cases hb;exact hne rfl
 have hkl:(keysE E).length=E.length:=by simp [keysE]
 refine ⟨⟨⟨?_,?_,?_,?_,?_,h.ref.zy,h.ref.z1,h.ref.z2,h.ref.z3,h.ref.apart⟩,?_,r2,r3,h.z,h.z4,h.zt,h.zs⟩,ht.mono (fun b _ hb=>h.z b (Or.inr (Or.inr (Or.inr hb))))⟩
 ·exact (ht.block y (lt_of_block h.ref.eng) (hn _ _ _ _ h.ref.eng (by decide))).trans h.ref.eng
 ·rw [keysE_flush,eR_flush]
  exact ownsRow_turned h.ref.own1 ht (fun g hg=>by obtain ⟨cu,bq⟩:=ownsRow_block h.ref.own1 hg;exact hn _ _ _ _ bq (by decide))
 ·rw [keysE_flush,eR_flush];exact h.ref.keys
 ·rw [keysE_flush]
  exact ownsRow_turned h.ref.own2 ht (fun g hg e=>h.ref.apart g hg e)
 ·rw [keysE_flush,hkl,← flushB_all];exact h3
 ·rw [eR_flush]
  exact ⟨ownsRow_turned h.docs.row ht (fun g hg=>by obtain ⟨cu,bq⟩:=ownsRow_block h.docs.row hg;exact hn _ _ _ _ bq (by decide)),h.docs.len,r1,h.docs.apart⟩
theorem info35:(Tryz.prog.info? 35).map (fun i=>(i.zero,i.size,i.bytes))=some (some (.slice none 0 0),1,24):=by kernel_rfl
theorem info3':(Tryz.prog.info? 3).map (fun i=>(i.zero,i.size,i.bytes))=some (some (.int .i64 0),1,8):=by kernel_rfl
theorem RefX.written {w w3:World} {Z:Nat→Prop} {y b:Nat} {E:List EDoc} {Ws:List (List Nat)} {v1 v2 v3 v4 v4' s:Value} {tvs svs:List Value} {I:List Nat} {o:Obj} (h:RefX w Z y E Ws v1 v2 v3 v4 tvs svs) (hs:w.ownsRow b 3 1 s I.length (I.map natV)) (hg:(w.alloc o).grownBy w3 v4.ownBlock) (hown:w3.ownsRow 0 35 1 v4' (Ws.length+1) (svs++[s])) (hat:∀ g,v4'.ownBlock=some g→v4.ownBlock=some g∨w.heap.size≤g) (hsz:∀ g,s.ownBlock=some g→Z g) :
 w3.cell? ⟨y,3,none⟩=some v4∧w3.frozen? ⟨y,3,none⟩=false∧RefX (w3.setCell ⟨y,3,none⟩ v4') (grow Z w w3) y E (Ws++[I]) v1 v2 v3 v4' tvs (svs++[s])∧Turned Z w (w3.setCell ⟨y,3,none⟩ v4'):=by
 have hsv:svs.length=Ws.length:=by have:=h.own4.1;omega
 have t3:Turned (fun b=>v4.ownBlock=some b) w w3:=(Turned.ofAlloc w o).trans (Turned.ofGrown hg (fun k hk _=>hk))
 have hn4:∀ (b:Nat) (c:Array Value) (t:TypeId) (f:Nat × Nat),w.heap[b]?=some (Obj.cells c t f)→t≠35→¬ v4.ownBlock=some b:=fun b c t f hb hne e=>by
  obtain ⟨cu,bq⟩:=ownsRow_block h.own4 e
  rw [bq] at hb;cases hb;exact hne rfl
 have E3:w3.heap[y]?=some (.cells #[v1,v2,v3,v4] 193 (0,0)):=(t3.block y (lt_of_block h.ref.eng) (hn4 _ _ _ _ h.ref.eng (by decide))).trans h.ref.eng
 have t4:Turned (fun b=>b=y) w3 (w3.setCell ⟨y,3,none⟩ v4'):=Turned.ofSet w3 _ _ rfl
 have keep:∀ {b2:Nat} {e:TypeId} {size:Nat} {v:Value} {n:Nat} {xs:List Value},w.ownsRow b2 e size v n xs→e≠35→e≠193→(w3.setCell ⟨y,3,none⟩ v4').ownsRow b2 e size v n xs:=fun {b2 e size v n xs} hrow he1 he2=>by
  have h1:=ownsRow_turned hrow t3 (fun g hg=>by obtain ⟨cu,bq⟩:=ownsRow_block hrow hg;exact hn4 _ _ _ _ bq he1)
  refine ownsRow_turned h1 t4 (fun g hg e'=>?_)
  obtain ⟨cu,bq⟩:=ownsRow_block h1 hg
  rw [e',E3] at bq;cases bq;exact he2 rfl
 have hw4:(w3.setCell ⟨y,3,none⟩ v4').ownsRow 0 35 1 v4' (Ws.length+1) (svs++[s]):=ownsRow_turned hown t4 (fun g hg e'=>by
  obtain ⟨cu,bq⟩:=ownsRow_block hown hg
  rw [e',E3] at bq;cases bq)
 obtain ⟨_,_,c3,cf⟩:=cell_four E3
 refine ⟨cf,frozen_four E3 3,⟨⟨heap_setCell_same w3 y 3 _ 193 v4' E3,keep h.ref.own1 (by decide) (by decide),h.ref.keys,keep h.ref.own2 (by decide) (by decide),keep h.ref.own3 (by decide) (by decide),h.ref.zy,h.ref.z1,h.ref.z2,h.ref.z3,h.ref.apart⟩,⟨keep h.docs.row (by decide) (by decide),h.docs.len,fun i d t hd ht=>keep (h.docs.toks i d t hd ht) (by decide) (by decide),h.docs.apart⟩,by simpa using hw4,?_,fun b hb=>Or.inl (h.z b hb),?_,fun i t g a b=>Or.inl (h.zt i t g a b),?_⟩,?_⟩
 ·intro j J s' hJ hs'
  rw [List.getElem?_append] at hJ hs'
  by_cases hj:j < Ws.length
  ·rw [if_pos hj] at hJ
   rw [if_pos (by omega)] at hs'
   exact keep (h.rows j J s' hJ hs') (by decide) (by decide)
  ·rw [if_neg hj] at hJ
   rw [if_neg (by omega)] at hs'
   have h0:j - Ws.length=0:=by
    have:=(List.getElem?_eq_some_iff.1 hJ).1
    simp at this;omega
   rw [h0] at hJ
   rw [hsv,h0] at hs'
   simp at hJ hs'
   subst hJ hs'
   exact (keep hs (by decide) (by decide)).mono (Nat.zero_le _)
 ·intro g hg
  rcases hat g hg with h' | h'
  ·exact Or.inl (h.z4 g h')
  ·exact Or.inr ⟨h',(hown.lt g hg).2⟩
 ·intro j s' g hs' hg'
  rw [List.getElem?_append] at hs'
  split at hs'
  ·exact Or.inl (h.zs j s' g hs' hg')
  ·rename_i hge
   have h0:j - svs.length=0:=by
    have:=(List.getElem?_eq_some_iff.1 hs').1
    simp at this;omega
   rw [h0] at hs'
   simp at hs'
   subst hs'
   exact Or.inl (hsz g hg')
 ·exact (t3.mono (fun b _ hb=>h.z4 b hb)).trans (t4.mono (fun b _ hb=>by rw [hb];exact h.z y (Or.inl rfl)))
set_option maxHeartbeats 2000000 in
set_option maxRecDepth 1000000 in
theorem refFlushE_any {w:World} {Z:Nat→Prop} {y:Nat} {E:List EDoc} {Ws:List (List Nat)} (h:RefXOk w Z y E Ws) (hl:E.length≤100) (hws:Ws.length≤1000) :
 Calls Tryz.prog 123 #[.pointer (some ⟨y,0,none⟩)] w fun e w'=>e=.returned (.tuple #[])∧RefXOk w' (grow Z w w') y (flushE E) (flushWs Ws (waitI 0 E))∧Turned Z w w':=by
 obtain ⟨i35,hi35,a0,a1,a2⟩:=info_parts info35
 obtain ⟨i3,hi3,b0,b1,b2⟩:=info_parts info3'
 obtain ⟨v1,v2,v3,v4,tvs,svs,h⟩:=h
 have hkl:(keysE E).length=E.length:=by simp [keysE]
 obtain ⟨_,cap1,ao1,rfl,_,_⟩:=ownsRow_shape h.ref.own1
 obtain ⟨g3,cap3,ao3,rfl,_,hao3⟩:=ownsRow_shape h.ref.own3
 obtain ⟨_,cap4,ao4,rfl,_,_⟩:=ownsRow_shape h.own4
 rw [hkl] at h hao3
 obtain ⟨N,hN⟩:∃ N,N=E.length:=⟨_,rfl⟩
 obtain ⟨M,hM⟩:∃ M,M=Ws.length:=⟨_,rfl⟩
 rw [← hN] at h hl hao3
 rw [← hM] at h hws
 have HN:=hid hN
 have HM:=hid hM
 have H:=hid h
 have h30:w.ownsRow 0 4 1 (.slice ao3 N cap3) N ((flushB 0 (E.map (·.waits))).map .bool):=by
  have:=h.ref.own3
  rw [hkl,← hN] at this
  simpa [flushB] using this
 have H30:=hid h30
 have hn3:Hid (∀ (b:Nat) (c:Array Value) (t:TypeId) (f:Nat × Nat),w.heap[b]?=some (Obj.cells c t f)→t≠4→¬ (Value.slice ao3 N cap3).ownBlock=some b):=fun b c t f hb hne e=>by
  obtain ⟨cu,bq⟩:=ownsRow_block h30 e
  rw [bq] at hb;cases hb;exact hne rfl
 have ENG:Hid (∀ W,Turned (fun b=>(Value.slice ao3 N cap3).ownBlock=some b) w W→W.heap[y]?=some (.cells #[.slice ao1 N cap1,v2,.slice ao3 N cap3,.slice ao4 M cap4] 193 (0,0))):=fun W ht=>(ht.block y (lt_of_block h.ref.eng) (hn3.out _ _ _ _ h.ref.eng (by decide))).trans h.ref.eng
 clear h hN hM h30
 go_enter Tryz.func123,Tryz.ntmps123
 go_wp2_with (fail)
 go_loopw [2,3] (fun s2 s3 wr=>∃ (i:Nat) (ao:Option Addr) (n c:Nat),s2=.slice ao n c∧s3=.int .i64 (i:Int)∧i≤N∧n≤i∧Hid (n=(waitI 0 (E.take i)).length)∧Hid (wr.ownsRow w.heap.size 3 1 (.slice ao n c) n ((waitI 0 (E.take i)).map natV))∧Hid (wr.ownsRow 0 4 1 (.slice ao3 N cap3) N ((flushB i (E.map (·.waits))).map .bool))∧Hid (Turned (fun b=>(Value.slice ao3 N cap3).ownBlock=some b) w wr)) (fun _ s3 _=>N - (intOf s3).toNat)
 case atStart=>exact ⟨0,none,0,0,rfl,rfl,by omega,by omega,by simp [waitI,Hid],World.ownsRow_nil _ _ _ _,H30,Turned.refl _ _⟩
 case round =>
  obtain ⟨i,ao,n,c,rfl,rfl,hi,hn,HW,HL,H3,HT⟩:=hrel
  have hE:=ENG.out wr HT.out
  obtain ⟨c0,c1,c2,c3⟩:=cell_four hE
  have hsz:=HT.out.size
  by_cases hlt:i < N
  ·obtain ⟨d,hd⟩:∃ d,E[i]?=some d:=⟨_,List.getElem?_eq_getElem (by rw [← HN.out];exact hlt)⟩
   have htk:=take_snoc hd
   obtain rfl:=hao3 (by omega)
   have hc3:wr.cell? ⟨g3,i,none⟩=some (.bool d.waits):=by
    rw [H3.out.cellAt i (by omega),List.getElem?_map,flushB_get,if_neg (by omega),List.getElem?_map,hd]
    rfl
   have hwl:(E.map (·.waits)).length=N:=by rw [HN.out];simp
   cases hdw:d.waits with
   | false =>
     rw [hdw] at hc3
     have HW2:Hid (waitI 0 (E.take (i+1))=waitI 0 (E.take i)):=by show _=_;rw [htk,waitI_snoc];simp [hdw]
     have HF2:Hid (flushB i (E.map (·.waits))=flushB (i+1) (E.map (·.waits))):=flushB_false (by rw [List.getElem?_map,hd];simp [hdw])
     clear hd htk hdw hE hwl
     go_wp2_with (fail)
     go_roundw
     case rel=>exact ⟨i+1,ao,n,c,rfl,by go_num,by omega,by omega,by show _=_;rw [HW2.out];exact HW.out,by show World.ownsRow _ _ _ _ _ _ _;rw [HW2.out];exact HL.out,by show World.ownsRow _ _ _ _ _ _ _;rw [← HF2.out];exact H3.out,HT⟩
     case measure=>simp [intOf];omega
   | true =>
     rw [hdw] at hc3
     have HW2:Hid (waitI 0 (E.take (i+1))=waitI 0 (E.take i)++[i]):=by
      show _=_
      rw [htk,waitI_snoc,if_pos hdw,List.length_take,Nat.zero_add,Nat.min_eq_left (by rw [← HN.out];omega)]
     have HF2:Hid ((flushB i (E.map (·.waits))).set i false=flushB (i+1) (E.map (·.waits))):=flushB_set (by omega)
     have HL1:=hid (HL.out.alloc (.cells #[.int .i64 (i:Int)] 3))
     have hne:Hid (∀ g,(Value.slice ao n c).ownBlock=some g→g≠g3∧w.heap.size≤g):=fun g hg=>by
      obtain ⟨cu,bq⟩:=ownsRow_block HL.out hg
      obtain ⟨cu3,bq3⟩:=ownsRow_block H3.out (g:=g3) rfl
      exact ⟨tag_ne bq bq3 (by decide),(HL.out.lt g hg).1⟩
     have AFT:Hid (∀ gA cA w5,(wr.alloc (.cells #[.int .i64 (i:Int)] 3)).grownBy w5 (Value.slice ao n c).ownBlock→w5.ownsRow w.heap.size 3 1 (.slice (some ⟨gA,0,none⟩) (n+1) cA) (n+1) ((waitI 0 (E.take i)).map natV++[natV i])→w5.heap[y]?=some (.cells #[.slice ao1 N cap1,v2,.slice (some ⟨g3,0,none⟩) N cap3,.slice ao4 M cap4] 193 (0,0))∧w5.cell? ⟨g3,i,none⟩=some (.bool true)∧w5.frozen? ⟨g3,i,none⟩=false∧(w5.setCell ⟨g3,i,none⟩ (.bool false)).ownsRow w.heap.size 3 1 (.slice (some ⟨gA,0,none⟩) (n+1) cA) (n+1) ((waitI 0 (E.take (i+1))).map natV)∧(w5.setCell ⟨g3,i,none⟩ (.bool false)).ownsRow 0 4 1 (.slice (some ⟨g3,0,none⟩) N cap3) N ((flushB (i+1) (E.map (·.waits))).map .bool)∧Turned (fun b=>(Value.slice (some ⟨g3,0,none⟩) N cap3).ownBlock=some b) w (w5.setCell ⟨g3,i,none⟩ (.bool false))):=by
      intro gA cA w5 hg hown
      have t5:Turned (fun b=>(Value.slice ao n c).ownBlock=some b) wr w5:=(Turned.ofAlloc wr _).trans (Turned.ofGrown hg (fun k hk _=>hk))
      have t05:Turned (fun b=>(Value.slice (some ⟨g3,0,none⟩) N cap3).ownBlock=some b) w w5:=HT.out.trans2 t5 (fun j hj e=>by have:=(hne.out j e).2;omega)
      have h35:=ownsRow_turned H3.out t5 (fun g hg' e=>by
       simp [Value.ownBlock] at hg'
       exact (hne.out g e).1 hg'.symm)
      have t6:Turned (fun b=>b=g3) w5 (w5.setCell ⟨g3,i,none⟩ (.bool false)):=Turned.ofSet w5 _ _ rfl
      refine ⟨ENG.out w5 t05,?_,h35.frozenAt i,?_,?_,t05.trans2 t6 (fun j hj e=>by rw [e];rfl)⟩
      ·rw [h35.cellAt i (by omega),List.getElem?_map,flushB_get,if_neg (by omega),List.getElem?_map,hd]
       simp [hdw]
      ·rw [HW2.out,List.map_append]
       refine ownsRow_turned hown t6 (fun g hg' e=>?_)
       obtain ⟨cu,bq⟩:=ownsRow_block hown hg'
       obtain ⟨cu3,bq3⟩:=ownsRow_block h35 (g:=g3) rfl
       rw [e,bq3] at bq;cases bq
      ·have:=(h35.stored i (.bool false)).1
       rw [← HF2.out,List.map_set]
       exact this
     clear hd htk hdw hE hwl
     have HLen:Hid (n+1=(waitI 0 (E.take (i+1))).length):=by show _=_;rw [HW2.out,List.length_append,← HW.out];rfl
     go_wp2_with (at_builtin;refine wpList_append_lies _ rfl _ _ 35 rfl w.heap.size 3 i3 (.int .i64 0) 1 8 Tryz.underlying35 hi3 b0 b1 b2 rfl (by omega) (.slice ao n c) n _ rfl HL1.out ⟨wr.heap.size,0,none⟩ 1 1 [natV i] rfl rfl (cell_one_new _ _ _) (fun x hx=>by simp at hx;subst hx;rfl) (by omega) (by unfold maxLen;omega) (by omega) (by simp;omega) (wr.heap.size+1) (by simp) ?_;intro gA cA w5 hownA hgA hatA hltA;obtain ⟨e5,k1,kf,r1,r2,r3⟩:=AFT.out gA cA w5 hgA hownA;have q2:=(cell_four e5).2.2.1;have R1:=hid r1;have R2:=hid r2;have R3:=hid r3;clear r1 r2 r3 e5)
     go_roundw
     case rel=>exact ⟨i+1,some ⟨gA,0,none⟩,n+1,cA,rfl,by go_num,by omega,by omega,HLen,R1,R2,R3⟩
     case measure=>simp [intOf];omega
  ·obtain rfl:i=N:=by omega
   have htl:E.take i=E:=List.take_of_length_le (by rw [← HN.out];exact Nat.le_refl _)
   rw [htl] at HW HL
   have hH:=H.out
   have h3f:wr.ownsRow 0 4 1 (.slice ao3 i cap3) E.length ((flushB E.length (E.map (·.waits))).map .bool):=by rw [← HN.out];exact H3.out
   obtain ⟨hR,hTR⟩:=flush_ref hH h3f HT.out
   by_cases hn0:n=0
   ·have hI:waitI 0 E=[]:=List.eq_nil_of_length_eq_zero (by rw [← HW.out];exact hn0)
    have HFIN:Hid (RefXOk wr Z y (flushE E) (flushWs Ws (waitI 0 E))∧Turned Z w wr):=⟨⟨_,_,_,_,_,_,by rw [hI];simp only [flushWs,if_true];exact hR⟩,hTR⟩
    subst hn0
    clear hR hTR h3f hH htl hI hE
    go_wp2_with (fail)
    go_end0
    exact ⟨rfl,HFIN.out.1.zone (fun b hb=>Or.inl hb),HFIN.out.2⟩
   ·have hI:waitI 0 E≠[]:=fun e=>hn0 (by rw [HW.out,e];rfl)
    have hgt:(0:Int) < (n:Int):=by omega
    have R4:Hid (wr.ownsRow 0 35 1 (.slice ao4 M cap4) M svs):=by have:=hR.own4;rw [← HM.out] at this;exact this
    have WR:Hid (∀ gA cA w6,(wr.alloc (.cells #[.slice ao n c] 35)).grownBy w6 (Value.slice ao4 M cap4).ownBlock→w6.ownsRow 0 35 1 (.slice (some ⟨gA,0,none⟩) (M+1) cA) (M+1) (svs++[.slice ao n c])→((Value.slice ao4 M cap4).ownBlock=some gA∨gA=wr.heap.size+1)→w6.cell? ⟨y,3,none⟩=some (.slice ao4 M cap4)∧w6.frozen? ⟨y,3,none⟩=false∧RefXOk (w6.setCell ⟨y,3,none⟩ (.slice (some ⟨gA,0,none⟩) (M+1) cA)) (grow Z w (w6.setCell ⟨y,3,none⟩ (.slice (some ⟨gA,0,none⟩) (M+1) cA))) y (flushE E) (flushWs Ws (waitI 0 E))∧Turned Z w (w6.setCell ⟨y,3,none⟩ (.slice (some ⟨gA,0,none⟩) (M+1) cA))):=by
     intro gA cA w6 hg hown hat
     have hsz6:wr.heap.size≤w6.heap.size:=by have:=hg.size;simp at this;omega
     have hR':RefX wr (fun b=>Z b∨(w.heap.size≤b∧b < wr.heap.size)) y (flushE E) Ws (.slice ao1 i cap1) v2 (.slice ao3 i cap3) (.slice ao4 M cap4) tvs svs:=⟨hR.ref,hR.docs,hR.own4,hR.rows,fun b hb=>Or.inl (hR.z b hb),fun g hg=>Or.inl (hR.z4 g hg),fun i t g a b=>Or.inl (hR.zt i t g a b),fun j s g a b=>Or.inl (hR.zs j s g a b)⟩
     have hs:wr.ownsRow w.heap.size 3 1 (.slice ao n c) (waitI 0 E).length ((waitI 0 E).map natV):=by rw [← HW.out];exact HL.out
     obtain ⟨m1,m2,m3,m4⟩:=hR'.written hs hg (by rw [← HM.out];exact hown) (fun g hg'=>by
      simp [Value.ownBlock] at hg'
      subst hg'
      rcases hat with h' | h'
      ·exact Or.inl h'
      ·exact Or.inr (by omega)) (fun g hg'=>Or.inr (HL.out.lt g hg'))
     have hs4:(w6.setCell ⟨y,3,none⟩ (.slice (some ⟨gA,0,none⟩) (M+1) cA)).heap.size=w6.heap.size:=size_set _ _ _
     refine ⟨m1,m2,RefXOk.zone ⟨_,_,_,_,_,_,by simp only [flushWs,if_neg hI];exact m3⟩ ?_,hTR.trans2 m4 ?_⟩
     ·rintro b ((hb | hb) | hb)
      ·exact Or.inl hb
      ·exact Or.inr ⟨hb.1,by rw [hs4];omega⟩
      ·exact Or.inr ⟨by omega,by rw [hs4];exact hb.2⟩
     ·rintro j hj (hb | hb)
      ·exact hb
      ·omega
    clear hR hTR h3f hH htl hI hE HL H3 HW
    go_wp2_with (at_builtin;refine wpList_append_lies _ rfl _ _ 191 rfl 0 35 i35 (.slice none 0 0) 1 24 Tryz.underlying191 hi35 a0 a1 a2 rfl (by omega) (.slice ao4 M cap4) M _ rfl (R4.out.alloc _) ⟨wr.heap.size,0,none⟩ 1 1 [.slice ao n c] rfl rfl (cell_one_new _ _ _) (fun x hx=>by simp at hx;subst hx;rfl) (by omega) (by unfold maxLen;omega) (by omega) (by omega) (wr.heap.size+1) (by simp) ?_;intro gA cA w6 hownA hgA hatA hltA;obtain ⟨j1,jf,jR,jT⟩:=WR.out gA cA w6 hgA hownA hatA;have JR:=hid jR;have JT:=hid jT;clear jR jT)
    go_end0
    exact ⟨rfl,JR.out,JT.out⟩
end Go.Proofs.YtaacjjhmojecnaaGreatDoor
