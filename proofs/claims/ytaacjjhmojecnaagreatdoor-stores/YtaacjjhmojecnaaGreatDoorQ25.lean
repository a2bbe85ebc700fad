import Derived.Test.YtaacjjhmojecnaaGreatDoorP06
import Derived.Test.YtaacjjhmojecnaaGreatDoorRdP
import Derived.Test.YtaacjjhmojecnaaGreatDoorP08
import Derived.Maps.OwnSet
namespace Go.ScT
def blkAt (ps:Pls) (j:Nat):Pls:=(ps.drop (4 * j)).take 4
def headAt (lens:List Nat) (ps:Pls) (j:Nat):Nat × Nat × Nat:=(lastO (blkAt ps j),mxC (blkAt ps j),mnL lens (blkAt ps j))
theorem headsOf_range (lens:List Nat):∀ (f:Nat) (ps:Pls),ps.length≤f→headsOf lens f ps=(List.range ((ps.length+3) / 4)).map (headAt lens ps)
 | 0,ps,h=>by
   have:ps=[]:=List.length_eq_zero_iff.1 (by omega)
   subst this
   simp [headsOf]
 | f+1,ps,h=>by
   unfold headsOf
   by_cases hp:ps=[]
   ·subst hp;simp
   ·have hl:=List.length_pos_iff.2 hp
    rw [if_neg hp,headsOf_range lens f (ps.drop 4) (by simp;omega)]
    have e:(ps.length+3) / 4=((ps.drop 4).length+3) / 4+1:=by simp;omega
    rw [e,List.range_succ_eq_map,List.map_cons,List.map_map]
    have e2:∀ j,headAt lens (ps.drop 4) j=(headAt lens ps ∘ Nat.succ) j:=fun j=>by
     simp only [Function.comp,headAt,blkAt,List.drop_drop]
     rw [show 4+4 * j=4 * (j+1) by omega]
    rw [List.map_congr_left (fun j _=>e2 j)]
    simp [headAt,blkAt]
theorem hdsOf_range (lens:List Nat) (ps:Pls):hdsOf lens ps=(List.range ((ps.length+3) / 4)).map (headAt lens ps):=headsOf_range lens _ ps (Nat.le_refl _)
end Go.ScT
namespace Go.Proofs.YtaacjjhmojecnaaGreatDoor
open Go.RowKit Go.ScT Go.Shelf Go.Proofs
attribute [local go_sem] Oper.semAt_some
set_option maxHeartbeats 1000000 in
theorem chunk205 (ao:Option Addr) (len cap:Nat) (w:World):Calls Tryz.prog 205 #[.slice ao len cap,.int .i64 4] w fun e w'=>e=.returned (.func (.func 256) #[] #[.pointer (some ⟨w.heap.size,0,none⟩),.pointer (some ⟨w.heap.size+1,0,none⟩)])∧w'=(w.alloc (.cells #[.slice ao len cap] 164)).alloc (.cells #[.int .i64 4] 3):=by
 have hmf:∀ (fn:Fn) (first cap:Array Value) (w:World),(Instr.makeFunc fn first cap).run Tryz.prog w=.ok (.func fn first cap) w:=fun _ _ _ _=>rfl
 go_enter Tryz.func205,Tryz.ntmps205
 go_wp2
 go_ret
 exact ⟨rfl,rfl⟩
theorem chunk_stops (n B1 B2 g o len cap:Nat) (hn:1≤n) (hlen:len≤100000) (hlc:len≤cap) (hcap:cap≤maxLen) (w:World) (hl1:B1 < w.heap.size) (hl2:B2 < w.heap.size) (h1:w.cell? ⟨B1,0,none⟩=some (.slice (some ⟨g,o,none⟩) len cap)) (h2:w.cell? ⟨B2,0,none⟩=some (.int .i64 4)) :
 SeqStopsK Fence.wide n Tryz.prog 256 #[.pointer (some ⟨B1,0,none⟩),.pointer (some ⟨B2,0,none⟩)] (fun x:Chk len=>#[chkV g o len x.1]) (KeepB B1 B2) (fun ys=>ys.map (·.1)=List.range ((len+3) / 4)) (fun _=>True) ((len+3) / 4) w:=fun l J Jx W hW hJ _ hY h0 =>
 chunk_in n hn l B1 B2 g o len cap hlen hlc hcap J Jx hY W ((hW.cell (p:=⟨B1,0,none⟩) hl1).trans h1) ((hW.cell (p:=⟨B2,0,none⟩) hl2).trans h2) (fun pre W q hp=>hJ pre W (W.drewN q) none hp ⟨rfl,rfl,rfl,Nat.le_refl _,fun _ _ _=>rfl⟩ (fun r e=>by cases e)) h0
structure LInv (w:World) (lens:List Nat) (ps:Pls) (tok vP dv:Value) (B:Nat) (hs:Hds) (W:World):Prop where
 ex:∃ vH,LAt W (B+1+1) tok vP vH∧HRow W w.heap.size vH hs
 docs:W.heap[B]?=some (.cells #[dv] 82 (0,0))
 res:∃ a b c,W.heap[B+1]?=some (.cells #[a,b,c] 167 (0,0))
 box1:∃ c,W.heap[B+1+1+1]?=some (.cells c 164 (0,0))
 box2:∃ c,W.heap[B+1+1+1+1]?=some (.cells c 3 (0,0))
 below:Below w.heap.size w W
theorem kept_cells {W W':World} {row:Option Nat} {b:Nat} {cs:Array Value} {t:TypeId} {f:Nat × Nat} (h:W.heap[b]?=some (.cells cs t f)) (hg:W.grownBy W' row) (hr:∀ r,row=some r→∃ o:Obj,W.heap[r]?=some o∧o.isCells=false):W'.heap[b]?=some (.cells cs t f):=by
 rw [hg.block b (lt_of_block h) (fun e=>by
  obtain ⟨o,h1,h2⟩:=hr b e.symm
  rw [h] at h1;cases h1;cases h2)]
 exact h
theorem LInv.own {w:World} {lens:List Nat} {ps:Pls} {tok vP dv:Value} {B B':Nat} {len:Nat} {hf:List (Chk len)→Hds} (hB:w.heap.size≤B'):OwnFrom B' (fun pre W=>LInv w lens ps tok vP dv B (hf pre) W):=by
 rintro s W W' row h hg hr
 have hr':=fun r e=>(hr r e).2
 obtain ⟨vH,h1,h2⟩:=h.ex
 obtain ⟨a,b,c,h3⟩:=h.res
 obtain ⟨c1,h4⟩:=h.box1
 obtain ⟨c2,h5⟩:=h.box2
 refine ⟨⟨vH,kept_cells h1 hg hr',h2.kept hg ?_⟩,kept_cells h.docs hg hr',⟨a,b,c,kept_cells h3 hg hr'⟩,⟨c1,kept_cells h4 hg hr'⟩,⟨c2,kept_cells h5 hg hr'⟩,h.below.grown hg h.below.size (fun k e=>Nat.le_trans hB (hr k e).1)⟩
 rcases h2.2 with ⟨rfl,_⟩ | ⟨g,cap,cur,rfl,_,hgb,_⟩
 ·exact .inl rfl
 ·refine .inr fun e'=>?_
  obtain ⟨o,ho,hc⟩:=hr' g (by simpa [Value.ownBlock] using e'.symm)
  rw [hgb] at ho;cases ho;cases hc
theorem oper_round {F:Fence} {n:Nat} {P:Program} {o:Oper} {a:Act} {w:World} {K:Act→World→Prop} {Q:Exit→Act→World→Prop} (l:Nat) (hd:∀ c,o.op≠.defer c) (h:o.wpIn F n P a w K Q):o.wpIn (F.inRound l) n P a w K Q:=by
 refine ⟨h.1,?_⟩
 have h2:=h.2
 rw [Oper.semAt_plain F _ _ hd] at h2
 rw [Oper.semAt_plain (F.inRound l) _ _ hd]
 exact h2
theorem op_round {F:Fence} {n:Nat} {P:Program} {ops:Array Oper} {Q:Exit→Act→World→Prop} (l:Nat) (hd:∀ (j:Nat) o c,ops[j]?=some o→o.op≠.defer c) {i:Nat} {K:Act→World→Prop} {a:Act} {w:World} (h:wpOpIn F n P ops Q i K a w):wpOpIn (F.inRound l) n P ops Q i K a w:=by
 unfold wpOpIn at *
 split
 ·rename_i ho
  simpa [ho] using h
 ·rename_i o ho
  simp only [ho] at h
  split
  ·rename_i hw
   simp only [hw,if_true] at h
   exact oper_round l (fun c=>hd i o c ho) h
  ·rename_i hw
   simp only [hw] at h
   exact h
theorem any_round {F:Fence} {n:Nat} {P:Program} {md:Region.Mode} {ops:Array Oper} {Q:Exit→Act→World→Prop} (l:Nat) (hd:∀ (j:Nat) o c,ops[j]?=some o→o.op≠.defer c):∀ (fuel:Nat) (listed:Array Bool) (a:Act) (w:World),wpAnyIn F n P md ops Q fuel listed a w→wpAnyIn (F.inRound l) n P md ops Q fuel listed a w
 | 0,_,_,_,h=>h
 | fuel+1,_,_,_,h=>⟨h.1,fun i hi=>op_round l hd (wpOpIn_mono (fun a' w' h'=>any_round l hd fuel _ a' w' h') (h.2 i hi))⟩
theorem noDefer_of {ops:Array Oper} (h:(ops.toList.all fun o=>match o.op with | .defer _=>false | _=>true)=true):∀ (j:Nat) o c,ops[j]?=some o→o.op≠.defer c:=by
 intro j o c hj e
 have hm:o∈ops.toList:=by
  rw [← Array.getElem?_toList] at hj
  exact List.mem_of_getElem? hj
 have:=List.all_eq_true.1 h o hm
 rw [e] at this
 cases this
theorem stepIn_append {F:Fence} {n:Nat} {P:Program} {ops:Array Oper} {o:Oper} {a:Act} {w:World} {K:Act→World→Prop} {Q:Exit→Act→World→Prop} {E:Prop} (hgd:o.guard=none) (s x:Operand) (t:TypeId) (ho:o.op=.call { callee:=.builtin .append,args:=#[s,x],argTypes:=#[t,t] }) {v u v':Value} {w':World} (hs:a.eval s=v) (hx:a.eval x=u) (hrun:(Builtin.append_ #[t,t] o.type #[v,u]).run P w=.ok v' w') (h:K (a.put o.dst v') w') :
 if Region.wanted o (yielded ops a.tmps)=true then Oper.wpIn F n P o a w K Q else E:=by
 have hw:Region.wanted o (yielded ops a.tmps)=true:=by simp [Region.wanted,hgd]
 rw [if_pos hw]
 refine ⟨?_,?_⟩
 ·simp [Oper.about,ho,resolve,Target.leads,Sem.run_pure]
 ·rw [Oper.semAt_plain F _ _ (by rw [ho];intro c hc';cases hc')]
  simp [execOp,ho,resolve,invoke,builtin,hs,hx,hrun,Result.andThen]
  exact h
theorem five_new (w:World) (o0 o1 o2 o3 o4:Obj):(((((w.alloc o0).alloc o1).alloc o2).alloc o3).alloc o4).heap[w.heap.size]?=some o0∧(((((w.alloc o0).alloc o1).alloc o2).alloc o3).alloc o4).heap[w.heap.size+1]?=some o1∧(((((w.alloc o0).alloc o1).alloc o2).alloc o3).alloc o4).heap[w.heap.size+1+1]?=some o2∧(((((w.alloc o0).alloc o1).alloc o2).alloc o3).alloc o4).heap[w.heap.size+1+1+1]?=some o3∧(((((w.alloc o0).alloc o1).alloc o2).alloc o3).alloc o4).heap[w.heap.size+1+1+1+1]?=some o4∧(((((w.alloc o0).alloc o1).alloc o2).alloc o3).alloc o4).heap.size=w.heap.size+5∧Below w.heap.size w (((((w.alloc o0).alloc o1).alloc o2).alloc o3).alloc o4):=by
 have up:∀ {W:World} {i:Nat} {o:Obj} (o':Obj),W.heap[i]?=some o→(W.alloc o').heap[i]?=some o:=fun o' h=>(Below.heap_alloc _ _ _ (Array.getElem?_eq_some_iff.1 h).1).trans h
 have n0:=heap_alloc_new w o0
 have n1:=heap_alloc_new (w.alloc o0) o1
 have n2:=heap_alloc_new ((w.alloc o0).alloc o1) o2
 have n3:=heap_alloc_new (((w.alloc o0).alloc o1).alloc o2) o3
 have n4:=heap_alloc_new ((((w.alloc o0).alloc o1).alloc o2).alloc o3) o4
 rw [World.size_alloc] at n1
 rw [World.size_alloc,World.size_alloc] at n2
 rw [World.size_alloc,World.size_alloc,World.size_alloc] at n3
 rw [World.size_alloc,World.size_alloc,World.size_alloc,World.size_alloc] at n4
 refine ⟨up _ (up _ (up _ (up _ n0))),up _ (up _ (up _ n1)),up _ (up _ n2),up _ n3,n4,by simp,?_⟩
 exact (((((Below.refl _ w).alloc (Nat.le_refl _) _).alloc (by simp) _).alloc (by simp;omega) _).alloc (by simp;omega) _).alloc (by simp;omega) _
theorem KeepsOthers.ofTurned {Z:Nat→Prop} {W W':World} (h:Turned Z W W') (hz:∀ k o,Z k→W.heap[k]?=some o→o.isCells=true):KeepsOthers W W':=⟨h.size,fun k o hk ho=>(h.block k (by
 apply Classical.byContradiction;intro hn
 rw [Array.getElem?_eq_none (by omega)] at hk;cases hk) (fun hzk=>by rw [hz k o hzk hk] at ho;cases ho)).trans hk⟩
theorem turned_put {Z:Nat→Prop} (W:World) (l:Nat) (o:Obj) (hz:Z l):Turned Z W (W.putObj l o):=⟨rfl,rfl,rfl,by simp,fun k _ hk=>World.putObj_heap_other (fun e=>hk (e ▸ hz))⟩
theorem list_done {w W:World} {B D:Nat} {a b c tok vP vH:Value} {hs:Hds} (hR:W.heap[B]?=some (.cells #[a,b,c] 167 (0,0))) (hH:HRow W w.heap.size vH hs) (hK:W.heap[D]?=some (.deferred (some []))) (hb:Below w.heap.size w W) (hB:w.heap.size≤B) (hD:w.heap.size≤D) :
 (((W.setCell ⟨B,0,none⟩ tok).setCell ⟨B,1,none⟩ vP).setCell ⟨B,2,none⟩ vH).heap[D]?=some (.deferred (some []))∧((((W.setCell ⟨B,0,none⟩ tok).setCell ⟨B,1,none⟩ vP).setCell ⟨B,2,none⟩ vH).putObj D (.deferred none)).heap[B]?=some (.cells #[tok,vP,vH] 167 (0,0))∧HRow ((((W.setCell ⟨B,0,none⟩ tok).setCell ⟨B,1,none⟩ vP).setCell ⟨B,2,none⟩ vH).putObj D (.deferred none)) w.heap.size vH hs∧Below w.heap.size w ((((W.setCell ⟨B,0,none⟩ tok).setCell ⟨B,1,none⟩ vP).setCell ⟨B,2,none⟩ vH).putObj D (.deferred none)):=by
 have hDB:D≠B:=fun e=>by rw [e,hR] at hK;cases hK
 have r1:=heap_setCell_same W B 0 _ 167 tok hR
 have r2:=heap_setCell_same _ B 1 _ 167 vP r1
 have r3:=heap_setCell_same _ B 2 _ 167 vH r2
 have T:Turned (fun k=>k=B∨k=D) W ((((W.setCell ⟨B,0,none⟩ tok).setCell ⟨B,1,none⟩ vP).setCell ⟨B,2,none⟩ vH).putObj D (.deferred none)):=Turned.trans (Z:=fun k=>k=B∨k=D) (Turned.trans (Z:=fun k=>k=B∨k=D) (Turned.trans (Z:=fun k=>k=B∨k=D) (Turned.ofSet _ _ _ (Or.inl rfl)) (Turned.ofSet _ _ _ (Or.inl rfl))) (Turned.ofSet _ _ _ (Or.inl rfl))) (turned_put _ _ _ (Or.inr rfl))
 refine ⟨?_,?_,?_,?_⟩
 ·rw [Below.heap_setCell _ _ _ _ hDB,Below.heap_setCell _ _ _ _ hDB,Below.heap_setCell _ _ _ _ hDB];exact hK
 ·rw [World.putObj_heap_other (fun e=>hDB e.symm)]
  simpa using r3
 ·refine ownsRow_turned hH T ?_
  rintro g hg (e | e)
  ·obtain ⟨cu,bq⟩:=ownsRow_block hH hg
   rw [e,hR] at bq;cases bq
  ·obtain ⟨cu,bq⟩:=ownsRow_block hH hg
   rw [e,hK] at bq;cases bq
 ·exact below_turned hb T hb.size (by rintro i hi (e | e) <;> omega)
theorem list_round {w W w2:World} {lens:List Nat} {ps:Pls} {tok vP dv:Value} {B:Nat} {hs:Hds} {ao:Option Addr} {cH:Nat} {h3:Nat × Nat × Nat} (hI:LInv w lens ps tok vP dv B hs W) (hL:LAt W (B+1+1) tok vP (.slice ao hs.length cH)) (hH:HRow W w.heap.size (.slice ao hs.length cH) hs) (hb:Below W.heap.size W w2) (hl:hs.length≤100) (hB:B=w.heap.size) (h3l:B+5≤W.heap.size) :
 ∃ gA cA w3,(Builtin.append_ #[165,165] 165 #[.slice ao hs.length cH,.slice (some ⟨w2.heap.size,0,none⟩) 1 1]).run Tryz.prog (w2.alloc (.cells #[natV h3.1,natV h3.2.1,natV h3.2.2] 295))=.ok (.slice (some ⟨gA,0,none⟩) (hs.length+1) cA) w3∧w2.cell? ⟨B+1+1,2,none⟩=some (.slice ao hs.length cH)∧(∀ o,(w2.alloc o).cell? ⟨B+1+1,2,none⟩=some (.slice ao hs.length cH))∧w3.cell? ⟨B+1+1,2,none⟩=some (.slice ao hs.length cH)∧w3.frozen? ⟨B+1+1,2,none⟩=false ∧
   (KeepsOthers W (w3.setCell ⟨B+1+1,2,none⟩ (.slice (some ⟨gA,0,none⟩) (hs.length+1) cA))∧KeepB (B+1+1+1) (B+1+1+1+1) W (w3.setCell ⟨B+1+1,2,none⟩ (.slice (some ⟨gA,0,none⟩) (hs.length+1) cA))∧LInv w lens ps tok vP dv B (hs++[h3]) (w3.setCell ⟨B+1+1,2,none⟩ (.slice (some ⟨gA,0,none⟩) (hs.length+1) cA))):=by
 obtain ⟨i295,hj1,hq0,hq1,hq2⟩:=info_parts info295
 have hL2:LAt w2 (B+1+1) tok vP (.slice ao hs.length cH):=(hb.block _ (lt_of_block hL)).trans hL
 have hH2:HRow w2 w.heap.size (.slice ao hs.length cH) hs:=ownsRow_turned hH (Turned.ofBelow (Z:=fun _=>False) hb) (fun _ _ h=>h)
 have hs1:=hI.below.size
 have hs2:=hb.size
 obtain ⟨gA,cA,w3,hrun,hown,hg,hat,hlt⟩:=run_append_lies (P:=Tryz.prog) (w2.alloc (.cells #[natV h3.1,natV h3.2.1,natV h3.2.2] 295)) 165 165 w.heap.size 295 i295 _ 3 24 Tryz.underlying165 hj1 hq0 hq1 hq2 rfl (by omega) (.slice ao hs.length cH) hs.length (hdC hs) (hH2.alloc _) ⟨w2.heap.size,0,none⟩ 1 1 [natV h3.1,natV h3.2.1,natV h3.2.2] rfl (World.news_of_block (cs:=#[natV h3.1,natV h3.2.1,natV h3.2.2]) (t:=295) (fr:=(0,0)) (heap_alloc_new w2 _)) (by simp [Value.oneCell']) (by omega) (by unfold maxLen;omega) (by omega) (by simp;omega) (w2.heap.size+1) (by simp)
 have hlL:=lt_of_block hL2
 have hne:(Value.slice ao hs.length cH).ownBlock≠some (B+1+1):=fun e=>by
  obtain ⟨cu,bq⟩:=ownsRow_block hH2 e
  exact tag_ne hL2 bq (by decide) rfl
 have h3b:w3.heap[B+1+1]?=some (.cells #[tok,vP,.slice ao hs.length cH] 167 (0,0)):=by
  rw [hg.block (B+1+1) (by simp;omega) (fun e=>hne e.symm),Below.heap_alloc _ _ _ hlL]
  exact hL2
 obtain ⟨k0,k1,k2,kf⟩:=cell_three h3b
 obtain ⟨j0,j1,j2,jf⟩:=cell_three hL2
 obtain ⟨P1,P2,P3⟩:=heads_push (x:=h3) hL2 hH2 hg hown
 have T:Turned (fun i=>i=B+1+1∨(Value.slice ao hs.length cH).ownBlock=some i) W (w3.setCell ⟨B+1+1,2,none⟩ (.slice (some ⟨gA,0,none⟩) (hs.length+1) cA)):=(Turned.ofBelow hb).trans P3
 have hcells:∀ k o,(k=B+1+1∨(Value.slice ao hs.length cH).ownBlock=some k)→W.heap[k]?=some o→o.isCells=true:=by
  rintro k o (rfl | hk) ho
  ·rw [hL] at ho;cases ho;rfl
  ·obtain ⟨cu,bq⟩:=ownsRow_block hH hk
   rw [bq] at ho;cases ho;rfl
 have hz:∀ k,(∃ c t f,W.heap[k]?=some (.cells c t f)∧t≠295)→k≠B+1+1→¬ (k=B+1+1∨(Value.slice ao hs.length cH).ownBlock=some k):=by
  rintro k ⟨c,t,f,hk,ht⟩ hkn (e | e)
  ·exact hkn e
  ·obtain ⟨cu,bq⟩:=ownsRow_block hH e
   exact tag_ne hk bq ht rfl
 have hk:∀ k,(∃ c t f,W.heap[k]?=some (.cells c t f)∧t≠295)→k≠B+1+1→(w3.setCell ⟨B+1+1,2,none⟩ (.slice (some ⟨gA,0,none⟩) (hs.length+1) cA)).heap[k]?=W.heap[k]?:=fun k h1 h2=>by
  obtain ⟨c,t,f,h3,_⟩:=h1
  exact T.block k (lt_of_block h3) (hz k ⟨c,t,f,h3,by assumption⟩ h2)
 obtain ⟨c1,h4⟩:=hI.box1
 obtain ⟨c2,h5⟩:=hI.box2
 obtain ⟨a,b,c,h6⟩:=hI.res
 have e1:=hk (B+1+1+1) ⟨_,_,_,h4,by decide⟩ (by omega)
 have e2:=hk (B+1+1+1+1) ⟨_,_,_,h5,by decide⟩ (by omega)
 have e3:=hk B ⟨_,_,_,hI.docs,by decide⟩ (by omega)
 have e4:=hk (B+1) ⟨_,_,_,h6,by decide⟩ (by omega)
 refine ⟨gA,cA,w3,hrun,j2,fun o=>(World.cell?_of_block (Below.heap_alloc _ _ _ hlL)).trans j2,k2,kf 2,KeepsOthers.ofTurned T hcells,⟨e1,e2⟩,⟨⟨_,P1,?_⟩,e3.trans hI.docs,⟨_,_,_,e4.trans h6⟩,⟨_,e1.trans h4⟩,⟨_,e2.trans h5⟩,below_turned hI.below T hs1 ?_⟩⟩
 ·exact P2
 ·rintro i hi (e | e)
  ·omega
  ·have:=(hH.lt i e).1;omega
set_option maxRecDepth 100000 in
set_option maxHeartbeats 4000000 in
theorem listOf_any {w:World} {base base2 g cap gD cD:Nat} {tk:Bs} {ps:Pls} {ds:List DocP} (hP:PRow w base (.slice (some ⟨g,0,none⟩) ps.length cap) ps) (hD:DRow w base2 (.slice (some ⟨gD,0,none⟩) ds.length cD) ds) (hpl:ps.length≤100) (hps:∀ p∈ps,p.1 < ds.length) (hdl:ds.length≤100) (hx:∀ d∈ds,d.2.2≤1000) (hx2:∀ p∈ps,p.2≤1000) :
 Calls Tryz.prog 128 #[lstV tk,.slice (some ⟨g,0,none⟩) ps.length cap,.slice (some ⟨gD,0,none⟩) ds.length cD] w fun e w'=>∃ vH,e=.returned (.agg #[lstV tk,.slice (some ⟨g,0,none⟩) ps.length cap,vH])∧HRow w' w.heap.size vH (hdsOf (lensOf ds) ps)∧Below w.heap.size w w':=by
 have hmx:Tryz.prog.follows .mixedOrders=true:=by kernel_rfl
 refine (callsIn_wide (n:=5)).1 ?_
 obtain ⟨n,hn⟩:∃ n,n=ps.length:=⟨_,rfl⟩
 obtain ⟨m,hm⟩:∃ m,m=ds.length:=⟨_,rfl⟩
 have HN:=hid hn
 have HM:=hid hm
 rw [← hn,← hm]
 have hf1:Fence.wide.fn 205:=trivial
 have hf2:Fence.wide.fn 206:=trivial
 unfold PRow at hP
 unfold DRow at hD
 rw [← hn] at hP hpl
 rw [← hm] at hD hdl hps
 have HP:=hid hP
 have HD:=hid hD
 have HPS:=hid hps
 have HX:=hid hx
 have HX2:=hid hx2
 clear hP hD hps hx hx2 hn hm
 refine callsIn_of_wp_marks Tryz.func128 rfl trivial ?_ rfl
 simp only [Tryz.ntmps128,List.size_toArray,List.length_cons,List.length_nil,Nat.reduceAdd,Nat.reduceSub,Array.replicate_succ,Array.replicate_zero,List.push_toArray,List.append_toArray,List.nil_append,List.cons_append]
 gi_wp2_with (gi_at_call 205;refine (callsIn_wide.2 (chunk205 _ _ _ _)).mono ?_;rintro e w' ⟨rfl,rfl⟩)
 obtain ⟨q0,q1,q2,q3,q4,q5,q6⟩:=five_new w (.cells #[.slice (some ⟨gD,0,none⟩) m cD] 82) (.cells #[.string ⟨#[]⟩,.slice none 0 0,.slice none 0 0] 167) (.cells #[.string ⟨tk.toArray⟩,.slice (some ⟨g,0,none⟩) n cap,.slice none 0 0] 167) (.cells #[.slice (some ⟨g,0,none⟩) n cap] 164) (.cells #[.int .i64 4] 3)
 generalize (((((w.alloc (Obj.cells #[Value.slice (some ⟨gD,0,none⟩) m cD] 82)).alloc (Obj.cells #[Value.string ⟨#[]⟩,Value.slice none 0 0,Value.slice none 0 0] 167)).alloc (Obj.cells #[Value.string ⟨tk.toArray⟩,Value.slice (some ⟨g,0,none⟩) n cap,Value.slice none 0 0] 167)).alloc (Obj.cells #[Value.slice (some ⟨g,0,none⟩) n cap] 164)).alloc (Obj.cells #[Value.int IntKind.i64 4] 3))=W0 at *
 have hcap:=HP.out.2
 obtain ⟨hnc,hcm⟩:n≤cap∧cap≤maxLen:=by
  rcases hcap with ⟨h,_⟩ | ⟨_,_,_,h,_,_,h1,h2,_⟩
  ·cases h
  ·cases h;exact ⟨h1,h2⟩
 have h0:LInv w (lensOf ds) ps (lstV tk) (.slice (some ⟨g,0,none⟩) n cap) (.slice (some ⟨gD,0,none⟩) m cD) w.heap.size [] W0:=⟨⟨_,q2,by simp [hdC],Or.inl ⟨rfl,rfl⟩⟩,q0,⟨_,_,_,q1⟩,⟨_,q3⟩,⟨_,q4⟩,q6⟩
 have hst:=chunk_stops 4 (w.heap.size+1+1+1) (w.heap.size+1+1+1+1) g 0 n cap (by omega) (by omega) hnc hcm W0 (by omega) (by omega) (by rw [cell_of_block2 q3];rfl) (by rw [cell_of_block2 q4];rfl)
 refine wpIn_rangeFunc_ownF rfl (by omega) (gf:=256) (lb:=#[.pointer (some ⟨w.heap.size+1+1+1,0,none⟩),.pointer (some ⟨w.heap.size+1+1+1+1,0,none⟩)]) rfl trivial (enters_of Tryz.func256 (by kernel_rfl) rfl) hst (fun h k=>KeepB.trans h k)
  (fun W l o o' hl ho _ _=>⟨World.putObj_heap_other (by omega),World.putObj_heap_other (by omega)⟩) (Below.refl _ _) (fun _=>rfl)
  (fun pre W=>LInv w (lensOf ds) ps (lstV tk) (.slice (some ⟨g,0,none⟩) n cap) (.slice (some ⟨gD,0,none⟩) m cD) w.heap.size (pre.map (fun x=>headAt (lensOf ds) ps x.1)) W)
  (fun _ _ _=>False) (LInv.own (by omega)) (fun _ _ _ _ _ hs _ _=>hs) h0
  (fun x=>{ tmps:=#[lstV tk,.slice (some ⟨g,0,none⟩) n cap,.slice (some ⟨gD,0,none⟩) m cD,undef,undef,.pointer (some ⟨w.heap.size,0,none⟩),.pointer (some ⟨w.heap.size+1,0,none⟩),.pointer (some ⟨w.heap.size+1+1,0,none⟩),chkV g 0 n x.1,lstV tk,.slice (some ⟨g,0,none⟩) n cap,.agg #[lstV tk,.slice (some ⟨g,0,none⟩) n cap,.slice none 0 0],.slice (some ⟨g,0,none⟩) n cap,.func (.func 256) #[] #[.pointer (some ⟨w.heap.size+1+1+1,0,none⟩),.pointer (some ⟨w.heap.size+1+1+1+1,0,none⟩)],chkV g 0 n x.1,undef,undef,undef,undef,undef,undef,undef,undef,undef],defers:=[] }) ?assign ?body ?done ?stop
 case assign =>
  intro l x W K hK
  gi_wp2
  exact hK
 case body =>
  rintro l pre x W hI hlt
  obtain ⟨vH,hL,hH⟩:=hI.ex
  obtain ⟨hs,hhs⟩:∃ hs,hs=pre.map (fun x=>headAt (lensOf ds) ps x.1):=⟨_,rfl⟩
  have hh1:hs++[headAt (lensOf ds) ps x.1]=(pre++[x]).map (fun x=>headAt (lensOf ds) ps x.1):=by rw [hhs];simp
  have hhl:hs.length≤100:=by rw [hhs];simp;omega
  rw [← hhs] at hH hI
  refine wpIn_mono (Q:=fun e _ W'=>e=.normal∧KeepsOthers W W'∧KeepB (w.heap.size+1+1+1) (w.heap.size+1+1+1+1) W W'∧LInv w (lensOf ds) ps (lstV tk) (.slice (some ⟨g,0,none⟩) n cap) (.slice (some ⟨gD,0,none⟩) m cD) w.heap.size (hs++[headAt (lensOf ds) ps x.1]) W') ?_ (fun e a' W' ⟨h1,h2,h3,h4⟩=>by subst h1;rw [hh1] at h4;exact ⟨h2,h3,h4⟩)
  obtain ⟨gH,cH,ao,rfl,_,_⟩:=ownsRow_shape hH
  have hsz:=hI.below.size
  obtain ⟨bx,hbx⟩:=hI.box2
  have hB5:=lt_of_block hbx
  have AFT:=fun w2 hb=>hid (list_round (w2:=w2) (h3:=headAt (lensOf ds) ps x.1) hI hL hH hb hhl rfl (by omega))
  have cd:W.cell? ⟨w.heap.size,0,none⟩=some (.slice (some ⟨gD,0,none⟩) m cD):=by rw [cell_of_block2 hI.docs];rfl
  obtain ⟨_,_,c2,_⟩:=cell_three hL
  have hblk:(blkAt ps x.1).length=min 4 (n - 4 * x.1):=by unfold blkAt;rw [List.length_take,List.length_drop,← HN.out]
  have CH:Hid (Calls Tryz.prog 206 #[chkV g 0 n x.1,.slice (some ⟨gD,0,none⟩) m cD] W.drew fun e w'=>e=.returned (.agg #[natV (headAt (lensOf ds) ps x.1).1,natV (headAt (lensOf ds) ps x.1).2.1,natV (headAt (lensOf ds) ps x.1).2.2])∧Below W.heap.size W w'):=by
   have hDW:DRow W base2 (.slice (some ⟨gD,0,none⟩) ds.length cD) ds:=by
    have:=ownsRow_turned HD.out (Turned.ofBelow (Z:=fun _=>False) hI.below) (fun _ _ h=>h)
    rw [HM.out] at this
    unfold DRow
    exact this
   have:=headOf_any (w:=W.drew) (cap:=min 4 (n - 4 * x.1)) (g:=g) (o:=0+4 * x.1 * 2) (ps:=blkAt ps x.1) hDW ?_ ?_ ?_ ?_ ?_ HX.out ?_
   ·rw [← HM.out,hblk] at this
    exact this.mono fun e w' ⟨h1,h2⟩=>⟨h1,⟨h2.os,h2.tape,h2.output,h2.size,h2.block⟩⟩
   ·intro i p hp
    have hPW:=ownsRow_turned HP.out (Turned.ofBelow (Z:=fun _=>False) hI.below) (fun _ _ h=>h)
    have hi:=(List.getElem?_eq_some_iff.1 hp).1
    have hp2:ps[4 * x.1+i]?=some p:=by
     unfold blkAt at hp
     rw [List.getElem?_take] at hp
     split at hp
     ·rwa [List.getElem?_drop] at hp
     ·cases hp
    have hk:=(List.getElem?_eq_some_iff.1 hp2).1
    have hc:=plC_get hp2
    have hn':=HN.out
    refine ⟨?_,?_⟩
    ·show W.cell? _=_
     rw [show 0+4 * x.1 * 2+i * 2=(4 * x.1+i) * 2 by omega,hPW.cellAt _ (by omega)];exact hc.1
    ·show W.cell? _=_
     rw [show 0+4 * x.1 * 2+i * 2+1=(4 * x.1+i) * 2+1 by omega,hPW.cellAt _ (by omega)];exact hc.2
   ·show g < W.heap.size
    have:=(HP.out.lt g rfl).2
    omega
   ·intro p hp
    rw [← HM.out]
    exact HPS.out p (List.mem_of_mem_drop (List.mem_of_mem_take hp))
   ·rw [hblk];omega
   ·rw [← HM.out];omega
   ·intro p hp
    exact HX2.out p (List.mem_of_mem_drop (List.mem_of_mem_take hp))
  have hj:=x.2
  have hcv:chkV g 0 n x.1=.slice (some ⟨g,0+4 * x.1 * 2,none⟩) (min 4 (n - 4 * x.1)) (min 4 (n - 4 * x.1)):=rfl
  generalize headAt (lensOf ds) ps x.1=h3 at *
  obtain ⟨cv,hcv2⟩:∃ cv,chkV g 0 n x.1=cv:=⟨_,rfl⟩
  rw [hcv2] at CH ⊢
  clear hhs hh1 hI hL hH hbx hblk hcv hcv2 hB5 hj q0 q1 q2 q3 q4 q5 q6 h0 hst hcap hnc hcm
  gi_wp2
  refine wpIn_region_any (by assumption) ?_
  refine any_round (F:=Fence.wide) l ?_ _ _ _ _ ?_
  ·exact noDefer_of (by kernel_rfl)
  change wpAnyIn _ _ _ _ _ _ _ _ _ (World.drew _)
  refine wpAnyIn_take (i:=0) (v:=.pointer (some ⟨w.heap.size+1+1,2,none⟩)) rfl rfl (by kernel_rfl) (by kernel_rfl) (by kernel_rfl) (fun _ _ _ h=>h) ⟨Or.inl ⟨by rfl,fun w=>by go_simp⟩,fun _=>rfl⟩ ?_
  refine wpAnyIn_take (i:=2) (v:=cv) rfl rfl (by kernel_rfl) (by kernel_rfl) (by kernel_rfl) (fun _ _ _ h=>h) ⟨Or.inl ⟨by rfl,fun w=>by go_simp⟩,fun _=>rfl⟩ ?_
  refine wpAnyIn_ready (rs:=[1,3]) (by kernel_rfl) (by simp) ?_
  refine AllReadyIn.cons rfl (fun K hK=>?_) (AllReadyIn.cons rfl (fun K hK=>?_) AllReadyIn.nil)
  ·go_simp
   refine hK _ _ ?_
   clear hK K
   refine wpAnyIn_ready (rs:=[3]) (by kernel_rfl) (by simp) ?_
   refine AllReadyIn.cons rfl (fun K hK=>?_) AllReadyIn.nil
   go_simp
   refine hK _ _ ?_
   clear hK K
   refine wpAnyIn_ready (rs:=[4]) (by kernel_rfl) (by simp) ?_
   refine AllReadyIn.cons rfl (fun K hK=>?_) AllReadyIn.nil
   go_simp
   gi_wp2_with (gi_at_call 206;refine (callsIn_wide.2 CH.out).mono ?_;rintro e w2 ⟨rfl,hb2⟩;obtain ⟨gA,cA,w3,hrun,r2,r2a,r3,rf,rF⟩:=(AFT w2 hb2).out;have RF:=hid rF;clear rF)
   refine wpAnyIn_ready (rs:=[5]) (by kernel_rfl) (by simp) ?_
   refine AllReadyIn.cons rfl (fun K hK=>?_) AllReadyIn.nil
   go_simp
   refine hK _ _ ?_
   clear hK K
   refine wpAnyIn_ready (rs:=[6]) (by kernel_rfl) (by simp) ?_
   refine AllReadyIn.cons rfl (fun K hK=>?_) AllReadyIn.nil
   refine stepIn_append rfl _ _ 165 rfl rfl rfl hrun ?_
   refine hK _ _ ?_
   clear hK K
   refine wpAnyIn_ready (rs:=[7]) (by kernel_rfl) (by simp) ?_
   refine AllReadyIn.cons rfl (fun K hK=>?_) AllReadyIn.nil
   go_simp
   refine hK _ _ ?_
   clear hK K
   refine wpAnyIn_ready (rs:=[8]) (by kernel_rfl) (by simp) ?_
   refine AllReadyIn.cons rfl (fun K hK=>?_) AllReadyIn.nil
   go_simp
   refine hK _ _ ?_
   clear hK K
   refine wpAnyIn_done (by kernel_rfl) ?_ _
   exact ⟨rfl,RF.out⟩
  ·go_simp
   refine hK _ _ ?_
   clear hK K
   refine wpAnyIn_ready (rs:=[1,4]) (by kernel_rfl) (by simp) ?_
   refine AllReadyIn.cons rfl (fun K hK=>?_) (AllReadyIn.cons rfl (fun K hK=>?_) AllReadyIn.nil)
   ·go_simp
    refine hK _ _ ?_
    clear hK K
    refine wpAnyIn_ready (rs:=[4]) (by kernel_rfl) (by simp) ?_
    refine AllReadyIn.cons rfl (fun K hK=>?_) AllReadyIn.nil
    go_simp
    gi_wp2_with (gi_at_call 206;refine (callsIn_wide.2 CH.out).mono ?_;rintro e w2 ⟨rfl,hb2⟩;obtain ⟨gA,cA,w3,hrun,r2,r2a,r3,rf,rF⟩:=(AFT w2 hb2).out;have RF:=hid rF;clear rF)
    refine wpAnyIn_ready (rs:=[5]) (by kernel_rfl) (by simp) ?_
    refine AllReadyIn.cons rfl (fun K hK=>?_) AllReadyIn.nil
    go_simp
    refine hK _ _ ?_
    clear hK K
    refine wpAnyIn_ready (rs:=[6]) (by kernel_rfl) (by simp) ?_
    refine AllReadyIn.cons rfl (fun K hK=>?_) AllReadyIn.nil
    refine stepIn_append rfl _ _ 165 rfl rfl rfl hrun ?_
    refine hK _ _ ?_
    clear hK K
    refine wpAnyIn_ready (rs:=[7]) (by kernel_rfl) (by simp) ?_
    refine AllReadyIn.cons rfl (fun K hK=>?_) AllReadyIn.nil
    go_simp
    refine hK _ _ ?_
    clear hK K
    refine wpAnyIn_ready (rs:=[8]) (by kernel_rfl) (by simp) ?_
    refine AllReadyIn.cons rfl (fun K hK=>?_) AllReadyIn.nil
    go_simp
    refine hK _ _ ?_
    clear hK K
    refine wpAnyIn_done (by kernel_rfl) ?_ _
    exact ⟨rfl,RF.out⟩
   ·go_simp
    gi_wp2_with (gi_at_call 206;refine (callsIn_wide.2 CH.out).mono ?_;rintro e w2 ⟨rfl,hb2⟩;obtain ⟨gA,cA,w3,hrun,r2,r2a,r3,rf,rF⟩:=(AFT w2 hb2).out;have RF:=hid rF;clear rF)
    refine wpAnyIn_ready (rs:=[1,5]) (by kernel_rfl) (by simp) ?_
    refine AllReadyIn.cons rfl (fun K hK=>?_) (AllReadyIn.cons rfl (fun K hK=>?_) AllReadyIn.nil)
    ·go_simp
     refine hK _ _ ?_
     clear hK K
     refine wpAnyIn_ready (rs:=[5]) (by kernel_rfl) (by simp) ?_
     refine AllReadyIn.cons rfl (fun K hK=>?_) AllReadyIn.nil
     go_simp
     refine hK _ _ ?_
     clear hK K
     refine wpAnyIn_ready (rs:=[6]) (by kernel_rfl) (by simp) ?_
     refine AllReadyIn.cons rfl (fun K hK=>?_) AllReadyIn.nil
     refine stepIn_append rfl _ _ 165 rfl rfl rfl hrun ?_
     refine hK _ _ ?_
     clear hK K
     refine wpAnyIn_ready (rs:=[7]) (by kernel_rfl) (by simp) ?_
     refine AllReadyIn.cons rfl (fun K hK=>?_) AllReadyIn.nil
     go_simp
     refine hK _ _ ?_
     clear hK K
     refine wpAnyIn_ready (rs:=[8]) (by kernel_rfl) (by simp) ?_
     refine AllReadyIn.cons rfl (fun K hK=>?_) AllReadyIn.nil
     go_simp
     refine hK _ _ ?_
     clear hK K
     refine wpAnyIn_done (by kernel_rfl) ?_ _
     exact ⟨rfl,RF.out⟩
    ·go_simp
     refine hK _ _ ?_
     clear hK K
     refine wpAnyIn_ready (rs:=[1]) (by kernel_rfl) (by simp) ?_
     refine AllReadyIn.cons rfl (fun K hK=>?_) AllReadyIn.nil
     go_simp
     refine hK _ _ ?_
     clear hK K
     refine wpAnyIn_ready (rs:=[6]) (by kernel_rfl) (by simp) ?_
     refine AllReadyIn.cons rfl (fun K hK=>?_) AllReadyIn.nil
     refine stepIn_append rfl _ _ 165 rfl rfl rfl hrun ?_
     refine hK _ _ ?_
     clear hK K
     refine wpAnyIn_ready (rs:=[7]) (by kernel_rfl) (by simp) ?_
     refine AllReadyIn.cons rfl (fun K hK=>?_) AllReadyIn.nil
     go_simp
     refine hK _ _ ?_
     clear hK K
     refine wpAnyIn_ready (rs:=[8]) (by kernel_rfl) (by simp) ?_
     refine AllReadyIn.cons rfl (fun K hK=>?_) AllReadyIn.nil
     go_simp
     refine hK _ _ ?_
     clear hK K
     refine wpAnyIn_done (by kernel_rfl) ?_ _
     exact ⟨rfl,RF.out⟩
 case done =>
  rintro D ys W hD hys hI hK
  obtain ⟨vH,hL,hH⟩:=hI.ex
  obtain ⟨a,b,c,hR⟩:=hI.res
  have hhd:ys.map (fun x=>headAt (lensOf ds) ps x.1)=hdsOf (lensOf ds) ps:=by
   have e1:ys.map (fun x=>headAt (lensOf ds) ps x.1)=(ys.map (·.1)).map (headAt (lensOf ds) ps):=by simp
   rw [e1,hys,hdsOf_range,← HN.out]
  rw [hhd] at hH
  obtain ⟨gH,cH,ao,rfl,_,_⟩:=ownsRow_shape hH
  obtain ⟨c0,c1,c2,_⟩:=cell_three hL
  obtain ⟨d0,d1,d2,df⟩:=cell_three hR
  have df0:=df 0
  have df1:=df 1
  have df2:=df 2
  have FIN:=list_done (tok:=lstV tk) (vP:=.slice (some ⟨g,0,none⟩) n cap) hR hH hK hI.below (by omega) (by omega)
  clear hhd hI q0 q1 q2 q3 q4 q6 h0 hst hcap hnc hcm df
  have F1:=hid FIN
  clear FIN
  gi_wp2
  obtain ⟨f1,f2,f3,f4⟩:=F1.out
  refine ⟨by simp,.inl ⟨_,_,rfl,run_takeDeferred f1,?_⟩⟩
  generalize ((((W.setCell ⟨w.heap.size+1,0,none⟩ (lstV tk)).setCell ⟨w.heap.size+1,1,none⟩ (.slice (some ⟨g,0,none⟩) n cap)).setCell ⟨w.heap.size+1,2,none⟩ (.slice ao (List.length (hdsOf (lensOf ds) ps)) cH)).putObj D (.deferred none))=W4 at f2 f3 f4 ⊢
  obtain ⟨k0,k1,k2,_⟩:=cell_three f2
  exact ⟨.agg #[lstV tk,.slice (some ⟨g,0,none⟩) n cap,.slice ao (List.length (hdsOf (lensOf ds) ps)) cH],by simp [results,Tryz.results128,go_sem,k0,k1,k2],_,rfl,f3,f4⟩
 case stop =>
  rintro D c pre W _ _ h _
  exact h.elim
end Go.Proofs.YtaacjjhmojecnaaGreatDoor
namespace Go.Proofs.YtaacjjhmojecnaaGreatDoor
open Go.RowKit Go.ScT Go.Proofs
theorem ownsMap_reader {w:World} {R R':Value→Option (DataW Unit × List MemPlace)} {k:TypeId} {b n:Nat} {D:DataW Unit} (h:w.ownsMap Tryz.prog k R b n D) (hR:∀ v y,R v=some y→R' v=some y):w.ownsMap Tryz.prog k R' b n D:=by
 obtain ⟨es,clock,hb,F,hs,hD⟩:=h
 have hrd:∀ x∈es.toList,WideElems.rd Tryz.prog k R' x=WideElems.rd Tryz.prog k R x:=by
  intro x hx
  obtain ⟨y,hy⟩:=F.reads x hx
  unfold WideElems.rd at hy ⊢
  cases hk:keyOf Tryz.prog k x.key with
  | none=>rfl
  | some key =>
    rw [hk] at hy
    simp only [Option.bind_some] at hy ⊢
    cases hv:R x.val with
    | none=>rw [hv] at hy;simp at hy
    | some z=>rw [hR _ _ hv]
 refine ⟨es,clock,hb,⟨F.size,F.stamped,fun x hx=>by rw [hrd x hx];exact F.reads x hx⟩,hs,?_⟩
 have hm:es.toList.map (WideElems.rg Tryz.prog k R')=es.toList.map (WideElems.rg Tryz.prog k R):=List.map_congr_left fun x hx=>by
  unfold WideElems.rg
  rw [hrd x hx]
 rw [hD,hm]
theorem ownsMap_turned {w w':World} {Z:Nat→Prop} {H:Type} {R:Value→Option (DataW H × List MemPlace)} {k:TypeId} {b n:Nat} {D:DataW H} (h:w.ownsMap Tryz.prog k R b n D) (ht:Turned Z w w') (hz:¬ Z b):w'.ownsMap Tryz.prog k R b n D:=by
 have hlt:=h.lt
 obtain ⟨es,clock,hb,rest⟩:=h
 exact ⟨es,clock,(ht.block b hlt hz).trans hb,rest⟩
end Go.Proofs.YtaacjjhmojecnaaGreatDoor
