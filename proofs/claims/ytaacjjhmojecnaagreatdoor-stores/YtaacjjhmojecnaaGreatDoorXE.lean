import Derived.Test.YtaacjjhmojecnaaGreatDoorQ28
namespace Go.Proofs.YtaacjjhmojecnaaGreatDoor
open Go.RowKit Go.ScT Go.Proofs Go.Shelf
open Go.Maps (Keyed string_keyed)
def sliceN (v:Value):Option (DataW Unit × List MemPlace):=match v with
 | .slice none 0 0=>some (.nil,[])
 | v=>sliceE v
theorem sliceN_of {v:Value} {y:DataW Unit × List MemPlace} (h:sliceE v=some y):sliceN v=some y:=by
 obtain ⟨g,n,cap,rfl,rfl⟩:=sliceE_inv h
 rfl
theorem sliceN_inv {v:Value} {y:DataW Unit × List MemPlace} (h:sliceN v=some y):(v=.slice none 0 0∧y.1=.nil)∨∃ g n cap,v=.slice (some ⟨g,0,none⟩) n cap∧y.1=dat g n cap:=by
 unfold sliceN at h
 split at h
 ·cases h;exact Or.inl ⟨rfl,rfl⟩
 ·obtain ⟨g,n,cap,rfl,rfl⟩:=sliceE_inv h
  exact Or.inr ⟨g,n,cap,rfl,rfl⟩
theorem dat_ne_nil (g n c:Nat):dat g n c≠.nil:=fun h=>by unfold dat at h;cases h
theorem word_look {w:World} {D:DataW Unit} {β:BT} {F:Bs→Pls} {k:Bs} {pv:Value} {y:DataW Unit × List MemPlace} (h:WordsRel w D β F) (hv:sliceN pv=some y) (hy:y.1=D.atKey (.string k) .nil) :
 WRow w pv (F k)∧((F k=[]∧pv=.slice none 0 0)∨(F k≠[]∧pv=rowV β F k)):=by
 by_cases e:F k=[]
 ·have hh:Maps.has D (.string k)=false:=by
   cases hb:Maps.has D (.string k)
   ·rfl
   ·exact absurd e ((h.has k).1 hb)
  rw [Maps.atKey_of_not_has hh] at hy
  rcases sliceN_inv hv with ⟨rfl,_⟩ | ⟨g,n,cap,rfl,h2⟩
  ·rw [e];exact ⟨World.ownsRow_nil _ _ _ _,Or.inl ⟨rfl,rfl⟩⟩
  ·exact absurd (h2.symm.trans hy) (dat_ne_nil _ _ _)
 ·rw [h.at_ k e] at hy
  rcases sliceN_inv hv with ⟨rfl,h2⟩ | ⟨g,n,cap,rfl,h2⟩
  ·exact absurd (hy.symm.trans h2) (dat_ne_nil _ _ _)
  ·obtain ⟨h3,h4,h5⟩:=dat_inj (h2.symm.trans hy)
   have h6:=h.row k e
   have h7:Value.slice (some ⟨g,0,none⟩) n cap=rowV β F k:=by unfold rowV;rw [h3,h4,h5]
   rw [h7]
   exact ⟨h6,Or.inr ⟨e,rfl⟩⟩
def addF (f:Bs→Pls) (num:Nat) (ws:List Bs):Bs→Pls:=ws.foldl (fun f t=>upd f t (bump (f t) num)) f
theorem addF_snoc (f:Bs→Pls) (num:Nat) (ws:List Bs) (t:Bs):addF f num (ws++[t])=upd (addF f num ws) t (bump (addF f num ws t) num):=by simp [addF,List.foldl_append]
def BndF (f:Bs→Pls) (N:Nat):Prop:=∀ k,(f k).length≤N∧∀ p∈f k,p.2≤N
theorem bump_ne (l:Pls) (z:Nat):bump l z≠[]:=by
 unfold bump
 split
 ·split <;> simp
 ·simp
theorem bump_bnd {l:Pls} {z N:Nat} (h:l.length≤N∧∀ p∈l,p.2≤N):(bump l z).length≤N+1∧∀ p∈bump l z,p.2≤N+1:=by
 rcases List.eq_nil_or_concat l with rfl | ⟨l',⟨x,c⟩,rfl⟩
 ·simp [bump]
 ·rw [List.concat_eq_append] at *
  obtain ⟨h1,h2⟩:=h
  simp at h1
  have h3:=h2 (x,c) (by simp)
  simp at h3
  unfold bump
  simp only [List.getLast?_append,List.getLast?_singleton,Option.some_or]
  split
  ·refine ⟨by simp;omega,fun p hp=>?_⟩
   simp at hp
   rcases hp with hp | rfl
   ·have:=h2 p (by simp [hp]);omega
   ·simp;omega
  ·refine ⟨by simp;omega,fun p hp=>?_⟩
   simp at hp
   rcases hp with hp | rfl | rfl
   ·have:=h2 p (by simp [hp]);omega
   ·simp;omega
   ·simp
theorem BndF.up {f:Bs→Pls} {N z:Nat} {k:Bs} (h:BndF f N):BndF (upd f k (bump (f k) z)) (N+1):=fun k'=>by
 by_cases e:k'=k
 ·subst e;rw [upd_same];exact bump_bnd (h k')
 ·rw [upd_other e];exact ⟨Nat.le_succ_of_le (h k').1,fun p hp=>Nat.le_succ_of_le ((h k').2 p hp)⟩
theorem bufX_doc {w w3:World} {e mw:Nat} {c0 c1 c4 dv dv3:Value} {ds ds3:List DocP} {β:BT} {f:Bs→Pls} {nW:Nat} {DW:DataW Unit} (hb:BufX w e mw c0 c1 c4 dv ds β f nW DW) (ht:Turned (fun b=>dv.ownBlock=some b) w w3) (hD:DRow w3 0 dv3 ds3) (hat:∀ g,dv3.ownBlock=some g→dv.ownBlock=some g∨w.heap.size≤g) :
 BufX (w3.setCell ⟨e,2,none⟩ dv3) e mw c0 c1 c4 dv3 ds3 β f nW DW∧Turned (ZX e mw dv β f) w (w3.setCell ⟨e,2,none⟩ dv3):=by
 have hel:=lt_of_block hb.eng
 have hml:=hb.words.lt
 have hd3:∀ g,dv3.ownBlock=some g→¬ InW β f g∧g≠e∧g≠mw:=fun g hg=>by
  rcases hat g hg with h | h
  ·exact hb.dT g h
  ·exact ⟨fun h'=>by have:=hb.rel.lt h';omega,by omega,by omega⟩
 have E1:w3.heap[e]?=some (.cells #[c0,c1,dv,.map (some mw),c4] 87 (0,0)):=(ht.block e hel (fun h=>(hb.dT e h).2.1 rfl)).trans hb.eng
 have T2:Turned (fun b=>b=e) w3 (w3.setCell ⟨e,2,none⟩ dv3):=Turned.ofSet w3 _ _ rfl
 refine ⟨⟨heap_setCell_same w3 e 2 _ 87 dv3 E1,rowX_turned hD T2 (fun g hg=>(hd3 g hg).2.1),?_,?_,hb.eT,hb.wT,hd3,hb.em⟩,(ht.mono (fun i _ h=>Or.inr (Or.inr (Or.inl h)))).trans (T2.mono (fun i _ h=>Or.inl h))⟩
 ·exact ownsMap_turned (ownsMap_turned hb.words ht (fun h=>(hb.dT _ h).2.2 rfl)) T2 (fun h=>hb.em h.symm)
 ·exact (hb.rel.turned ht (fun g hg h=>(hb.dT g h).1 hg)).turned T2 (fun g hg (h:g=e)=>hb.eT (h ▸ hg))
theorem bufX_word {w w5:World} {e mw num:Nat} {c0 c1 c4 dv pv v5:Value} {ds:List DocP} {β:BT} {f:Bs→Pls} {nW:Nat} {DW:DataW Unit} {k:Bs} {x:Value} (hb:BufX w e mw c0 c1 c4 dv ds β f nW DW) (hn:nW < maxLen) (hp:(f k=[]∧pv=.slice none 0 0)∨(f k≠[]∧pv=rowV β f k)) (hR:WRow w5 v5 (bump (f k) num)) (hv:Moved w pv v5) (ht:Turned (fun b=>pv.ownBlock=some b) w w5) (hkey:keyOf Tryz.prog 9 x=some (.string k)) :
 w5.heap[e]?=some (.cells #[c0,c1,dv,.map (some mw),c4] 87 (0,0))∧∃ w6 β' DW',(Instr.mapUpdate 83 (.map (some mw)) x v5).run Tryz.prog w5=.ok () w6∧BufX w6 e mw c0 c1 c4 dv ds β' (upd f k (bump (f k) num)) (nW+1) DW'∧(∀ b,InW β' (upd f k (bump (f k) num)) b→InW β f b∨w.heap.size≤b)∧Turned (fun b=>b=mw∨InW β f b) w w6:=by
 have hel:=lt_of_block hb.eng
 have hml:=hb.words.lt
 have hpos:=List.length_pos_iff.2 (bump_ne (f k) num)
 obtain ⟨g,cap,ao,hv5,_,hao⟩:=ownsRow_shape hR
 obtain rfl:=hao hpos
 subst hv5
 have hpin:∀ b,pv.ownBlock=some b→f k≠[]∧(β k).1=b:=fun b hpb=>by
  rcases hp with ⟨_,h2⟩ | ⟨h1,h2⟩
  ·rw [h2] at hpb;cases hpb
  ·rw [h2] at hpb;simp [rowV,Value.ownBlock] at hpb;exact ⟨h1,hpb⟩
 have hpW:∀ b,pv.ownBlock=some b→InW β f b:=fun b hpb=>⟨k,(hpin b hpb).1,(hpin b hpb).2⟩
 have hgat:(f k≠[]∧(β k).1=g)∨w.heap.size≤g:=by
  rcases hv with h | ⟨g',h1,h2⟩
  ·exact Or.inl (hpin g (by rw [← h];rfl))
  ·simp [Value.ownBlock] at h1
   subst h1
   exact Or.inr h2
 have hgo:∀ k',k'≠k→f k'≠[]→(β k').1≠g:=fun k' hk' hf' he=>by
  rcases hgat with ⟨h1,h2⟩ | h
  ·exact hk' (hb.rel.apart k' k hf' h1 (he.trans h2.symm))
  ·have:=hb.rel.lt ⟨k',hf',rfl⟩
   omega
 have hgn:∀ b,b < w.heap.size→¬ InW β f b→b≠g:=fun b hb' hn' he=>by
  rcases hgat with ⟨h1,h2⟩ | h
  ·exact hn' ⟨k,h1,h2.trans he.symm⟩
  ·omega
 have own5:=ownsMap_turned hb.words ht (fun h=>hb.wT (hpW _ h))
 obtain ⟨w6,hrun,own6,hg6⟩:=own5.update law9 Tryz.underlying83 hn hkey (sliceE_mk g (bump (f k) num).length cap)
 have T6:Turned (fun b=>b=mw) w5 w6:=Turned.ofGrown hg6 (fun k hk _=>by cases hk;rfl)
 have E5:=(ht.block e hel (fun h=>hb.eT (hpW _ h))).trans hb.eng
 have hR6:WRow w6 (.slice (some ⟨g,0,none⟩) (bump (f k) num).length cap) (bump (f k) num):=rowX_turned hR T6 (fun b hb' h=>by
  simp [Value.ownBlock] at hb'
  subst hb'
  exact hgn mw hml hb.wT h.symm)
 have t06:Turned (fun b=>pv.ownBlock=some b∨b=mw) w w6:=(ht.mono (fun _ _ h=>Or.inl h)).trans (T6.mono (fun _ _ h=>Or.inr h))
 have hrel6:=hb.rel.put (hb.words.tidy law9).isMap (bump_ne (f k) num) hR6 t06 (fun k' hk' hf'=>by
  rintro (h | h)
  ·have h1:=hpin _ h
   exact hk' (hb.rel.apart k' k hf' h1.1 h1.2.symm)
  ·exact hb.wT ⟨k',hf',h⟩) hgo
 have hin:∀ b,InW (upd β k (g,cap)) (upd f k (bump (f k) num)) b→InW β f b∨b=g:=by
  rintro b ⟨k',h1,h2⟩
  by_cases e':k'=k
  ·subst e';rw [upd_same] at h2;exact Or.inr h2.symm
  ·rw [upd_other e'] at h1 h2;exact Or.inl ⟨k',h1,h2⟩
 have nT:∀ b,b < w.heap.size→¬ InW β f b→¬ InW (upd β k (g,cap)) (upd f k (bump (f k) num)) b:=fun b hb' hn' h=>by
  rcases hin b h with h | h
  ·exact hn' h
  ·exact hgn b hb' hn' h
 refine ⟨E5,w6,upd β k (g,cap),_,hrun,⟨(T6.block e (lt_of_block E5) hb.em).trans E5,rowX_turned (rowX_turned hb.docs ht (fun g hg h=>(hb.dT g hg).1 (hpW _ h))) T6 (fun g hg=>(hb.dT g hg).2.2),own6,hrel6,nT e hel hb.eT,nT mw hml hb.wT,fun g' hg'=>⟨nT g' ((hb.docs.lt g' hg').2) (hb.dT g' hg').1,(hb.dT g' hg').2⟩,hb.em⟩,fun b hb'=>?_,t06.mono (fun b _ h=>?_)⟩
 ·rcases hin b hb' with h | h
  ·exact Or.inl h
  ·subst h
   rcases hgat with ⟨h1,h2⟩ | h
   ·exact Or.inl ⟨k,h1,h2⟩
   ·exact Or.inr h
 ·rcases h with h | h
  ·exact Or.inr (hpW _ h)
  ·exact Or.inl h
theorem info141:(Tryz.prog.info? 141).map (fun i=>(i.zero,i.size,i.bytes))=some (some (.agg #[.int .i64 0,.string ⟨#[]⟩,.int .i64 0]),3,32):=by kernel_rfl
set_option maxHeartbeats 4000000 in
set_option maxRecDepth 1000000 in
theorem addX_any {w:World} {e mw:Nat} {c0 c1 c4 dv:Value} {ds:List DocP} {β:BT} {f:Bs→Pls} {nW:Nat} {DW:DataW Unit} (hb:BufX w e mw c0 c1 c4 dv ds β f nW DW) (hds:ds.length≤1000) (hf:BndF f 5000) (hnW:nW≤50000) (num l:Nat) (key:Bs)
 {base:Nat} {v:Value} {ws:List Bs} (hw:w.ownsRow base 9 1 v ws.length (ws.map strV)) (hl:ws.length≤40) (hlen:∀ x∈ws,x.length≤maxLen) (hv:∀ g,v.ownBlock=some g→¬ ZX e mw dv β f g) :
 Calls Tryz.prog 99 #[.pointer (some ⟨e,2,none⟩),.agg #[natV num,lstV key,natV l],v] w fun en w'=>en=.returned (.tuple #[])∧(∃ dv' β' DW',BufX w' e mw c0 c1 c4 dv' (ds++[(num,key,l)]) β' (addF f num ws) (nW+ws.length) DW'∧(∀ g,dv'.ownBlock=some g→dv.ownBlock=some g∨w.heap.size≤g)∧(∀ b,InW β' (addF f num ws) b→InW β f b∨w.heap.size≤b))∧Turned (ZX e mw dv β f) w w':=by
 obtain ⟨i141,hi1,ha0,ha1,ha2⟩:=info_parts info141
 obtain ⟨_,dcap,ao,hdv,_,_⟩:=ownsRow_shape hb.docs
 obtain ⟨dn,hdn⟩:∃ n,n=ds.length:=⟨_,rfl⟩
 rw [← hdn] at hdv hds
 subst hdv
 obtain ⟨gv,capv,aov,rfl,hbv,haov⟩:=ownsRow_shape hw
 have hel:=lt_of_block hb.eng
 have hml:=hb.words.lt
 have HC:Hid (∀ (j:Nat) (x:List UInt8),ws[j]?=some x→aov=some ⟨gv,0,none⟩∧w.cell? ⟨gv,j,none⟩=some (.string ⟨x.toArray⟩)∧gv < w.heap.size∧¬ ZX e mw (.slice ao dn dcap) β f gv):=by
  intro j x hj
  have hlt:=(List.getElem?_eq_some_iff.1 hj).1
  have h1:=haov (by omega)
  have ho:=hw
  rw [h1] at ho hv
  obtain ⟨cu,bq⟩:=ownsRow_block ho (g:=gv) rfl
  refine ⟨h1,?_,lt_of_block bq,hv gv rfl⟩
  rw [ho.cellAt j (by omega),List.getElem?_map,hj]
  rfl
 clear hw hv hbv haov
 have q2:=(cell_five hb.eng).2.2.1
 have f2:=frozen_five hb.eng 2
 have hne:(Value.slice ao dn dcap).ownBlock≠some e:=fun h=>(hb.dT e h).2.1 rfl
 have HB:=hid hb
 have HD:Hid (w.ownsRow 0 141 3 (.slice ao dn dcap) dn (docC ds)):=by
  have:=hb.docs
  unfold DRow at this
  rw [← hdn] at this
  exact this
 have HDN:=hid hdn
 have HF:=hid hf
 clear hb hdn hf
 obtain ⟨N,hN⟩:∃ N,ws.length=N:=⟨_,rfl⟩
 rw [hN] at hl ⊢
 have HNN:=hid hN
 clear hN
 go_enter Tryz.func99,Tryz.ntmps99
 go_wp2_with fail
 have d2:∀ n' o o',(((w.alloc o).drewN n').alloc o').cell? ⟨e,2,none⟩=some (.slice ao dn dcap):=fun n' o o'=>by
  rw [World.cell?_of_block (Below.heap_alloc _ _ _ (by show e < (w.alloc o).heap.size;simp;omega))]
  show (w.alloc o).cell? _=_
  rw [World.cell?_of_block (Below.heap_alloc _ _ _ hel)];exact q2
 have df2:∀ n' o o',(((w.alloc o).drewN n').alloc o').frozen? ⟨e,2,none⟩=false:=fun n' o o'=>by
  rw [World.frozen?_of_block (Below.heap_alloc _ _ _ (by show e < (w.alloc o).heap.size;simp;omega))]
  show (w.alloc o).frozen? _=_
  rw [World.frozen?_of_block (Below.heap_alloc _ _ _ hel)];exact f2
 have TA:∀ n' o o',Turned (fun _=>False) w (((w.alloc o).drewN n').alloc o'):=fun n' o o'=>((Turned.ofAlloc w o).ofDrew n').trans (Turned.ofAlloc _ o')
 have HTA:Hid (∀ n' o o',Turned (fun _=>False) w (((w.alloc o).drewN n').alloc o')):=TA
 have HDO:Hid (∀ n' o o',(((w.alloc o).drewN n').alloc o').ownsRow 0 141 3 (.slice ao dn dcap) dn (docC ds)):=fun n' o o'=>rowX_turned HD.out (TA n' o o') (fun _ _ h=>h)
 have NB:Hid (((w.alloc (.cells #[.int .i64 (num:Int),lstV key,.int .i64 (l:Int)] 141)).alloc (.cells #[.int .i64 (num:Int),lstV key,.int .i64 (l:Int)] 141)).heap[w.heap.size+1]?=some (.cells #[.int .i64 (num:Int),lstV key,.int .i64 (l:Int)] 141 (0,0))):=by
  have:=heap_alloc_new (w.alloc (.cells #[.int .i64 (num:Int),lstV key,.int .i64 (l:Int)] 141)) (.cells #[.int .i64 (num:Int),lstV key,.int .i64 (l:Int)] 141)
  rw [show (w.alloc (.cells #[.int .i64 (num:Int),lstV key,.int .i64 (l:Int)] 141)).heap.size=w.heap.size+1 by simp] at this
  exact this
 clear TA
 go_cut [] from 8 to 17 (fun wx=>∃ gA capA,Hid ((BufX wx e mw c0 c1 c4 (.slice (some ⟨gA,0,none⟩) (dn+1) capA) (ds++[(num,key,l)]) β f nW DW∧Turned (ZX e mw (.slice ao dn dcap) β f) w wx)∧wx.cell? ⟨w.heap.size,0,none⟩=some (.int .i64 (num:Int))∧w.heap.size < wx.heap.size∧((Value.slice ao dn dcap).ownBlock=some gA∨w.heap.size≤gA)))
 case first =>
  go_region_law
   ((refine step_append_lies _ (by rfl) _ _ _ (by rfl) 0 141 i141 _ 3 32 Tryz.underlying82 hi1 ha0 ha1 ha2 rfl (by omega) (.slice ao dn dcap) dn (docC ds) (by rfl) (by exact HDO.out _ _ _)
      ⟨w.heap.size+1,0,none⟩ 1 1 [natV num,lstV key,natV l] (by rfl) (by rfl) (World.news_of_block (cs:=#[natV num,lstV key,natV l]) (t:=141) (fr:=(0,0)) NB.out) (by simp [Value.oneCell'])
      (by omega) (by unfold maxLen;omega) (by omega) (by omega) (w.heap.size+1+1) (by simp) ?_;intro gA capA w3 hownA hgrowA hatA hltA;have e0:=(hgrowA.cell_far ⟨e,2,none⟩ (by simp;omega) (Ne.symm hne)).trans (d2 _ _ _);have e1:=(hgrowA.frozen_far ⟨e,2,none⟩ (by simp;omega) (Ne.symm hne)).trans (df2 _ _ _)))
  all_goals
   have A3:Hid ((BufX (w3.setCell ⟨e,2,none⟩ (.slice (some ⟨gA,0,none⟩) (dn+1) capA)) e mw c0 c1 c4 (.slice (some ⟨gA,0,none⟩) (dn+1) capA) (ds++[(num,key,l)]) β f nW DW∧Turned (ZX e mw (.slice ao dn dcap) β f) w (w3.setCell ⟨e,2,none⟩ (.slice (some ⟨gA,0,none⟩) (dn+1) capA)))∧(w3.setCell ⟨e,2,none⟩ (.slice (some ⟨gA,0,none⟩) (dn+1) capA)).cell? ⟨w.heap.size,0,none⟩=some (.int .i64 (num:Int))∧w.heap.size < (w3.setCell ⟨e,2,none⟩ (.slice (some ⟨gA,0,none⟩) (dn+1) capA)).heap.size∧((Value.slice ao dn dcap).ownBlock=some gA∨w.heap.size≤gA)):=by
    have ht3:Turned (fun b=>(Value.slice ao dn dcap).ownBlock=some b) _ w3:=Turned.ofGrown hgrowA (fun k hk _=>hk)
    have hs3:=ht3.size
    simp at hs3
    have hat':(Value.slice ao dn dcap).ownBlock=some gA∨w.heap.size≤gA:=by
     rcases hatA with h | h
     ·exact Or.inl h
     ·exact Or.inr (by omega)
    have hD3:DRow w3 0 (.slice (some ⟨gA,0,none⟩) (dn+1) capA) (ds++[(num,key,l)]):=by
     unfold DRow
     rw [docC_snoc,show (ds++[(num,key,l)]).length=dn+1 by rw [HDN.out];simp]
     exact hownA
    refine ⟨bufX_doc HB.out (((HTA.out 1 _ _).mono (fun _ _ h=>h.elim)).trans ht3) hD3 (fun g hg=>by simp [Value.ownBlock] at hg;subst hg;exact hat'),?_,by simp [World.setCell];omega,hat'⟩
    rw [World.cell?_of_block (Below.heap_setCell _ _ _ _ (by simp;omega)),World.cell?_of_block (ht3.block w.heap.size (by simp;omega) (fun h=>by have:=(HB.out.docs.lt w.heap.size h).2;omega))]
    show ((w.alloc _).alloc _).cell? _=_
    rw [World.cell?_of_block (Below.heap_alloc _ _ _ (by simp))]
    simp
   go_wp2_with fail
   go_meet
   exact ⟨gA,capA,A3⟩
 case rest =>
  obtain ⟨gA,capA,A3⟩:=hcut
  clear NB HDO HTA d2 df2 q2 f2
  generalize wc=W3 at A3 ⊢
  go_wp2
  go_loopw [20] (fun s20 wr=>∃ (k:Nat) (βr:BT) (Dr:DataW Unit),s20=.int .i64 (k:Int)∧k≤N∧Hid (BufX wr e mw c0 c1 c4 (.slice (some ⟨gA,0,none⟩) (dn+1) capA) (ds++[(num,key,l)]) βr (addF f num (ws.take k)) (nW+k) Dr)∧Hid (BndF (addF f num (ws.take k)) (5000+k))∧Hid (∀ b,InW βr (addF f num (ws.take k)) b→InW β f b∨W3.heap.size≤b)∧Hid (Turned (fun b=>b=mw∨InW β f b) W3 wr)) (fun s20 _=>N - (intOf s20).toNat)
  case atStart=>exact ⟨0,β,DW,rfl,by omega,A3.out.1.1,HF,fun g h=>Or.inl h,Turned.refl _ _⟩
  case round =>
   obtain ⟨k,βr,Dr,rfl,hkN,hBr,hBn,hFr,hTr⟩:=hrel
   by_cases hlt:k < N
   ·obtain ⟨x,hx⟩:∃ x,ws[k]?=some x:=⟨_,List.getElem?_eq_getElem (by rw [HNN.out];omega)⟩
    obtain ⟨rfl,hcx,hgv,hzv⟩:=HC.out k x hx
    have hxl:x.length≤maxLen:=hlen x (List.mem_of_getElem? hx)
    have hkey:keyOf Tryz.prog 9 (.string ⟨x.toArray⟩)=some (.string x):=by
     have:=WideMaps.keyOf_string_mk (P:=Tryz.prog) Tryz.underlying9 (s:=⟨x.toArray⟩) (by show x.toArray.size≤maxLen;simpa using hxl)
     simpa using this
    have HKEY:=hid hkey
    have hnx:ws.take (k+1)=ws.take k++[x]:=by rw [List.take_add_one,hx];rfl
    have HS:Hid (addF f num (ws.take (k+1))=upd (addF f num (ws.take k)) x (bump (addF f num (ws.take k) x) num)):=by
     show _=_
     rw [hnx,addF_snoc]
    have hcx':wr.cell? ⟨gv,k,none⟩=some (.string ⟨x.toArray⟩):=by
     have t1:=A3.out.1.2
     have hn:¬ (gv=mw∨InW β f gv):=by
      rintro (h | h)
      ·exact hzv (Or.inr (Or.inl h))
      ·exact hzv (Or.inr (Or.inr (Or.inr h)))
     rw [World.cell?_of_block (w:=W3) (hTr.out.block gv (by have:=t1.size;omega) hn),World.cell?_of_block (w:=w) (t1.block gv hgv hzv),hcx]
    have hcn:wr.cell? ⟨w.heap.size,0,none⟩=some (.int .i64 (num:Int)):=by
     have hn:¬ (w.heap.size=mw∨InW β f w.heap.size):=by
      rintro (h | h)
      ·omega
      ·have:=HB.out.rel.lt h;omega
     rw [World.cell?_of_block (w:=W3) (hTr.out.block w.heap.size A3.out.2.2.1 hn),A3.out.2.1]
    have hc3:=(cell_five hBr.out.eng).2.2.2.1
    have hBd:=hid (hBr.out.turned (Z:=fun _=>False) (w':=wr.drew) ⟨rfl,rfl,rfl,Nat.le_refl _,fun _ _ _=>rfl⟩ (fun _ _ h=>h))
    obtain ⟨pv,ps,hlk,hpv⟩:=World.ownsMap.lookup (w:=wr.drew) (show wr.drew.ownsMap Tryz.prog 9 sliceN mw (nW+k) Dr from ownsMap_reader hBd.out.words (fun v y h=>sliceN_of h)) law9 Tryz.underlying83 (Tryz.zeroValue173 _) (zd:=.nil) (zp:=[]) rfl hkey
    obtain ⟨hrow,hpc⟩:=word_look (k:=x) hBd.out.rel hpv rfl
    obtain ⟨F,hFe⟩:∃ F,F=addF f num (ws.take k):=⟨_,rfl⟩
    rw [← hFe] at hrow hpc hBr hBd hBn hFr HS
    obtain ⟨_,pc,pa,hpe,_,_⟩:=ownsRow_shape hrow
    obtain ⟨pn,hpn⟩:∃ n,n=(F x).length:=⟨_,rfl⟩
    rw [← hpn] at hpe
    subst hpe
    have C97:=hid (countOne_x (z:=num) hrow (by have:=(hBn.out x).1;omega) (fun p hp=>by have:=(hBn.out x).2 p hp;omega))
    have HPC:=hid hpc
    have HPN:=hid hpn
    have HFE:=hid hFe
    have HBN2:Hid (BndF (upd F x (bump (F x) num)) (5000+k+1)):=hBn.out.up
    have FIN2:Hid (∀ i,i < W3.heap.size→(i=mw∨InW βr F i)→(i=mw∨InW β f i)):=by
     rintro i hi (h | h)
     ·exact Or.inl h
     ·rcases hFr.out i h with h | h
      ·exact Or.inr h
      ·omega
    clear hcx hx hpv hkey hxl hnx hrow hpc hpn hFe
    go_wp2_with fail
    go_region_with (first
     | (go_at_call 181;refine C97.out.mono ?_;rintro en w5 ⟨v5,rfl,hR5,hm5,ht5⟩;obtain ⟨E5,w6,β6,D6,hrun6,hB6,hI6,hT6⟩:=bufX_word (w:=wr.drew) hBd.out (by unfold maxLen;omega) HPC.out hR5 hm5 ht5 HKEY.out;have HB6:=hid hB6;have HI6:=hid hI6;have HT6:=hid hT6;have hc35:=(cell_five E5).2.2.2.1;clear hB6 hI6 hT6 hR5 hm5 ht5 E5))
    all_goals
     go_wp2
     go_roundw
     case rel =>
      refine ⟨k+1,β6,D6,by go_num,by omega,?_,?_,?_,Turned.trans2 (b:=wr.drew) ⟨hTr.out.os,hTr.out.tape,hTr.out.output,hTr.out.size,hTr.out.block⟩ HT6.out FIN2.out⟩
      ·rw [HS.out];exact HB6.out
      ·rw [HS.out];exact HBN2.out
      ·rw [HS.out]
       intro b hb
       rcases HI6.out b hb with h | h
       ·exact hFr.out b h
       ·have h1:=hTr.out.size
        have h2:wr.heap.size≤b:=h
        exact Or.inr (by omega)
     case measure=>simp [intOf];omega
   ·have hkz:¬ ((k:Int) < (N:Int)):=by omega
    have hkN:k=N:=by omega
    have htk:Hid (ws.take k=ws):=List.take_of_length_le (by rw [HNN.out];omega)
    go_wp2
    go_end0
    have hB9:=hBr.out
    have hF9:=hFr.out
    rw [htk.out] at hB9 hF9
    refine ⟨rfl,⟨_,βr,⟨Dr,hkN ▸ hB9⟩,fun g hg=>?_,fun g hg=>?_⟩,A3.out.1.2.trans2 hTr.out ?_⟩
    ·simp [Value.ownBlock] at hg
     subst hg
     rcases A3.out.2.2.2 with h | h
     ·cases ao with
      | none=>cases h
      | some a=>exact Or.inl ⟨a,rfl,by simpa [Value.ownBlock] using h⟩
     ·exact Or.inr h
    ·have:=A3.out.2.2.1
     rcases hF9 g hg with h | h
     ·exact Or.inl h
     ·exact Or.inr (by omega)
    ·rintro i _ (h | h)
     ·exact Or.inr (Or.inl h)
     ·exact Or.inr (Or.inr (Or.inr h))
end Go.Proofs.YtaacjjhmojecnaaGreatDoor
