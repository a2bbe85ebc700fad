import Derived.Test.YtaacjjhmojecnaaGreatDoorQ25
import Derived.ArgAppend
import Derived.Test.YtaacjjhmojecnaaGreatDoorQ22
import Derived.Maps.AppendAt
import Derived.Shelf.Abstract
import Derived.BigCall
namespace Go.Proofs.YtaacjjhmojecnaaGreatDoor
open Go.RowKit Go.ScT Go.Proofs
theorem info175:(Tryz.prog.info? 175).map (fun i=>(i.zero,i.size,i.bytes))=some (some (.agg #[.int .i64 0,.int .i64 0]),2,16):=by kernel_rfl
abbrev WRow (w:World) (v:Value) (l:Pls):Prop:=w.ownsRow 0 175 2 v l.length (plC l)
def bump (l:Pls) (z:Nat):Pls:=match l.getLast? with
 | some (x,c)=>if x=z then l.dropLast++[(x,c+1)] else l++[(z,1)]
 | none=>[(z,1)]
def Moved (w:World) (v v':Value):Prop:=v'.ownBlock=v.ownBlock∨∃ g,v'.ownBlock=some g∧w.heap.size≤g
theorem plC_set (l:Pls) (x c d:Nat):(plC (l++[(x,c)])).set (l.length * 2+1) (natV d)=plC (l++[(x,d)]):=by
 have:=plC_len l
 simp only [plC_app,plC]
 rw [List.set_append_right _ _ (by omega),show l.length * 2+1 - (plC l).length=1 by omega]
 rfl
set_option maxHeartbeats 1000000 in
theorem countOne_app_x {w:World} {v:Value} {l:Pls} {z:Nat} (h:WRow w v l) (hl:l.length≤10000) (hz:∀ p,l[l.length - 1]?=some p→p.1≠z) :
 Calls Tryz.prog 181 #[v,natV z] w fun e w'=>∃ v',e=.returned v'∧WRow w' v' (l++[(z,1)])∧Moved w v v'∧Turned (fun b=>v.ownBlock=some b) w w':=by
 obtain ⟨i0,hi,hz0,hz1,hz2⟩:=info_parts info175
 obtain ⟨g,cap,ao,hv,hob,hao⟩:=ownsRow_shape h
 obtain ⟨n,hn⟩:∃ n,n=l.length:=⟨_,rfl⟩
 rw [← hn] at hv hao hl
 have HN:=hid hn
 have HW:Hid (w.ownsRow 0 175 2 (.slice ao n cap) n (plC l)):=by
  have:=h
  unfold WRow at this
  rw [hv,← hn] at this
  exact this
 subst hv
 have FIN:Hid (∀ v' w' k,w'.ownsRow 0 175 2 v' k (plC l++[natV z,natV 1])→k=n+1→(w.alloc (.cells #[.int .i64 (z:Int),.int .i64 1] 175)).grownBy w' (Value.slice ao n cap).ownBlock→(v'.ownBlock=(Value.slice ao n cap).ownBlock∨v'.ownBlock=some (w.alloc (.cells #[.int .i64 (z:Int),.int .i64 1] 175)).heap.size)→∃ v'',Ending.returned v'=.returned v''∧WRow w' v'' (l++[(z,1)])∧Moved w (.slice ao n cap) v''∧Turned (fun b=>(Value.slice ao n cap).ownBlock=some b) w w'):=by
  intro v' w' k ho hk hg hat
  refine ⟨v',rfl,?_,?_,(Turned.ofAlloc w _).trans (Turned.ofGrown hg (fun k hk _=>hk))⟩
  ·have e1:(l++[(z,1)]).length=k:=by rw [hk,HN.out];simp
   unfold WRow
   rw [e1,plC_app]
   exact ho
  ·rcases hat with h | h
   ·exact Or.inl h
   ·exact Or.inr ⟨_,h,by simp⟩
 clear hn h hob
 by_cases h0:n=0
 ·subst h0
  clear hao
  go_enter Tryz.func181,Tryz.ntmps181
  go_wp2_with (at_builtin;refine wpList_append_own_at _ rfl _ _ 173 rfl 0 175 i0 _ 2 16 Tryz.underlying173 hi hz0 hz1 hz2 rfl (by decide) (.slice ao 0 cap) 0 (plC l) rfl (HW.out.alloc _) ⟨w.heap.size,0,none⟩ 1 1 [.int .i64 (z:Int),.int .i64 1] rfl rfl (cell_two_new _ _ _ _) (fun x hx=>by simp at hx;rcases hx with rfl | rfl <;> rfl) (by unfold maxLen;omega) (by omega) (by omega) ?_;intro v' w' hown hgrow _ hat)
  go_ret
  exact FIN.out _ _ _ hown (by omega) hgrow hat
 ·obtain ⟨k,rfl⟩:∃ k,n=k+1:=⟨n - 1,by omega⟩
  obtain rfl:=hao (by omega)
  obtain ⟨p,hp⟩:∃ p,l[l.length - 1]?=some p:=⟨_,List.getElem?_eq_getElem (by have:=HN.out;omega)⟩
  have hpz:=hz p hp
  have hc:=plC_get hp
  have e1:l.length - 1=k:=by have:=HN.out;omega
  rw [e1] at hc
  have hx:w.cell? ⟨g,k * 2,none⟩=some (.int .i64 (p.1:Int)):=by rw [HW.out.cellAt (k * 2) (by omega)];exact hc.1
  have hk1:(0:Int)≤(k:Int):=by omega
  have hne:((p.1:Int) == (z:Int))=false:=by simp;omega
  clear hc hp hpz hao h0 e1 hz
  go_enter Tryz.func181,Tryz.ntmps181
  go_wp2_with (at_builtin;refine wpList_append_own_at _ rfl _ _ 173 rfl 0 175 i0 _ 2 16 Tryz.underlying173 hi hz0 hz1 hz2 rfl (by decide) (.slice (some ⟨g,0,none⟩) (k+1) cap) (k+1) (plC l) rfl (HW.out.alloc _) ⟨w.heap.size,0,none⟩ 1 1 [.int .i64 (z:Int),.int .i64 1] rfl rfl (cell_two_new _ _ _ _) (fun x hx=>by simp at hx;rcases hx with rfl | rfl <;> rfl) (by unfold maxLen;omega) (by omega) (by omega) ?_;intro v' w' hown hgrow _ hat)
  go_ret
  exact FIN.out _ _ _ hown (by omega) hgrow hat
set_option maxHeartbeats 1000000 in
theorem countOne_same_x {w:World} {v:Value} {l:Pls} {z c:Nat} (h:WRow w v (l++[(z,c)])) (hl:l.length≤10000) (hc:c≤10000) :
 Calls Tryz.prog 181 #[v,natV z] w fun e w'=>∃ v',e=.returned v'∧WRow w' v' (l++[(z,c+1)])∧Moved w v v'∧Turned (fun b=>v.ownBlock=some b) w w':=by
 obtain ⟨g,cap,ao,hv,hob,hao⟩:=ownsRow_shape h
 obtain ⟨k,hk⟩:∃ k,k=l.length:=⟨_,rfl⟩
 have e1:(l++[(z,c)]).length=k+1:=by rw [hk];simp
 rw [e1] at hv hao
 obtain rfl:=hao (by omega)
 subst hv
 have hw:w.ownsRow 0 175 2 (.slice (some ⟨g,0,none⟩) (k+1) cap) (k+1) (plC (l++[(z,c)])):=by
  have:=h
  unfold WRow at this
  rw [e1] at this
  exact this
 have hp:(l++[(z,c)])[k]?=some (z,c):=by rw [hk];simp
 have hg:=plC_get hp
 have hx:w.cell? ⟨g,k * 2,none⟩=some (.int .i64 (z:Int)):=by rw [hw.cellAt (k * 2) (by omega)];exact hg.1
 have hx2:w.cell? ⟨g,k * 2+1,none⟩=some (.int .i64 (c:Int)):=by rw [hw.cellAt (k * 2+1) (by omega)];exact hg.2
 have hf:=hw.frozenAt (k * 2+1)
 have FIN:Hid (∀ y:Int,y=(c:Int)+1→∃ v'',Ending.returned (.slice (some ⟨g,0,none⟩) (k+1) cap)=.returned v''∧WRow (w.setCell ⟨g,k * 2+1,none⟩ (.int .i64 y)) v'' (l++[(z,c+1)])∧Moved w (.slice (some ⟨g,0,none⟩) (k+1) cap) v''∧Turned (fun b=>(Value.slice (some ⟨g,0,none⟩) (k+1) cap).ownBlock=some b) w (w.setCell ⟨g,k * 2+1,none⟩ (.int .i64 y))):=by
  intro y hy
  refine ⟨_,rfl,?_,Or.inl rfl,Turned.ofSet w _ _ rfl⟩
  have h2:=(hw.stored (k * 2+1) (natV (c+1))).1
  rw [hk,plC_set] at h2
  have e2:(l++[(z,c+1)]).length=l.length+1:=by simp
  unfold WRow
  rw [e2,hk,show (Value.int .i64 y)=natV (c+1) by rw [hy];rfl]
  exact h2
 have hzz:((z:Int) == (z:Int))=true:=by simp
 have hk1:(0:Int)≤(k:Int):=by omega
 clear hp hg h hw hob hao e1
 have HK:=hid hk
 have hkl:k≤10000:=by omega
 clear hk
 go_enter Tryz.func181,Tryz.ntmps181
 go_wp2
 go_ret
 exact FIN.out _ (by go_num)
theorem countOne_x {w:World} {v:Value} {l:Pls} {z:Nat} (h:WRow w v l) (hl:l.length≤10000) (hc:∀ p∈l,p.2≤10000) :
 Calls Tryz.prog 181 #[v,natV z] w fun e w'=>∃ v',e=.returned v'∧WRow w' v' (bump l z)∧Moved w v v'∧Turned (fun b=>v.ownBlock=some b) w w':=by
 rcases List.eq_nil_or_concat l with rfl | ⟨l',⟨x,c⟩,rfl⟩
 ·exact countOne_app_x (z:=z) h hl (fun p hp=>by simp at hp)
 ·rw [List.concat_eq_append] at *
  unfold bump
  by_cases hx:x=z
  ·subst hx
   simpa using countOne_same_x (l:=l') (c:=c) h (by simp at hl;omega) (hc (x,c) (by simp))
  ·simp only [List.getLast?_append,List.getLast?_singleton,Option.some_or,if_neg hx]
   exact countOne_app_x (z:=z) h hl (fun p hp=>by simp at hp;subst hp;exact hx)
end Go.Proofs.YtaacjjhmojecnaaGreatDoor
namespace Go.Proofs.YtaacjjhmojecnaaGreatDoor
open Go.RowKit Go.ScT Go.Proofs Go.Shelf
set_option maxHeartbeats 400000 in
theorem clo95 (a b num:Int) (B:Nat) (w:World) (hB:w.cell? ⟨B,0,none⟩=some (.int .i64 num)) (hlt:B < w.heap.size) :
 Calls Tryz.prog 164 #[.agg #[.int .i64 a,.int .i64 b],.pointer (some ⟨B,0,none⟩)] w fun e w'=>e=.returned (.bool (a == num))∧Below w.heap.size w w':=by
 have hB':∀ o,(w.alloc o).cell? ⟨B,0,none⟩=some (.int .i64 num):=fun o=>by rw [World.cell?_of_block (Below.heap_alloc _ _ _ hlt)];exact hB
 go_enter Tryz.func164,Tryz.ntmps164
 go_wp2
 go_ret
 exact ⟨rfl,(Below.refl _ _).alloc (Nat.le_refl _) _⟩
theorem enters95:∀ args w,(callFunc 164 args).run Tryz.prog w=.ok (.enter 164 args) w:=enters_of Tryz.func164 (by kernel_rfl) rfl
theorem zeros_two (k:Nat):(Builtin.zeroCells (Value.agg #[.int .i64 0,.int .i64 0]).cells k).toList=List.replicate (k * 2) (.int .i64 0):=by
 apply List.ext_getElem
 ·simp [Builtin.zeroCells,Value.cells]
 ·intro i h1 h2
  simp only [Builtin.zeroCells,Value.cells]
  simp
  have:i % 2=0∨i % 2=1:=by omega
  rcases this with e | e <;> simp [e]
theorem Turned.setMany {Z:Nat→Prop} (b:Nat) (hz:Z b):∀ (vs:List Value) (o:Nat) (w:World),Turned Z w (w.setCells b o vs)
 | [],_,w=>Turned.refl Z w
 | v :: r,o,_=>(Turned.ofSet _ ⟨b,o,none⟩ v hz).trans (Turned.setMany b hz r (o+1) _)
theorem clear_two (w:World) (ty:TypeId) (g o k c:Nat) (hk:0 < k) (hc:∀ j,j < k * 2→(w.cell? ⟨g,o+j,none⟩).isSome=true) (hf:∀ j,j < k * 2→w.frozen? ⟨g,o+j,none⟩=false) :
 (Builtin.clear_ #[173] ty #[.slice (some ⟨g,o,none⟩) k c]).run Tryz.prog w=.ok (.tuple #[]) (w.setCells g o (List.replicate (k * 2) (.int .i64 0))):=by
 have hv:(zeroValue 175).run Tryz.prog w=.ok (.agg #[.int .i64 0,.int .i64 0]) w:=Tryz.zeroValue175 w
 have hst:=run_storeCells_cells (P:=Tryz.prog) g o (List.replicate (k * 2) (.int .i64 0)) 0 w (by simpa using hc) (by simpa using hf) (by intro v hv';rw [List.eq_of_mem_replicate hv'];rfl)
 simp only [Nat.add_zero] at hst
 obtain ⟨m,rfl⟩:∃ m,k=m+1:=⟨k - 1,by omega⟩
 simp [Builtin.clear_,run_underlying Tryz.underlying173,hv,zeros_two,hst]
def less (num:Nat) (l:Pls):Pls:=l.filter (fun p=>p.1 != num)
theorem plC_set2:∀ (m:Pls) (i:Nat) (p:Nat × Nat),((plC m).set (i * 2) (natV p.1)).set (i * 2+1) (natV p.2)=plC (m.set i p)
 | [],i,p=>by simp [plC]
 | q :: r,0,p=>by simp [plC]
 | q :: r,i+1,p=>by
   rw [show (i+1) * 2=i * 2+1+1 by omega]
   simp [plC,plC_set2 r i p]
theorem plC_take:∀ (m:Pls) (i:Nat),(plC m).take (i * 2)=plC (m.take i)
 | [],i=>by simp [plC]
 | q :: r,0=>by simp [plC]
 | q :: r,i+1=>by
   rw [show (i+1) * 2=i * 2+1+1 by omega]
   simp [plC,plC_take r i]
theorem row_short {w:World} {base g n cap i size:Nat} {e:TypeId} {xs:List Value} (h:w.ownsRow base e size (.slice (some ⟨g,0,none⟩) n cap) n xs) (hi:i≤n):w.ownsRow base e size (.slice (some ⟨g,0,none⟩) i cap) i (xs.take (i * size)):=by
 have hm:=Nat.mul_le_mul_right size hi
 refine ⟨by rw [List.length_take,h.1];omega,?_⟩
 rcases h.2 with ⟨h',_⟩ | ⟨g',cap',cur,h',hb,hg,hnc,hcm,hcs,htake⟩
 ·simp at h'
 ·simp only [Value.slice.injEq,Option.some.injEq,Addr.mk.injEq,and_true,true_and] at h'
  obtain ⟨rfl,rfl⟩:=h'
  refine .inr ⟨g,cap,cur,rfl,hb,hg,by omega,hcm,hcs,?_⟩
  rw [← htake,List.take_take,Nat.min_eq_left hm]
theorem row_behind {base g n cap size:Nat} {e:TypeId} {xs:List Value}:∀ (vs:List Value) (o:Nat) (w:World),n * size≤o→w.ownsRow base e size (.slice (some ⟨g,0,none⟩) n cap) n xs→(w.setCells g o vs).ownsRow base e size (.slice (some ⟨g,0,none⟩) n cap) n xs
 | [],_,_,_,h=>h
 | v :: r,o,w,ho,h=>by
   have h1:=(h.stored o v).1
   rw [List.set_eq_of_length_le (by rw [h.1];exact ho)] at h1
   exact row_behind r (o+1) _ (by omega) h1
theorem less_take_succ {l:Pls} {j num:Nat} {p:Nat × Nat} (h:l[j]?=some p):less num (l.take (j+1))=less num (l.take j)++(if p.1=num then [] else [p]):=by
 unfold less
 rw [List.take_add_one,h,List.filter_append]
 by_cases e:p.1=num <;> simp [e]
set_option maxHeartbeats 1000000 in
set_option maxRecDepth 1000000 in
theorem indexPl_x {w:World} {ao:Option Addr} {n cap B num:Nat} {l:Pls} (h:WRow w (.slice ao n cap) l) (hln:n=l.length) (hn:n≤10000) (hB:w.cell? ⟨B,0,none⟩=some (.int .i64 (num:Int))) (hlt:B < w.heap.size) :
 Calls Tryz.prog 234 #[.slice ao n cap,.func (.func 164) #[] #[.pointer (some ⟨B,0,none⟩)]] w fun e w'=>∃ r:Int,e=.returned (.int .i64 r)∧((r=-1∧less num l=l)∨∃ i:Nat,r=(i:Int)∧i < n∧less num (l.take (i+1))=l.take i)∧Below w.heap.size w w':=by
 have HN:=hid hln
 have HH:Hid (∀ k p,l[k]?=some p→∃ g,ao=some ⟨g,0,none⟩∧g < w.heap.size∧w.cell? ⟨g,k * 2,none⟩=some (.int .i64 (p.1:Int))∧w.cell? ⟨g,k * 2+1,none⟩=some (.int .i64 (p.2:Int))):=by
  intro k p hp
  have hk:=(List.getElem?_eq_some_iff.1 hp).1
  obtain ⟨g,cap2,ao2,hv,hob,hao⟩:=ownsRow_shape h
  simp only [Value.slice.injEq] at hv
  obtain ⟨rfl,hl2,rfl⟩:=hv
  obtain rfl:=hao (by omega)
  have hw:w.ownsRow 0 175 2 (.slice (some ⟨g,0,none⟩) n cap) n (plC l):=by have:=h;unfold WRow at this;rw [← hln] at this;exact this
  obtain ⟨cu,bq⟩:=ownsRow_block hw (g:=g) rfl
  have hc:=plC_get hp
  refine ⟨g,rfl,lt_of_block bq,?_,?_⟩
  ·rw [hw.cellAt (k * 2) (by omega)];exact hc.1
  ·rw [hw.cellAt (k * 2+1) (by omega)];exact hc.2
 have e95:=enters95
 clear h hln
 go_enter Tryz.func234,Tryz.ntmps234
 go_wp2
 go_loopw [8] (fun s8 wr=>∃ k:Nat,k≤n∧s8=.int .i64 (k:Int)∧Below w.heap.size w wr∧Hid (less num (l.take k)=l.take k)) (fun s8 _=>n - (intOf s8).toNat)
 case atStart=>exact ⟨0,by omega,rfl,Below.refl _ _,by simp [less,Hid]⟩
 case round =>
  obtain ⟨k,hk,rfl,hbw,HL⟩:=hrel
  by_cases hlk:k < n
  ·obtain ⟨p,hp⟩:∃ p,l[k]?=some p:=⟨_,List.getElem?_eq_getElem (by rw [← HN.out];exact hlk)⟩
   obtain ⟨g,rfl,hg,ha,hb⟩:=HH.out k p hp
   have ha':=(hbw.cell (p:=⟨g,k * 2,none⟩) hg).trans ha
   have hb':=(hbw.cell (p:=⟨g,k * 2+1,none⟩) hg).trans hb
   have hBw:=(hbw.cell (p:=⟨B,0,none⟩) hlt).trans hB
   have hsz:=hbw.size
   have CC:Hid (Calls Tryz.prog 164 #[.agg #[.int .i64 (p.1:Int),.int .i64 (p.2:Int)],.pointer (some ⟨B,0,none⟩)] wr fun e w'=>e=.returned (.bool ((p.1:Int) == (num:Int)))∧Below wr.heap.size wr w'):=clo95 _ _ num B wr hBw (by omega)
   have HP:=hid hp
   clear ha hb hp
   by_cases hab:p.1=num
   ·have hab':((p.1:Int) == (num:Int))=true:=by simp [hab]
    have HF:Hid (less num (l.take (k+1))=l.take k):=by
     show _=_
     rw [less_take_succ HP.out,if_pos hab,HL.out,List.append_nil]
    clear hab
    go_wp2_with (go_at_fn 164;refine CC.out.mono ?_;rintro e w2 ⟨rfl,hb2⟩)
    go_ret
    exact ⟨_,rfl,Or.inr ⟨k,rfl,hlk,HF.out⟩,hbw.trans (hb2.mono hbw.size)⟩
   ·have hab':((p.1:Int) == (num:Int))=false:=by simp;omega
    have HF:Hid (less num (l.take (k+1))=l.take (k+1)):=by
     show _=_
     rw [less_take_succ HP.out,if_neg hab,HL.out,List.take_add_one,HP.out]
     rfl
    clear hab
    go_wp2_with (go_at_fn 164;refine CC.out.mono ?_;rintro e w2 ⟨rfl,hb2⟩)
    go_roundw
    case rel=>exact ⟨k+1,by omega,by go_num,hbw.trans (hb2.mono hbw.size),HF⟩
    case measure=>simp [intOf];omega
  ·have hkz:¬ ((k:Int) < (n:Int)):=by omega
   have HF:Hid (less num l=l):=by
    have:=HL.out
    rwa [List.take_of_length_le (by rw [← HN.out];omega)] at this
   go_wp2
   go_ret
   exact ⟨_,rfl,Or.inl ⟨rfl,HF.out⟩,hbw⟩
theorem row_over {w:World} {g n cap i:Nat} {m:Pls} (h:w.ownsRow 0 175 2 (.slice (some ⟨g,0,none⟩) n cap) n (plC m)) (p:Nat × Nat) :
 ((w.setCell ⟨g,i * 2,none⟩ (.int .i64 (p.1:Int))).setCell ⟨g,i * 2+1,none⟩ (.int .i64 (p.2:Int))).ownsRow 0 175 2 (.slice (some ⟨g,0,none⟩) n cap) n (plC (m.set i p)):=by
 have h2:=((h.stored (i * 2) (natV p.1)).1.stored (i * 2+1) (natV p.2)).1
 rw [plC_set2] at h2
 exact h2
set_option maxHeartbeats 2000000 in
set_option maxRecDepth 1000000 in
theorem deletePl_x {w:World} {ao:Option Addr} {n cap B num:Nat} {l:Pls} (h:WRow w (.slice ao n cap) l) (hln:n=l.length) (hn:n≤10000) (hB:w.cell? ⟨B,0,none⟩=some (.int .i64 (num:Int))) (hlt:B < w.heap.size) (hBo:(Value.slice ao n cap).ownBlock≠some B) :
 Calls Tryz.prog 163 #[.slice ao n cap,.func (.func 164) #[] #[.pointer (some ⟨B,0,none⟩)]] w fun e w'=>e=.returned (.slice ao (less num l).length cap)∧WRow w' (.slice ao (less num l).length cap) (less num l)∧Turned (fun b=>(Value.slice ao n cap).ownBlock=some b) w w':=by
 have CI:=hid (indexPl_x h hln hn hB hlt)
 have HN:=hid hln
 have HW:=hid h
 have HB:=hid hB
 have HBO:=hid hBo
 have e95:=enters95
 clear h hln hB hBo
 go_enter Tryz.func163,Tryz.ntmps163
 go_wp2_with fail
 refine CI.out.mono ?_
 rintro e w1 ⟨r,rfl,hr,hb1⟩
 rcases hr with ⟨rfl,hll⟩ | ⟨i,rfl,hi,hli⟩
 ·have HLL:=hid hll
  clear hll
  go_wp2
  go_ret
  rw [HLL.out,← HN.out]
  refine ⟨rfl,?_,Turned.ofBelow hb1⟩
  obtain ⟨q1,q2⟩:=HW.out
  refine ⟨q1,q2.imp id (fun ⟨g,c,cu,a1,a2,a3,a4⟩=>⟨g,c,cu,a1,a2,by rw [hb1.block g (lt_of_block a3)];exact a3,a4⟩)⟩
 ·have hneg:((i:Int) == -1)=false:=beq_eq_false_iff_ne.2 (by omega)
  have HLI:=hid hli
  obtain ⟨g,cap2,ao2,hv,hob,hao⟩:=ownsRow_shape HW.out
  simp only [Value.slice.injEq] at hv
  obtain ⟨rfl,hl2,rfl⟩:=hv
  obtain rfl:=hao (by omega)
  have HR:Hid (w.ownsRow 0 175 2 (.slice (some ⟨g,0,none⟩) n cap) n (plC l)):=by have:=HW.out;unfold WRow at this;rw [← HN.out] at this;exact this
  have hgB:g≠B:=fun e=>HBO.out (by rw [e];rfl)
  have hcm:cap≤9223372036854775807∧n≤cap:=by
   rcases HR.out.2 with ⟨h',_⟩ | ⟨g',cap',cur,h',hb,hg,hnc,hcm,hcs,htake⟩
   ·simp at h'
   ·simp only [Value.slice.injEq,Option.some.injEq,Addr.mk.injEq,and_true,true_and] at h'
    obtain ⟨rfl,rfl⟩:=h'
    exact ⟨by unfold maxLen at hcm;omega,hnc⟩
  obtain ⟨hcap,hncap⟩:=hcm
  have HR1:Hid (w1.ownsRow 0 175 2 (.slice (some ⟨g,0,none⟩) n cap) n (plC l)):=by
   obtain ⟨q1,q2⟩:=HR.out
   exact ⟨q1,q2.imp id (fun ⟨g,c,cu,a1,a2,a3,a4⟩=>⟨g,c,cu,a1,a2,by rw [hb1.block g (lt_of_block a3)];exact a3,a4⟩)⟩
  clear hli hl2 hob hao
  go_wp2
  go_loopw [5,6] (fun s5 s6 wr=>∃ (i j:Nat) (m:Pls),s5=.int .i64 (i:Int)∧s6=.int .i64 (j:Int)∧i < j∧j≤n∧Hid (Turned (fun b=>b=g) w wr)∧Hid (wr.ownsRow 0 175 2 (.slice (some ⟨g,0,none⟩) n cap) n (plC m))∧Hid (m.length=n∧m.take i=less num (l.take j)∧m.drop j=l.drop j)) (fun _ s6 _=>n - (intOf s6).toNat)
  case atStart=>exact ⟨i,i+1,l,rfl,by go_num,by omega,by omega,Turned.ofBelow hb1,HR1,⟨HN.out.symm,HLI.out.symm,rfl⟩⟩
  case round =>
   obtain ⟨i,j,m,rfl,rfl,hij,hjn,HT,HRr,HM⟩:=hrel
   have hBw:wr.cell? ⟨B,0,none⟩=some (.int .i64 (num:Int)):=(World.cell?_of_block (w:=w) (HT.out.block B hlt (fun e=>hgB e.symm))).trans HB.out
   have hsz:=HT.out.size
   by_cases hj:j < n
   ·obtain ⟨p,hp⟩:∃ p,m[j]?=some p:=⟨_,List.getElem?_eq_getElem (by rw [HM.out.1];exact hj)⟩
    have hpl:l[j]?=some p:=by
     have:=congrArg (fun z=>z[0]?) HM.out.2.2
     simpa [hp] using this.symm
    have hc:=plC_get hp
    have ha:wr.cell? ⟨g,j * 2,none⟩=some (.int .i64 (p.1:Int)):=by rw [HRr.out.cellAt (j * 2) (by omega)];exact hc.1
    have hb:wr.cell? ⟨g,j * 2+1,none⟩=some (.int .i64 (p.2:Int)):=by rw [HRr.out.cellAt (j * 2+1) (by omega)];exact hc.2
    have CC:Hid (∀ o,Calls Tryz.prog 164 #[.agg #[.int .i64 (p.1:Int),.int .i64 (p.2:Int)],.pointer (some ⟨B,0,none⟩)] (wr.alloc o) fun e w'=>e=.returned (.bool ((p.1:Int) == (num:Int)))∧Below (wr.alloc o).heap.size (wr.alloc o) w'):=fun o=>clo95 _ _ num B (wr.alloc o) (by rw [World.cell?_of_block (w:=wr) (Below.heap_alloc wr o B (by omega))];exact hBw) (by simp;omega)
    have HR2:Hid (∀ o w2,Below (wr.alloc o).heap.size (wr.alloc o) w2→w2.ownsRow 0 175 2 (.slice (some ⟨g,0,none⟩) n cap) n (plC m)∧Turned (fun b=>b=g) w w2):=fun o w2 hb2=>⟨by
     obtain ⟨q1,q2⟩:=HRr.out.alloc o
     exact ⟨q1,q2.imp id (fun ⟨g,c,cu,a1,a2,a3,a4⟩=>⟨g,c,cu,a1,a2,by rw [hb2.block g (lt_of_block a3)];exact a3,a4⟩)⟩,HT.out.trans ((Turned.ofAlloc wr o).trans (Turned.ofBelow hb2))⟩
    have hdj:Hid (m.drop (j+1)=l.drop (j+1)):=by
     have:=congrArg (fun z=>z.drop 1) HM.out.2.2
     simpa [List.drop_drop,Hid] using this
    have HPL:=hid hpl
    clear hp hpl hc
    by_cases hab:p.1=num
    ·have hab':((p.1:Int) == (num:Int))=true:=by simp [hab]
     have HM2:Hid (m.length=n∧m.take i=less num (l.take (j+1))∧m.drop (j+1)=l.drop (j+1)):=⟨HM.out.1,by rw [less_take_succ HPL.out,if_pos hab,List.append_nil];exact HM.out.2.1,hdj.out⟩
     clear hab
     go_wp2_with (go_at_fn 164;refine (CC.out _).mono ?_;rintro e w2 ⟨rfl,hb2⟩)
     go_roundw
     case rel=>exact ⟨i,j+1,m,rfl,by go_num,by omega,by omega,(HR2.out _ _ hb2).2,(HR2.out _ _ hb2).1,HM2⟩
     case measure=>simp [intOf];omega
    ·have hab':((p.1:Int) == (num:Int))=false:=by simp;omega
     have HM2:Hid ((m.set i p).length=n∧(m.set i p).take (i+1)=less num (l.take (j+1))∧(m.set i p).drop (j+1)=l.drop (j+1)):=by
      refine ⟨by simp [HM.out.1],?_,?_⟩
      ·rw [less_take_succ HPL.out,if_neg hab,← HM.out.2.1,List.take_add_one,List.take_set_of_le (Nat.le_refl _),List.getElem?_set_self (by have:=HM.out.1;omega)]
       rfl
      ·rw [List.drop_set_of_lt (by omega)]
       exact hdj.out
     clear hab
     go_wp2_with (go_at_fn 164;refine (CC.out _).mono ?_;rintro e w2 ⟨rfl,hb2⟩;have q0:=hb2.cell (p:=⟨wr.heap.size,0,none⟩) (by simp);have q1:=hb2.cell (p:=⟨wr.heap.size,1,none⟩) (by simp);simp at q0 q1;have hr2:=(HR2.out _ _ hb2).1;have HRX:=hid (row_over (i:=i) hr2 p);have HTX:=hid (HR2.out _ _ hb2).2;obtain ⟨pi,hpi⟩:∃ q,m[i]?=some q:=⟨_,List.getElem?_eq_getElem (by have:=HM.out.1;omega)⟩;have k0:=(hr2.cellAt (i * 2) (by omega)).trans (plC_get hpi).1;have k1:=(hr2.cellAt (i * 2+1) (by omega)).trans (plC_get hpi).2;have k2:=hr2.frozenAt (i * 2);have k3:=hr2.frozenAt (i * 2+1);clear hr2 hpi)
     go_roundw
     case rel=>exact ⟨i+1,j+1,m.set i p,by go_num,by go_num,by omega,by omega,HTX.out.trans (Turned.trans (Z:=fun b=>b=g) (Turned.ofSet _ _ _ rfl) (Turned.ofSet _ _ _ rfl)),HRX,HM2⟩
     case measure=>simp [intOf];omega
   ·have hjz:¬ ((j:Int) < (n:Int)):=by omega
    have hej:j=n:=by omega
    have HL2:Hid (m.take i=less num l∧(less num l).length=i):=by
     have h1:=HM.out.2.1
     rw [List.take_of_length_le (l:=l) (by rw [← HN.out];omega)] at h1
     refine ⟨h1,?_⟩
     rw [← h1,List.length_take,HM.out.1]
     omega
    have hthere:∀ q,q < n * 2→(wr.cell? ⟨g,q,none⟩).isSome=true:=fun q hq=>by
     rw [HRr.out.cellAt q hq,List.getElem?_eq_getElem (by rw [plC_len,HM.out.1];exact hq)]
     rfl
    have hcl:=fun ty=>clear_two wr ty g (i * 2) (n - i) (cap - i) (by omega) (fun q hq=>hthere _ (by omega)) (fun q _=>HRr.out.frozenAt _)
    have HF:Hid ((wr.setCells g (i * 2) (List.replicate ((n - i) * 2) (.int .i64 0))).ownsRow 0 175 2 (.slice (some ⟨g,0,none⟩) i cap) i (plC (m.take i))∧Turned (fun b=>b=g) w (wr.setCells g (i * 2) (List.replicate ((n - i) * 2) (.int .i64 0)))) :=
     ⟨row_behind _ _ _ (Nat.le_refl _) (by have:=row_short HRr.out (show i≤n by omega);rwa [plC_take] at this),HT.out.trans (Turned.setMany (Z:=fun b=>b=g) g rfl _ _ _)⟩
    clear hthere hej
    generalize wr.setCells g (i * 2) (List.replicate ((n - i) * 2) (.int .i64 0))=W9 at hcl HF
    go_wp2
    go_ret
    obtain ⟨z1,z2⟩:=HL2.out
    rw [z2]
    refine ⟨rfl,?_,HF.out.2.mono (fun i _ hi=>by rw [hi];rfl)⟩
    unfold WRow
    rw [z2,← z1]
    exact HF.out.1
set_option maxHeartbeats 400000 in
theorem clo93 (a b num:Int) (s:ByteArray) (B:Nat) (w:World) (hB:w.cell? ⟨B,0,none⟩=some (.int .i64 num)) (hlt:B < w.heap.size) :
 Calls Tryz.prog 162 #[.agg #[.int .i64 a,.string s,.int .i64 b],.pointer (some ⟨B,0,none⟩)] w fun e w'=>e=.returned (.bool (a == num))∧Below w.heap.size w w':=by
 have hB':∀ o,(w.alloc o).cell? ⟨B,0,none⟩=some (.int .i64 num):=fun o=>by rw [World.cell?_of_block (Below.heap_alloc _ _ _ hlt)];exact hB
 go_enter Tryz.func162,Tryz.ntmps162
 go_wp2
 go_ret
 exact ⟨rfl,(Below.refl _ _).alloc (Nat.le_refl _) _⟩
theorem enters93:∀ args w,(callFunc 162 args).run Tryz.prog w=.ok (.enter 162 args) w:=enters_of Tryz.func162 (by kernel_rfl) rfl
end Go.Proofs.YtaacjjhmojecnaaGreatDoor
