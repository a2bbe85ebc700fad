import Derived.Test.YtaacjjhmojecnaaGreatDoorQ26
import Derived.Maps.RangeWalk
namespace Go.Proofs.YtaacjjhmojecnaaGreatDoor
open Go.RowKit Go.ScT Go.Proofs Go.Shelf
def zDoc:List Value:=[.int .i64 0,.string ⟨#[]⟩,.int .i64 0]
def zDocs (k:Nat):List Value:=(List.replicate k zDoc).flatten
theorem zDocs_succ (k:Nat):zDocs (k+1)=.int .i64 0 :: .string ⟨#[]⟩ :: .int .i64 0 :: zDocs k:=by simp [zDocs,zDoc,List.replicate_succ]
theorem zDocs_len:∀ k,(zDocs k).length=k * 3
 | 0=>rfl
 | k+1=>by rw [zDocs_succ];simp [zDocs_len k];omega
theorem zDocs_at:∀ (k i:Nat),i < k * 3→(zDocs k)[i]?=some (if i % 3=1 then .string ⟨#[]⟩ else .int .i64 0)
 | 0,i,h=>by omega
 | k+1,0,_=>by rw [zDocs_succ];rfl
 | k+1,1,_=>by rw [zDocs_succ];rfl
 | k+1,2,_=>by rw [zDocs_succ];rfl
 | k+1,i+3,h=>by
   rw [zDocs_succ]
   have:=zDocs_at k i (by omega)
   have e:(i+3) % 3=i % 3:=by omega
   rw [e]
   simpa using this
theorem zeros_three (k:Nat):(Builtin.zeroCells (Value.agg #[.int .i64 0,.string ⟨#[]⟩,.int .i64 0]).cells k).toList=zDocs k:=by
 apply List.ext_getElem?
 intro i
 by_cases h:i < k * 3
 ·rw [zDocs_at k i h]
  have:i % 3=0∨i % 3=1∨i % 3=2:=by omega
  simp only [Builtin.zeroCells,Value.cells]
  rcases this with e | e | e <;> simp [h,e]
 ·have l1:(Builtin.zeroCells (Value.agg #[.int .i64 0,.string ⟨#[]⟩,.int .i64 0]).cells k).toList.length=k * 3:=by simp [Builtin.zeroCells,Value.cells]
  have l2:=zDocs_len k
  rw [List.getElem?_eq_none (by omega),List.getElem?_eq_none (by omega)]
theorem zDocs_one (k:Nat):∀ v∈zDocs k,v.oneCell'=true:=by
 induction k with
 | zero=>intro v hv;simp [zDocs] at hv
 | succ k ih =>
   intro v hv
   rw [zDocs_succ] at hv
   simp at hv
   rcases hv with rfl | rfl | hv
   ·rfl
   ·rfl
   ·rcases hv with rfl | hv
    ·rfl
    ·exact ih v hv
theorem clear_three (w:World) (ty:TypeId) (g o k c:Nat) (hk:0 < k) (hc:∀ j,j < k * 3→(w.cell? ⟨g,o+j,none⟩).isSome=true) (hf:∀ j,j < k * 3→w.frozen? ⟨g,o+j,none⟩=false) :
 (Builtin.clear_ #[82] ty #[.slice (some ⟨g,o,none⟩) k c]).run Tryz.prog w=.ok (.tuple #[]) (w.setCells g o (zDocs k)):=by
 have hv:(zeroValue 141).run Tryz.prog w=.ok (.agg #[.int .i64 0,.string ⟨#[]⟩,.int .i64 0]) w:=Tryz.zeroValue141 w
 have hst:=run_storeCells_cells (P:=Tryz.prog) g o (zDocs k) 0 w (by simpa [zDocs_len] using hc) (by simpa [zDocs_len] using hf) (zDocs_one k)
 simp only [Nat.add_zero] at hst
 obtain ⟨m,rfl⟩:∃ m,k=m+1:=⟨k - 1,by omega⟩
 simp [Builtin.clear_,run_underlying Tryz.underlying82,hv,zeros_three,hst]
def lessD (num:Nat) (l:List DocP):List DocP:=l.filter (fun p=>p.1 != num)
theorem docC_set3:∀ (m:List DocP) (i:Nat) (p:DocP),(((docC m).set (i * 3) (natV p.1)).set (i * 3+1) (lstV p.2.1)).set (i * 3+2) (natV p.2.2)=docC (m.set i p)
 | [],i,p=>by simp [docC]
 | q :: r,0,p=>by simp [docC]
 | q :: r,i+1,p=>by
   rw [show (i+1) * 3=i * 3+1+1+1 by omega]
   simp [docC,docC_set3 r i p]
theorem docC_take:∀ (m:List DocP) (i:Nat),(docC m).take (i * 3)=docC (m.take i)
 | [],i=>by simp [docC]
 | q :: r,0=>by simp [docC]
 | q :: r,i+1=>by
   rw [show (i+1) * 3=i * 3+1+1+1 by omega]
   simp [docC,docC_take r i]
theorem turned_over3 (w:World) (g i:Nat) (v0 v1 v2:Value):Turned (fun b=>b=g) w (((w.setCell ⟨g,i * 3,none⟩ v0).setCell ⟨g,i * 3+1,none⟩ v1).setCell ⟨g,i * 3+2,none⟩ v2) :=
 Turned.trans (Z:=fun b=>b=g) (Turned.trans (Z:=fun b=>b=g) (Turned.ofSet _ _ _ rfl) (Turned.ofSet _ _ _ rfl)) (Turned.ofSet _ _ _ rfl)
theorem lessD_take_succ {l:List DocP} {j num:Nat} {p:DocP} (h:l[j]?=some p):lessD num (l.take (j+1))=lessD num (l.take j)++(if p.1=num then [] else [p]):=by
 unfold lessD
 rw [List.take_add_one,h,List.filter_append]
 by_cases e:p.1=num <;> simp [e]
set_option maxHeartbeats 1000000 in
set_option maxRecDepth 1000000 in
theorem indexDoc_x {w:World} {ao:Option Addr} {n cap B num:Nat} {l:List DocP} (h:DRow w 0 (.slice ao n cap) l) (hln:n=l.length) (hn:n≤10000) (hB:w.cell? ⟨B,0,none⟩=some (.int .i64 (num:Int))) (hlt:B < w.heap.size) :
 Calls Tryz.prog 233 #[.slice ao n cap,.func (.func 162) #[] #[.pointer (some ⟨B,0,none⟩)]] w fun e w'=>∃ r:Int,e=.returned (.int .i64 r)∧((r=-1∧lessD num l=l)∨∃ i:Nat,r=(i:Int)∧i < n∧lessD num (l.take (i+1))=l.take i)∧Below w.heap.size w w':=by
 have HN:=hid hln
 have HH:Hid (∀ k p,l[k]?=some p→∃ g,ao=some ⟨g,0,none⟩∧g < w.heap.size∧w.cell? ⟨g,k * 3,none⟩=some (.int .i64 (p.1:Int))∧w.cell? ⟨g,k * 3+1,none⟩=some (lstV p.2.1)∧w.cell? ⟨g,k * 3+2,none⟩=some (.int .i64 (p.2.2:Int))):=by
  intro k p hp
  have hk:=(List.getElem?_eq_some_iff.1 hp).1
  obtain ⟨g,cap2,ao2,hv,hob,hao⟩:=ownsRow_shape h
  simp only [Value.slice.injEq] at hv
  obtain ⟨rfl,hl2,rfl⟩:=hv
  obtain rfl:=hao (by omega)
  have hw:w.ownsRow 0 141 3 (.slice (some ⟨g,0,none⟩) n cap) n (docC l):=by have:=h;unfold DRow at this;rw [← hln] at this;exact this
  obtain ⟨cu,bq⟩:=ownsRow_block hw (g:=g) rfl
  have hc:=docC_get hp
  refine ⟨g,rfl,lt_of_block bq,?_,?_,?_⟩
  ·rw [hw.cellAt (k * 3) (by omega)];exact hc.1
  ·rw [hw.cellAt (k * 3+1) (by omega)];exact hc.2.1
  ·rw [hw.cellAt (k * 3+2) (by omega)];exact hc.2.2
 have e93:=enters93
 clear h hln
 go_enter Tryz.func233,Tryz.ntmps233
 go_wp2
 go_loopw [8] (fun s8 wr=>∃ k:Nat,k≤n∧s8=.int .i64 (k:Int)∧Below w.heap.size w wr∧Hid (lessD num (l.take k)=l.take k)) (fun s8 _=>n - (intOf s8).toNat)
 case atStart=>exact ⟨0,by omega,rfl,Below.refl _ _,by simp [lessD,Hid]⟩
 case round =>
  obtain ⟨k,hk,rfl,hbw,HL⟩:=hrel
  by_cases hlk:k < n
  ·obtain ⟨p,hp⟩:∃ p,l[k]?=some p:=⟨_,List.getElem?_eq_getElem (by rw [← HN.out];exact hlk)⟩
   obtain ⟨g,rfl,hg,ha,hs,hb⟩:=HH.out k p hp
   have ha':=(hbw.cell (p:=⟨g,k * 3,none⟩) hg).trans ha
   have hs':=(hbw.cell (p:=⟨g,k * 3+1,none⟩) hg).trans hs
   have hb':=(hbw.cell (p:=⟨g,k * 3+2,none⟩) hg).trans hb
   have hBw:=(hbw.cell (p:=⟨B,0,none⟩) hlt).trans hB
   have hsz:=hbw.size
   have CC:Hid (Calls Tryz.prog 162 #[.agg #[.int .i64 (p.1:Int),lstV p.2.1,.int .i64 (p.2.2:Int)],.pointer (some ⟨B,0,none⟩)] wr fun e w'=>e=.returned (.bool ((p.1:Int) == (num:Int)))∧Below wr.heap.size wr w'):=clo93 _ _ num _ B wr hBw (by omega)
   have HP:=hid hp
   clear ha hb hs hp
   by_cases hab:p.1=num
   ·have hab':((p.1:Int) == (num:Int))=true:=by simp [hab]
    have HF:Hid (lessD num (l.take (k+1))=l.take k):=by
     show _=_
     rw [lessD_take_succ HP.out,if_pos hab,HL.out,List.append_nil]
    clear hab
    go_wp2_with (go_at_fn 162;refine CC.out.mono ?_;rintro e w2 ⟨rfl,hb2⟩)
    go_ret
    exact ⟨_,rfl,Or.inr ⟨k,rfl,hlk,HF.out⟩,hbw.trans (hb2.mono hbw.size)⟩
   ·have hab':((p.1:Int) == (num:Int))=false:=by simp;omega
    have HF:Hid (lessD num (l.take (k+1))=l.take (k+1)):=by
     show _=_
     rw [lessD_take_succ HP.out,if_neg hab,HL.out,List.take_add_one,HP.out]
     rfl
    clear hab
    go_wp2_with (go_at_fn 162;refine CC.out.mono ?_;rintro e w2 ⟨rfl,hb2⟩)
    go_roundw
    case rel=>exact ⟨k+1,by omega,by go_num,hbw.trans (hb2.mono hbw.size),HF⟩
    case measure=>simp [intOf];omega
  ·have hkz:¬ ((k:Int) < (n:Int)):=by omega
   have HF:Hid (lessD num l=l):=by
    have:=HL.out
    rwa [List.take_of_length_le (by rw [← HN.out];omega)] at this
   go_wp2
   go_ret
   exact ⟨_,rfl,Or.inl ⟨rfl,HF.out⟩,hbw⟩
theorem docRow_over {w:World} {g n cap i:Nat} {m:List DocP} (h:w.ownsRow 0 141 3 (.slice (some ⟨g,0,none⟩) n cap) n (docC m)) (p:DocP) :
 (((w.setCell ⟨g,i * 3,none⟩ (.int .i64 (p.1:Int))).setCell ⟨g,i * 3+1,none⟩ (lstV p.2.1)).setCell ⟨g,i * 3+2,none⟩ (.int .i64 (p.2.2:Int))).ownsRow 0 141 3 (.slice (some ⟨g,0,none⟩) n cap) n (docC (m.set i p)):=by
 have h2:=(((h.stored (i * 3) (natV p.1)).1.stored (i * 3+1) (lstV p.2.1)).1.stored (i * 3+2) (natV p.2.2)).1
 rw [docC_set3] at h2
 exact h2
set_option maxHeartbeats 2000000 in
set_option maxRecDepth 1000000 in
theorem deleteDoc_x {w:World} {ao:Option Addr} {n cap B num:Nat} {l:List DocP} (h:DRow w 0 (.slice ao n cap) l) (hln:n=l.length) (hn:n≤10000) (hB:w.cell? ⟨B,0,none⟩=some (.int .i64 (num:Int))) (hlt:B < w.heap.size) (hBo:(Value.slice ao n cap).ownBlock≠some B) :
 Calls Tryz.prog 161 #[.slice ao n cap,.func (.func 162) #[] #[.pointer (some ⟨B,0,none⟩)]] w fun e w'=>e=.returned (.slice ao (lessD num l).length cap)∧DRow w' 0 (.slice ao (lessD num l).length cap) (lessD num l)∧Turned (fun b=>(Value.slice ao n cap).ownBlock=some b) w w':=by
 have CI:=hid (indexDoc_x h hln hn hB hlt)
 have HN:=hid hln
 have HW:=hid h
 have HB:=hid hB
 have HBO:=hid hBo
 have e93:=enters93
 clear h hln hB hBo
 go_enter Tryz.func161,Tryz.ntmps161
 go_wp2_with fail
 refine CI.out.mono ?_
 rintro e w1 ⟨r,rfl,hr,hb1⟩
 rcases hr with ⟨rfl,hll⟩ | ⟨i,rfl,hi,hli⟩
 ·have HLL:=hid hll
  clear hll
  go_wp2
  go_ret
  rw [HLL.out,← HN.out]
  refine ⟨rfl,?_,Turned.ofBelow hb1⟩
  obtain ⟨q1,q2⟩:=HW.out
  refine ⟨q1,q2.imp id (fun ⟨g,c,cu,a1,a2,a3,a4⟩=>⟨g,c,cu,a1,a2,by rw [hb1.block g (lt_of_block a3)];exact a3,a4⟩)⟩
 ·have hneg:((i:Int) == -1)=false:=beq_eq_false_iff_ne.2 (by omega)
  have HLI:=hid hli
  obtain ⟨g,cap2,ao2,hv,hob,hao⟩:=ownsRow_shape HW.out
  simp only [Value.slice.injEq] at hv
  obtain ⟨rfl,hl2,rfl⟩:=hv
  obtain rfl:=hao (by omega)
  have HR:Hid (w.ownsRow 0 141 3 (.slice (some ⟨g,0,none⟩) n cap) n (docC l)):=by have:=HW.out;unfold DRow at this;rw [← HN.out] at this;exact this
  have hgB:g≠B:=fun e=>HBO.out (by rw [e];rfl)
  have hcm:cap≤9223372036854775807∧n≤cap:=by
   rcases HR.out.2 with ⟨h',_⟩ | ⟨g',cap',cur,h',hb,hg,hnc,hcm,hcs,htake⟩
   ·simp at h'
   ·simp only [Value.slice.injEq,Option.some.injEq,Addr.mk.injEq,and_true,true_and] at h'
    obtain ⟨rfl,rfl⟩:=h'
    exact ⟨by unfold maxLen at hcm;omega,hnc⟩
  obtain ⟨hcap,hncap⟩:=hcm
  have HR1:Hid (w1.ownsRow 0 141 3 (.slice (some ⟨g,0,none⟩) n cap) n (docC l)):=by
   obtain ⟨q1,q2⟩:=HR.out
   exact ⟨q1,q2.imp id (fun ⟨g,c,cu,a1,a2,a3,a4⟩=>⟨g,c,cu,a1,a2,by rw [hb1.block g (lt_of_block a3)];exact a3,a4⟩)⟩
  clear hli hl2 hob hao
  go_wp2
  go_loopw [5,6] (fun s5 s6 wr=>∃ (i j:Nat) (m:List DocP),s5=.int .i64 (i:Int)∧s6=.int .i64 (j:Int)∧i < j∧j≤n∧Hid (Turned (fun b=>b=g) w wr)∧Hid (wr.ownsRow 0 141 3 (.slice (some ⟨g,0,none⟩) n cap) n (docC m))∧Hid (m.length=n∧m.take i=lessD num (l.take j)∧m.drop j=l.drop j)) (fun _ s6 _=>n - (intOf s6).toNat)
  case atStart=>exact ⟨i,i+1,l,rfl,by go_num,by omega,by omega,Turned.ofBelow hb1,HR1,⟨HN.out.symm,HLI.out.symm,rfl⟩⟩
  case round =>
   obtain ⟨i,j,m,rfl,rfl,hij,hjn,HT,HRr,HM⟩:=hrel
   have hBw:wr.cell? ⟨B,0,none⟩=some (.int .i64 (num:Int)):=(World.cell?_of_block (w:=w) (HT.out.block B hlt (fun e=>hgB e.symm))).trans HB.out
   have hsz:=HT.out.size
   by_cases hj:j < n
   ·obtain ⟨p,hp⟩:∃ p,m[j]?=some p:=⟨_,List.getElem?_eq_getElem (by rw [HM.out.1];exact hj)⟩
    have hpl:l[j]?=some p:=by
     have:=congrArg (fun z=>z[0]?) HM.out.2.2
     simpa [hp] using this.symm
    have hc:=docC_get hp
    have ha:wr.cell? ⟨g,j * 3,none⟩=some (.int .i64 (p.1:Int)):=by rw [HRr.out.cellAt (j * 3) (by omega)];exact hc.1
    have hs:wr.cell? ⟨g,j * 3+1,none⟩=some (lstV p.2.1):=by rw [HRr.out.cellAt (j * 3+1) (by omega)];exact hc.2.1
    have hb:wr.cell? ⟨g,j * 3+2,none⟩=some (.int .i64 (p.2.2:Int)):=by rw [HRr.out.cellAt (j * 3+2) (by omega)];exact hc.2.2
    have CC:Hid (∀ o,Calls Tryz.prog 162 #[.agg #[.int .i64 (p.1:Int),lstV p.2.1,.int .i64 (p.2.2:Int)],.pointer (some ⟨B,0,none⟩)] (wr.alloc o) fun e w'=>e=.returned (.bool ((p.1:Int) == (num:Int)))∧Below (wr.alloc o).heap.size (wr.alloc o) w'):=fun o=>clo93 _ _ num _ B (wr.alloc o) (by rw [World.cell?_of_block (w:=wr) (Below.heap_alloc wr o B (by omega))];exact hBw) (by simp;omega)
    have HR2:Hid (∀ o w2,Below (wr.alloc o).heap.size (wr.alloc o) w2→w2.ownsRow 0 141 3 (.slice (some ⟨g,0,none⟩) n cap) n (docC m)∧Turned (fun b=>b=g) w w2):=fun o w2 hb2=>⟨by
     obtain ⟨q1,q2⟩:=HRr.out.alloc o
     exact ⟨q1,q2.imp id (fun ⟨g,c,cu,a1,a2,a3,a4⟩=>⟨g,c,cu,a1,a2,by rw [hb2.block g (lt_of_block a3)];exact a3,a4⟩)⟩,HT.out.trans ((Turned.ofAlloc wr o).trans (Turned.ofBelow hb2))⟩
    have hdj:Hid (m.drop (j+1)=l.drop (j+1)):=by
     have:=congrArg (fun z=>z.drop 1) HM.out.2.2
     simpa [List.drop_drop,Hid] using this
    have HPL:=hid hpl
    clear hp hpl hc
    by_cases hab:p.1=num
    ·have hab':((p.1:Int) == (num:Int))=true:=by simp [hab]
     have HM2:Hid (m.length=n∧m.take i=lessD num (l.take (j+1))∧m.drop (j+1)=l.drop (j+1)):=⟨HM.out.1,by rw [lessD_take_succ HPL.out,if_pos hab,List.append_nil];exact HM.out.2.1,hdj.out⟩
     clear hab
     go_wp2_with (go_at_fn 162;refine (CC.out _).mono ?_;rintro e w2 ⟨rfl,hb2⟩)
     go_roundw
     case rel=>exact ⟨i,j+1,m,rfl,by go_num,by omega,by omega,(HR2.out _ _ hb2).2,(HR2.out _ _ hb2).1,HM2⟩
     case measure=>simp [intOf];omega
    ·have hab':((p.1:Int) == (num:Int))=false:=by simp;omega
     have HM2:Hid ((m.set i p).length=n∧(m.set i p).take (i+1)=lessD num (l.take (j+1))∧(m.set i p).drop (j+1)=l.drop (j+1)):=by
      refine ⟨by simp [HM.out.1],?_,?_⟩
      ·rw [lessD_take_succ HPL.out,if_neg hab,← HM.out.2.1,List.take_add_one,List.take_set_of_le (Nat.le_refl _),List.getElem?_set_self (by have:=HM.out.1;omega)]
       rfl
      ·rw [List.drop_set_of_lt (by omega)]
       exact hdj.out
     clear hab
     go_wp2_with (go_at_fn 162;refine (CC.out _).mono ?_;rintro e w2 ⟨rfl,hb2⟩;have q0:=hb2.cell (p:=⟨wr.heap.size,0,none⟩) (by simp);have q1:=hb2.cell (p:=⟨wr.heap.size,1,none⟩) (by simp);have q2:=hb2.cell (p:=⟨wr.heap.size,2,none⟩) (by simp);simp at q0 q1 q2;have hr2:=(HR2.out _ _ hb2).1;have HRX:=hid (docRow_over (i:=i) hr2 p);have HTX:=hid (HR2.out _ _ hb2).2;obtain ⟨pi,hpi⟩:∃ q,m[i]?=some q:=⟨_,List.getElem?_eq_getElem (by have:=HM.out.1;omega)⟩;have k0:=(hr2.cellAt (i * 3) (by omega)).trans (docC_get hpi).1;have k1:=(hr2.cellAt (i * 3+1) (by omega)).trans (docC_get hpi).2.1;have k1b:=(hr2.cellAt (i * 3+2) (by omega)).trans (docC_get hpi).2.2;have k2:=hr2.frozenAt (i * 3);have k3:=hr2.frozenAt (i * 3+1);have k4:=hr2.frozenAt (i * 3+2);clear hr2 hpi)
     go_roundw
     case rel=>exact ⟨i+1,j+1,m.set i p,by go_num,by go_num,by omega,by omega,HTX.out.trans (turned_over3 _ g _ _ _ _),HRX,HM2⟩
     case measure=>simp [intOf];omega
   ·have hjz:¬ ((j:Int) < (n:Int)):=by omega
    have hej:j=n:=by omega
    have HL2:Hid (m.take i=lessD num l∧(lessD num l).length=i):=by
     have h1:=HM.out.2.1
     rw [List.take_of_length_le (l:=l) (by rw [← HN.out];omega)] at h1
     refine ⟨h1,?_⟩
     rw [← h1,List.length_take,HM.out.1]
     omega
    have hthere:∀ q,q < n * 3→(wr.cell? ⟨g,q,none⟩).isSome=true:=fun q hq=>by
     rw [HRr.out.cellAt q hq,List.getElem?_eq_getElem (by rw [docC_len,HM.out.1];exact hq)]
     rfl
    have hcl:=fun ty=>clear_three wr ty g (i * 3) (n - i) (cap - i) (by omega) (fun q hq=>hthere _ (by omega)) (fun q _=>HRr.out.frozenAt _)
    have HF:Hid ((wr.setCells g (i * 3) (zDocs (n - i))).ownsRow 0 141 3 (.slice (some ⟨g,0,none⟩) i cap) i (docC (m.take i))∧Turned (fun b=>b=g) w (wr.setCells g (i * 3) (zDocs (n - i)))) :=
     ⟨row_behind _ _ _ (Nat.le_refl _) (by have:=row_short HRr.out (show i≤n by omega);rwa [docC_take] at this),HT.out.trans (Turned.setMany (Z:=fun b=>b=g) g rfl _ _ _)⟩
    clear hthere hej
    generalize wr.setCells g (i * 3) (zDocs (n - i))=W9 at hcl HF
    go_wp2
    go_ret
    obtain ⟨z1,z2⟩:=HL2.out
    rw [z2]
    refine ⟨rfl,?_,HF.out.2.mono (fun i _ hi=>by rw [hi];rfl)⟩
    unfold DRow
    rw [z2,← z1]
    exact HF.out.1
end Go.Proofs.YtaacjjhmojecnaaGreatDoor
namespace Go.ScT
open Go Go.ChangeMaps Go.MapKept Go.WideShapes
open Go.WideElems (Fit rd rg pl rd_key rd_val rg_of rd_mk other_key)
open Go.Maps (Keyed)
theorem ranges_put {H:Type} {P:Program} {k:TypeId} {R:Value→Option (DataW H × List MemPlace)} {w:World} {b r n:Nat} {D:DataW H} {left:Lit→Bool} {cnt:Nat} {t e:TypeId} {z:Value}
 (h:w.ranges P k R b r n D left cnt) (K:Keyed P k) (ht:P.underlying t=some (.map k e)) (hz:(zeroValue e).run P w=.ok z w) {key val:Value} {kl:Lit} (hkey:keyOf P k key=some kl)
 {yv:DataW H × List MemPlace} (hn:n < maxLen) (hv:R val=some yv) {d0:DataW H} (hthere:∀ zd,D.atKey kl zd=d0) :
 ∃ w',(Instr.mapUpdate t (.map (some b)) key val).run P w=.ok () w'∧w'.ranges P k R b r n (D.put kl yv.1) left cnt∧w.grownBy w' (some b)∧w'.heap.size=w.heap.size:=by
 have hne:=h.ne
 obtain ⟨es,clock,since,seen,c0,hb,F,hs,rfl,hr,hold,hcnt,hl1,hl2,hsc,hsk⟩:=h
 rcases K.find w hkey es.toList F.keys with ⟨h1,h2⟩ | ⟨j,e0,h1,h2,h3⟩
 ·exfalso
  rcases Maps.fit_look false K ht hz hb F hkey with ⟨_,_,hat⟩ | ⟨e0,y,hm,hk0,_⟩
  ·have h5:=((hat (.lit (.bool true))).symm.trans (hthere (.lit (.bool true)))).trans ((hat (.lit (.bool false))).symm.trans (hthere (.lit (.bool false)))).symm
   cases h5
  ·exact h2 e0 hm hk0
 ·have hj:es[j]?=some e0:=by simpa using h2
  have he0:e0∈es.toList:=List.mem_of_getElem? h2
  have hkeyf:∀ e',es[j]?=some e'→({ e' with key:=key,val:=val }:MapEntry).key=e'.key:=fun e' he'=>by rw [hj] at he';cases he';exact h3.symm
  have hlist:(es.modify j (fun e'=>{ e' with key:=key,val:=val })).toList=es.toList.set j { e0 with key:=key,val:=val }:=by rw [Array.toList_modify,modify_eq_set _ _ _ _ h2]
  have hrg:(rg P k R { e0 with key:=key,val:=val }).1=(rg P k R e0).1:=by
   obtain ⟨y,hy⟩:=F.reads e0 he0
   have hk1:=rd_key hy
   rw [h3,hkey] at hk1
   rw [rg_of hy,rg_of (rd_mk hkey hv)]
   exact Option.some.inj hk1
  have hmem:∀ x∈es.toList.set j { e0 with key:=key,val:=val },∃ x0∈es.toList,x0.born=x.born∧(rg P k R x).1=(rg P k R x0).1∧∃ y,rd P k R x=some y:=by
   intro x hx
   obtain ⟨i,hi,ex⟩:=List.getElem_of_mem hx
   rw [List.getElem_set] at ex
   split at ex
   ·subst ex
    exact ⟨e0,he0,rfl,hrg,⟨_,rd_mk hkey hv⟩⟩
   ·have hi':i < es.toList.length:=by simpa using hi
    have hx0:x∈es.toList:=ex ▸ List.getElem_mem hi'
    exact ⟨x,hx0,rfl,rfl,F.reads x hx0⟩
  have hborns:(es.toList.set j { e0 with key:=key,val:=val }).map (·.born)=es.toList.map (·.born):=by
   rw [List.map_set]
   apply List.ext_getElem?
   intro i
   rw [List.getElem?_set]
   split
   ·rename_i hij
    subst hij
    rw [List.getElem?_map,h2]
    simp
    exact (List.getElem?_eq_some_iff.1 h2).1
   ·rfl
  have hrun:(Instr.mapUpdate t (.map (some b)) key val).run P w=.ok () (setBlock w b (.map (es.modify j (fun e'=>{ e' with key:=key,val:=val })) clock)):=by
   simp [Instr.mapUpdate,run_underlying ht,MapKept.run_getObj_map hb,K.check w false hkey,h1,hj,h3,K.stays w hkey,MapKept.run_setObj_map _ hb,Result.andThen,setBlock]
  obtain ⟨es',clock',hrun',F',hfold,_,_,_⟩:=Maps.fit_store (R:=R) (R':=R) K ht hb F (Nat.lt_of_le_of_lt hs hn) (fun _ _ _ _ h=>h) hkey hv
  have hsame:setBlock w b (.map es' clock')=setBlock w b (.map (es.modify j (fun e'=>{ e' with key:=key,val:=val })) clock):=by
   have:=hrun'.symm.trans hrun
   injection this
  have hes:es'=es.modify j (fun e'=>{ e' with key:=key,val:=val }):=by
   have h6:=congrArg (fun W:World=>W.heap[b]?) hsame
   simp only [heap_setBlock_same hb] at h6
   injection h6 with h7
   injection h7
  rw [hes] at hfold
  refine ⟨_,hrun,⟨es.modify j (fun e'=>{ e' with key:=key,val:=val }),clock,since,seen,c0,heap_setBlock_same hb _,⟨by simpa using F.size,stamped_modify F.stamped _ _ (fun _ _=>rfl) (fun e' _ he'=>hkeyf e' he'),fun x hx=>?_⟩,by simpa using hs,by rw [hfold];rfl,(heap_setBlock_other hb _ hne).trans hr,fun x hx=>?_,?_,fun x hx=>?_,fun x0 hx0=>?_,hsc,hsk⟩,⟨rfl,rfl,rfl,by simp [setBlock],fun i _ hi=>heap_setBlock_other hb _ (fun e=>hi (by rw [e]))⟩,by simp [setBlock]⟩
  ·rw [hlist] at hx
   obtain ⟨_,_,_,_,hy⟩:=hmem x hx
   exact hy
  ·rw [hlist] at hx
   obtain ⟨x1,hx1,hb1,_,_⟩:=hmem x hx
   rw [← hb1];exact hold x1 hx1
  ·rw [← hcnt]
   have e1:∀ a:Array MapEntry,(leftOf a seen).size=((a.toList.map (·.born)).filter fun c=>!seen.contains c).length:=fun a=>by
    unfold leftOf
    rw [← Array.length_toList,Array.toList_filter,List.filter_map,List.length_map]
    rfl
   rw [e1,e1,hlist,hborns]
  ·rw [hlist] at hx
   obtain ⟨x1,hx1,hb1,hg1,_⟩:=hmem x hx
   rw [hg1,← hb1];exact hl1 x1 hx1
  ·obtain ⟨x,hx,hxe⟩:=hl2 x0 hx0
   obtain ⟨i,hi,ex⟩:=List.getElem_of_mem hx
   by_cases hij:j=i
   ·subst hij
    refine ⟨{ e0 with key:=key,val:=val },?_,?_⟩
    ·rw [hlist]
     exact List.mem_of_getElem? (i:=j) (by rw [List.getElem?_set_self hi])
    ·have:x=e0:=by rw [List.getElem?_eq_getElem hi,ex] at h2;exact Option.some.inj h2
     rw [hrg,← this];exact hxe
   ·refine ⟨x,?_,hxe⟩
    rw [hlist]
    exact List.mem_of_getElem? (i:=i) (by rw [List.getElem?_set_ne hij,List.getElem?_eq_getElem hi,ex])
end Go.ScT
namespace Go.ScT
open Go Go.ChangeMaps Go.MapKept Go.WideShapes
open Go.WideElems (Fit rd rg pl rd_key rd_val rg_of rd_mk other_key)
open Go.Maps (Keyed)
end Go.ScT
namespace Go.Proofs.YtaacjjhmojecnaaGreatDoor
open Go.RowKit Go.ScT Go.Proofs Go.Shelf
open Go.Maps (Keyed string_keyed)
theorem law9:Keyed Tryz.prog 9:=string_keyed Tryz.underlying9
theorem ranges_turned {w w':World} {Z:Nat→Prop} {H:Type} {R:Value→Option (DataW H × List MemPlace)} {k:TypeId} {b r n:Nat} {D:DataW H} {left:Lit→Bool} {cnt:Nat} (h:w.ranges Tryz.prog k R b r n D left cnt) (ht:Turned Z w w') (hb:¬ Z b) (hr:¬ Z r):w'.ranges Tryz.prog k R b r n D left cnt:=by
 have h1:=h.owns.lt
 have h2:=h.lt
 obtain ⟨es,clock,since,seen,c0,hbb,F,hs,hD,hrr,rest⟩:=h
 exact ⟨es,clock,since,seen,c0,(ht.block b h1 hb).trans hbb,F,hs,hD,(ht.block r h2 hr).trans hrr,rest⟩
theorem keyOf9_inv {key:Value} {kl:Lit} (h:keyOf Tryz.prog 9 key=some kl):∃ s:ByteArray,key=.string s:=by
 cases key <;> simp [keyOf,Tryz.underlying9,mapKey] at h
 exact ⟨_,rfl⟩
theorem cell_five {w:World} {y:Nat} {v1 v2 v3 v4 v5:Value} {t:TypeId} (h:w.heap[y]?=some (.cells #[v1,v2,v3,v4,v5] t (0,0))) :
 w.cell? ⟨y,0,none⟩=some v1∧w.cell? ⟨y,1,none⟩=some v2∧w.cell? ⟨y,2,none⟩=some v3∧w.cell? ⟨y,3,none⟩=some v4∧w.cell? ⟨y,4,none⟩=some v5:=by
 simp [World.cell?,h]
theorem frozen_five {w:World} {y:Nat} {v1 v2 v3 v4 v5:Value} {t:TypeId} (h:w.heap[y]?=some (.cells #[v1,v2,v3,v4,v5] t (0,0))) (j:Nat):w.frozen? ⟨y,j,none⟩=false:=by
 simp [World.frozen?,h]
theorem Turned.trans2 {Z Z':Nat→Prop} {a b c:World} (h:Turned Z a b) (k:Turned Z' b c) (hz:∀ i,i < a.heap.size→Z' i→Z i):Turned Z a c :=
 ⟨k.os.trans h.os,k.tape.trans h.tape,k.output.trans h.output,Nat.le_trans h.size k.size,fun i hi hn=>(k.block i (Nat.lt_of_lt_of_le hi h.size) (fun hz'=>hn (hz i hi hz'))).trans (h.block i hi hn)⟩
theorem slice_eq_zero {n:Nat} (h:n=0):((n:Int) == 0)=true:=by subst h;rfl
theorem slice_ne_zero {n:Nat} (h:n≠0):((n:Int) == 0)=false:=by simp;omega
end Go.Proofs.YtaacjjhmojecnaaGreatDoor
namespace Go.Proofs.YtaacjjhmojecnaaGreatDoor
open Go.RowKit Go.ScT Go.Proofs Go.Shelf
open Go.Maps (Keyed string_keyed)
def dat (g n cap:Nat):DataW Unit:=.agg [.lit (.int .i64 (g:Int)),.lit (.int .i64 (n:Int)),.lit (.int .i64 (cap:Int))]
theorem dat_inj {g n c g' n' c':Nat} (h:dat g n c=dat g' n' c'):g=g'∧n=n'∧c=c':=by
 unfold dat at h
 simp at h
 omega
def sliceE (v:Value):Option (DataW Unit × List MemPlace):=match v with
 | .slice (some ⟨g,0,none⟩) n cap=>some (dat g n cap,[])
 | _=>none
theorem sliceE_mk (g n cap:Nat):sliceE (.slice (some ⟨g,0,none⟩) n cap)=some (dat g n cap,[]):=rfl
theorem sliceE_inv {v:Value} {y:DataW Unit × List MemPlace} (h:sliceE v=some y):∃ g n cap,v=.slice (some ⟨g,0,none⟩) n cap∧y=(dat g n cap,[]):=by
 unfold sliceE at h
 split at h
 ·cases h;exact ⟨_,_,_,rfl,rfl⟩
 ·cases h
def upd {α:Type} (f:Bs→α) (k:Bs) (x:α):Bs→α:=fun k'=>if k'=k then x else f k'
theorem upd_same {α:Type} (f:Bs→α) (k:Bs) (x:α):upd f k x k=x:=by simp [upd]
theorem upd_other {α:Type} {f:Bs→α} {k k':Bs} {x:α} (h:k'≠k):upd f k x k'=f k':=by simp [upd,h]
theorem upd_self {α:Type} (f:Bs→α) (k:Bs):upd f k (f k)=f:=by
 funext k'
 unfold upd
 split
 ·rename_i h;rw [h]
 ·rfl
abbrev BT:=Bs→Nat × Nat
def rowV (β:BT) (f:Bs→Pls) (k:Bs):Value:=.slice (some ⟨(β k).1,0,none⟩) (f k).length (β k).2
structure WordsRel (w:World) (D:DataW Unit) (β:BT) (f:Bs→Pls):Prop where
 has:∀ k,Maps.has D (.string k)=true ↔ f k≠[]
 at_:∀ k,f k≠[]→∀ zd,D.atKey (.string k) zd=dat (β k).1 (f k).length (β k).2
 row:∀ k,f k≠[]→WRow w (rowV β f k) (f k)
 apart:∀ k k',f k≠[]→f k'≠[]→(β k).1=(β k').1→k=k'
def InW (β:BT) (f:Bs→Pls):Nat→Prop:=fun b=>∃ k,f k≠[]∧(β k).1=b
theorem rowX_turned {w w':World} {Z:Nat→Prop} {base:Nat} {e:TypeId} {size:Nat} {v:Value} {n:Nat} {xs:List Value} (h:w.ownsRow base e size v n xs) (ht:Turned Z w w') (hz:∀ g,v.ownBlock=some g→¬ Z g):w'.ownsRow base e size v n xs:=by
 obtain ⟨q1,q2⟩:=h
 refine ⟨q1,q2.imp id (fun ⟨g,c,cu,a1,a2,a3,a4⟩=>⟨g,c,cu,a1,a2,?_,a4⟩)⟩
 rw [ht.block g (lt_of_block a3) (hz g (by rw [a1];rfl))]
 exact a3
theorem WordsRel.turned {w w':World} {Z:Nat→Prop} {D:DataW Unit} {β:BT} {f:Bs→Pls} (h:WordsRel w D β f) (ht:Turned Z w w') (hz:∀ b,InW β f b→¬ Z b):WordsRel w' D β f :=
 ⟨h.has,h.at_,fun k hk=>rowX_turned (h.row k hk) ht (fun g hg=>hz g ⟨k,hk,by simpa [rowV,Value.ownBlock] using hg⟩),h.apart⟩
theorem WordsRel.lt {w:World} {D:DataW Unit} {β:BT} {f:Bs→Pls} (h:WordsRel w D β f) {b:Nat} (hb:InW β f b):b < w.heap.size:=by
 obtain ⟨k,hk,rfl⟩:=hb
 exact ((h.row k hk).lt _ rfl).2
theorem isKeyLit (k:Bs):WideAt.IsKeyLit (.string k):=by simp [WideAt.IsKeyLit]
theorem strLit_ne {k k':Bs} (h:k'≠k):(Lit.string k')≠.string k:=fun e=>h (by cases e;rfl)
theorem WordsRel.put {w w':World} {Z:Nat→Prop} {D:DataW Unit} {β:BT} {f:Bs→Pls} (h:WordsRel w D β f) (hm:Maps.IsMap D) {k:Bs} {l:Pls} {g cap:Nat} (hl:l≠[]) (hr:WRow w' (.slice (some ⟨g,0,none⟩) l.length cap) l) (ht:Turned Z w w') (hz:∀ k',k'≠k→f k'≠[]→¬ Z (β k').1) (hg:∀ k',k'≠k→f k'≠[]→(β k').1≠g) :
 WordsRel w' (D.put (.string k) (dat g l.length cap)) (upd β k (g,cap)) (upd f k l):=by
 refine ⟨fun k'=>?_,fun k' hk' zd=>?_,fun k' hk'=>?_,fun k1 k2 h1 h2 he=>?_⟩
 ·by_cases e:k'=k
  ·subst e
   rw [upd_same,Maps.has_put_same hm (isKeyLit k')]
   simp [hl]
  ·rw [upd_other e,Maps.has_put_other (strLit_ne e)]
   exact h.has k'
 ·by_cases e:k'=k
  ·subst e
   rw [upd_same,upd_same,Maps.atKey_put_same hm (isKeyLit k')]
  ·rw [upd_other e] at hk'
   rw [upd_other e,upd_other e,Maps.atKey_put_other (strLit_ne e)]
   exact h.at_ k' hk' zd
 ·by_cases e:k'=k
  ·subst e
   unfold rowV
   rw [upd_same,upd_same]
   exact hr
  ·rw [upd_other e] at hk'
   unfold rowV
   rw [upd_other e,upd_other e]
   exact rowX_turned (h.row k' hk') ht (fun b hb=>by
    simp [Value.ownBlock] at hb
    subst hb
    exact hz k' e hk')
 ·by_cases e1:k1=k
  ·subst e1
   by_cases e2:k2=k1
   ·exact e2.symm
   ·rw [upd_other e2] at h2
    rw [upd_same,upd_other e2] at he
    exact absurd he.symm (hg k2 e2 h2)
  ·by_cases e2:k2=k
   ·subst e2
    rw [upd_other e1] at h1
    rw [upd_same,upd_other e1] at he
    exact absurd he (hg k1 e1 h1)
   ·rw [upd_other e1] at h1
    rw [upd_other e2] at h2
    rw [upd_other e1,upd_other e2] at he
    exact h.apart k1 k2 h1 h2 he
theorem WordsRel.del {w w':World} {Z:Nat→Prop} {D:DataW Unit} {β:BT} {f:Bs→Pls} (h:WordsRel w D β f) {k:Bs} (ht:Turned Z w w') (hz:∀ k',k'≠k→f k'≠[]→¬ Z (β k').1) :
 WordsRel w' (D.del (.string k)) β (upd f k []):=by
 refine ⟨fun k'=>?_,fun k' hk' zd=>?_,fun k' hk'=>?_,fun k1 k2 h1 h2 he=>?_⟩
 ·by_cases e:k'=k
  ·subst e
   rw [upd_same,Maps.has_del_same]
   simp
  ·rw [upd_other e,Maps.has_del_other (strLit_ne e)]
   exact h.has k'
 ·by_cases e:k'=k
  ·subst e;exact absurd (upd_same f k' []) hk'
  ·rw [upd_other e] at hk'
   rw [upd_other e,Maps.atKey_del_other (strLit_ne e)]
   exact h.at_ k' hk' zd
 ·by_cases e:k'=k
  ·subst e;exact absurd (upd_same f k' []) hk'
  ·rw [upd_other e] at hk'
   unfold rowV
   rw [upd_other e]
   exact rowX_turned (h.row k' hk') ht (fun b hb=>by
    simp [Value.ownBlock] at hb
    subst hb
    exact hz k' e hk')
 ·have e1:k1≠k:=fun e=>by subst e;exact h1 (upd_same f k1 [])
  have e2:k2≠k:=fun e=>by subst e;exact h2 (upd_same f k2 [])
  rw [upd_other e1] at h1
  rw [upd_other e2] at h2
  exact h.apart k1 k2 h1 h2 he
def fcur (num:Nat) (left:Lit→Bool) (f:Bs→Pls):Bs→Pls:=fun k=>if left (.string k)=true then f k else less num (f k)
theorem sameKey_str (a b:Bs):(Lit.string a).sameKey (.string b)=decide (a=b):=by
 by_cases h:a=b
 ·subst h;simp [WideAt.sameKey_self (isKeyLit a)]
 ·simp [h,Maps.sameKey_ne (strLit_ne h)]
theorem fcur_step (num:Nat) (left:Lit→Bool) (f:Bs→Pls) (k:Bs):fcur num (fun z=>left z && !z.sameKey (.string k)) f=upd (fcur num left f) k (less num (f k)):=by
 funext k'
 unfold fcur upd
 by_cases e:k'=k
 ·subst e;simp [sameKey_str]
 ·simp [sameKey_str,e]
theorem fcur_done (num:Nat) {left:Lit→Bool} (f:Bs→Pls) (h:∀ kl,left kl=false):fcur num left f=fun k=>less num (f k):=by
 funext k
 simp [fcur,h]
theorem fcur_start (num:Nat) {D:DataW Unit} {f:Bs→Pls} (h:∀ k,Maps.has D (.string k)=true ↔ f k≠[]):fcur num (Maps.has D) f=f:=by
 funext k
 unfold fcur
 split
 ·rfl
 ·rename_i hn
  have:f k=[]:=by
   by_cases e:f k=[]
   ·exact e
   ·exact absurd ((h k).2 e) hn
  rw [this];rfl
theorem wpList_put_ranges {H:Type} {P:Program} (w:World) {ops:Array Oper} {rest:List Oper} {o:Oper} {a:Act} {Q:Exit→Act→World→Prop}
 (hg:o.guard=none) (m x v:Operand) (t:TypeId) (hop:o.op=Op.mapUpdate t m x v) (k e:TypeId) (K:Keyed P k) (ht:P.underlying t=some (.map k e)) (z:Value) (hz:(zeroValue e).run P w=.ok z w) (R:Value→Option (DataW H × List MemPlace)) (b r n:Nat) (D:DataW H) (left:Lit→Bool) (cnt:Nat)
 (hm:a.eval m=.map (some b)) (h:w.ranges P k R b r n D left cnt) (key val:Value) (kl:Lit) (hx:a.eval x=key) (hv:a.eval v=val) (hkey:keyOf P k key=some kl)
 (yv:DataW H × List MemPlace) (hn:n < maxLen) (hval:R val=some yv) (d0:DataW H) (hthere:∀ zd,D.atKey kl zd=d0)
 (hK:∀ w',w'.ranges P k R b r n (D.put kl yv.1) left cnt→w.grownBy w' (some b)→w'.heap.size=w.heap.size→wpList P ops Q rest (a.put o.dst undef) w') :
 wpList P ops Q (o :: rest) a w:=by
 refine wpList_plain hg fun K' hK'=>?_
 obtain ⟨w',hrun,r1,r2,r3⟩:=ranges_put h K ht hz hkey hn hval hthere
 unfold Oper.wp
 simp [execOp,hop,hm,hx,hv,hrun,Result.andThen]
 exact hK' _ _ (hK w' r1 r2 r3)
end Go.Proofs.YtaacjjhmojecnaaGreatDoor
