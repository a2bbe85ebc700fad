import Derived.Test.YtaacjjhmojecnaaGreatDoorQ50
namespace Go.Proofs.YtaacjjhmojecnaaGreatDoor
open Go.RowKit Go.ScT Go.Proofs Go.Shelf
theorem kept_any (k:Int) (hk:k=3∨k=4∨k=5∨k=7∨k=8∨k=9) (a b c:Value) (K S:List UInt8) (w:World) (B:Nat) (A:Nat→Addr) (p:Pr) (hSe:Sent w A B) (h:PairOk w B p) (hBw:B≤w.heap.size) (hK:K.length≤maxLen) (hS:S.length≤maxLen) :
 Calls Tryz.prog 66 #[.agg #[.pointer (some ⟨p.x,0,none⟩),.pointer (some ⟨p.y,0,none⟩)],.agg #[.int .i64 k,a,b,c,.string ⟨K.toArray⟩,.string ⟨S.toArray⟩]] w (KeptDone w B p):=by
 rcases hk with rfl | rfl | rfl | rfl | rfl | rfl
 ·exact kept_add a b c K S w B p h hBw hK hS
 ·exact kept_del a b c K S w B p h hBw hK
 ·exact kept_count a b c K S w B p h hBw
 ·exact kept_flush a b c K S w B p h hBw
 ·exact kept_merge a b c K S w B A p hSe h hBw
 ·exact kept_segs a b c K S w B p h hBw
theorem told_any (k:Int) (hk:k=10∨k=11) (a b c:Int) (K S:List UInt8) (w:World) (B:Nat) (A:Nat→Addr) (p:Pr) (hSe:Sent w A B) (h:PairOk w B p) (ha1:-9223372036854775808≤a) (ha2:a≤9223372036854775807) :
 Calls Tryz.prog 65 #[.agg #[.pointer (some ⟨p.x,0,none⟩),.pointer (some ⟨p.y,0,none⟩)],.agg #[.int .i64 k,.int .i64 a,.int .i64 b,.int .i64 c,.string ⟨K.toArray⟩,.string ⟨S.toArray⟩]] w (KeptDone w B p):=by
 rcases hk with rfl | rfl
 ·exact told_dump a b c K S w B p h
 ·exact told_reopen a b c K S w B A p hSe h ha1 ha2
set_option maxHeartbeats 4000000 in
set_option maxRecDepth 1000000 in
theorem step_pair (k c yi zi:Int) (K S:List UInt8) (w:World) (B L:Nat) (A:Nat→Addr) (v:Value) (ps:List Pr) (hSe:Sent w A B) (h:LawOk w B L v ps) (hBw:B≤w.heap.size) (hk:(k=3∨k=4∨k=5∨k=7∨k=8∨k=9)∨(k=10∨k=11)) (hc1:-9223372036854775808≤c) (hc2:c≤9223372036854775807) (hl:0 < ps.length) (hlm:ps.length≤140737488355328) (hK:K.length≤maxLen) (hS:S.length≤maxLen) :
 Calls Tryz.prog 37 #[.pointer (some ⟨L,0,none⟩),opV k c (.int .i64 yi) (.int .i64 zi) K S] w (StepDone B L ps.length w):=by
 have hb:Below w.heap.size w (w.alloc (.cells #[.int .i64 k,.int .i64 c,.int .i64 yi,.int .i64 zi,.string ⟨K.toArray⟩,.string ⟨S.toArray⟩] 24)):=(Below.refl _ w).alloc (Nat.le_refl _) _
 obtain ⟨gv,capv,aov,rfl,_,hao⟩:=ownsRow_shape h.own
 have hao':=hao hl
 subst hao'
 have c0:(w.alloc (.cells #[.int .i64 k,.int .i64 c,.int .i64 yi,.int .i64 zi,.string ⟨K.toArray⟩,.string ⟨S.toArray⟩] 24)).cell? ⟨L,0,none⟩=some (.slice (some ⟨gv,0,none⟩) ps.length capv):=by
  rw [cell_of_row _ _ _ _ _ _ (h.below hb).cell];rfl
 have hL1:=h.below hb
 have HP:Hid (∀ (i:Nat) (p:Pr),ps[i]?=some p→(w.alloc (.cells #[.int .i64 k,.int .i64 c,.int .i64 yi,.int .i64 zi,.string ⟨K.toArray⟩,.string ⟨S.toArray⟩] 24)).cell? ⟨gv,i * 2,none⟩=some (.pointer (some ⟨p.x,0,none⟩))∧(w.alloc (.cells #[.int .i64 k,.int .i64 c,.int .i64 yi,.int .i64 zi,.string ⟨K.toArray⟩,.string ⟨S.toArray⟩] 24)).cell? ⟨gv,i * 2+1,none⟩=some (.pointer (some ⟨p.y,0,none⟩))):=fun i p hp=>by
  have hil:=(List.getElem?_eq_some_iff.1 hp).1
  have:=pairCells_at ps i p hp
  exact ⟨(hL1.own.cellAt (i * 2) (by omega)).trans this.1,(hL1.own.cellAt (i * 2+1) (by omega)).trans this.2⟩
 have H:Hid (LawOk (w.alloc (.cells #[.int .i64 k,.int .i64 c,.int .i64 yi,.int .i64 zi,.string ⟨K.toArray⟩,.string ⟨S.toArray⟩] 24)) B L (.slice (some ⟨gv,0,none⟩) ps.length capv) ps):=hL1
 have CP:Hid (∀ w,Calls Tryz.prog 64 #[.int .i64 c,.int .i64 (ps.length:Int)] w fun e w'=>(∃ i:Nat,e=.returned (.int .i64 (i:Int))∧i < ps.length)∧w'=w):=fun w=>pick_any c ps.length w hc1 hc2 hl (by unfold maxLen;omega)
 have CK:Hid ((k=3∨k=4∨k=5∨k=7∨k=8∨k=9)→∀ (w:World) (p:Pr),Sent w A B→PairOk w B p→B≤w.heap.size→Calls Tryz.prog 66 #[.agg #[.pointer (some ⟨p.x,0,none⟩),.pointer (some ⟨p.y,0,none⟩)],.agg #[.int .i64 k,.int .i64 c,.int .i64 yi,.int .i64 zi,.string ⟨K.toArray⟩,.string ⟨S.toArray⟩]] w (KeptDone w B p)):=fun hk w p hs hp hbw=>kept_any k hk _ _ _ K S w B A p hs hp hbw hK hS
 have CT:Hid ((k=10∨k=11)→∀ (w:World) (p:Pr),Sent w A B→PairOk w B p→Calls Tryz.prog 65 #[.agg #[.pointer (some ⟨p.x,0,none⟩),.pointer (some ⟨p.y,0,none⟩)],.agg #[.int .i64 k,.int .i64 c,.int .i64 yi,.int .i64 zi,.string ⟨K.toArray⟩,.string ⟨S.toArray⟩]] w (KeptDone w B p)):=fun hk w p hs hp=>told_any k hk c yi zi K S w B A p hs hp hc1 hc2
 have HKK:=hid hk
 have HSE:=hid (hSe.below hb)
 have b1:(k == 1)=false:=beq_eq_false_iff_ne.2 (by omega)
 have b2:(k == 2)=false:=beq_eq_false_iff_ne.2 (by omega)
 have b6:(k == 6)=false:=beq_eq_false_iff_ne.2 (by omega)
 have b12:(k == 12)=false:=beq_eq_false_iff_ne.2 (by omega)
 have k2:¬ k < 2:=by omega
 have k12:¬ 12 < k:=by omega
 have hl0:=slice_ne_zero (n:=ps.length) (by omega)
 clear h hL1 hao hk hc1 hc2 hK hS hSe
 go_enter Tryz.func37,Tryz.ntmps37
 go_wp2_with fail
 have hN:=heap_alloc_new w (.cells #[.int .i64 k,.int .i64 c,.int .i64 yi,.int .i64 zi,.string ⟨K.toArray⟩,.string ⟨S.toArray⟩] 24)
 have o0:=cell_of_row _ _ 0 _ _ _ hN
 have o1:=cell_of_row _ _ 1 _ _ _ hN
 have o2:=cell_of_row _ _ 2 _ _ _ hN
 have o3:=cell_of_row _ _ 3 _ _ _ hN
 have o4:=cell_of_row _ _ 4 _ _ _ hN
 have o5:=cell_of_row _ _ 5 _ _ _ hN
 have hsz:(w.alloc (.cells #[.int .i64 k,.int .i64 c,.int .i64 yi,.int .i64 zi,.string ⟨K.toArray⟩,.string ⟨S.toArray⟩] 24)).heap.size=w.heap.size+1:=by simp
 have HBL:Hid (Below w.heap.size w (w.alloc (.cells #[.int .i64 k,.int .i64 c,.int .i64 yi,.int .i64 zi,.string ⟨K.toArray⟩,.string ⟨S.toArray⟩] 24))):=hb
 clear hb hN
 generalize (w.alloc (.cells #[.int .i64 k,.int .i64 c,.int .i64 yi,.int .i64 zi,.string ⟨K.toArray⟩,.string ⟨S.toArray⟩] 24))=w1 at *
 simp at o0 o1 o2 o3 o4 o5
 have hgv:gv < w1.heap.size:=by
  obtain ⟨cu,bq⟩:=ownsRow_block H.out.own (g:=gv) rfl
  exact lt_of_block bq
 have hLv:L < w1.heap.size:=lt_of_block H.out.cell
 have c0':∀ o,(w1.alloc o).cell? ⟨L,0,none⟩=some (.slice (some ⟨gv,0,none⟩) ps.length capv):=fun o=>by rw [World.cell?_of_block (Below.heap_alloc _ _ _ hLv)];exact c0
 go_cut [5] from 33 to 46 (fun s5 wx=>∃ (i:Nat) (p:Pr),ps[i]?=some p∧s5=.pointer (some ⟨w.heap.size+1,0,none⟩)∧wx=(w1.alloc (.cells #[.pointer (some ⟨p.x,0,none⟩),.pointer (some ⟨p.y,0,none⟩)] 108)).drew)
 case first =>
  go_region_with (go_at_call 64;refine (CP.out _).mono ?_;rintro en w2 ⟨⟨i,rfl,hi⟩,hw2⟩;rw [hw2];clear hw2 w2;have hp:∃ p,ps[i]?=some p:=⟨_,List.getElem?_eq_getElem hi⟩;obtain ⟨p,hp⟩:=hp;have q:=HP.out i p hp;have q0:=q.1;have q1:=q.2;have q2:∀ o,(w1.alloc o).cell? ⟨gv,i * 2,none⟩=some (.pointer (some ⟨p.x,0,none⟩)):=fun o=>(World.cell?_of_block (Below.heap_alloc _ _ _ hgv)).trans q0;have q3:∀ o,(w1.alloc o).cell? ⟨gv,i * 2+1,none⟩=some (.pointer (some ⟨p.y,0,none⟩)):=fun o=>(World.cell?_of_block (Below.heap_alloc _ _ _ hgv)).trans q1;clear q)
  all_goals
   go_wp2_with fail
   go_meet
   exact ⟨i,p,hp,rfl,rfl⟩
 case rest =>
  obtain ⟨i,p,hp,rfl,rfl⟩:=hcut
  have hb2:Below w1.heap.size w1 (w1.alloc (.cells #[.pointer (some ⟨p.x,0,none⟩),.pointer (some ⟨p.y,0,none⟩)] 108)).drew:=((Below.refl _ w1).alloc (Nat.le_refl _) _).drew
  have H2:Hid (LawOk (w1.alloc (.cells #[.pointer (some ⟨p.x,0,none⟩),.pointer (some ⟨p.y,0,none⟩)] 108)).drew B L (.slice (some ⟨gv,0,none⟩) ps.length capv) ps):=H.out.below hb2
  have HS2:=hid (HSE.out.below hb2)
  rcases HKK.out with hk | hk
  ·have CK2:Hid (Calls Tryz.prog 66 #[.agg #[.pointer (some ⟨p.x,0,none⟩),.pointer (some ⟨p.y,0,none⟩)],.agg #[.int .i64 k,.int .i64 c,.int .i64 yi,.int .i64 zi,.string ⟨K.toArray⟩,.string ⟨S.toArray⟩]] (w1.alloc (.cells #[.pointer (some ⟨p.x,0,none⟩),.pointer (some ⟨p.y,0,none⟩)] 108)).drew (KeptDone (w1.alloc (.cells #[.pointer (some ⟨p.x,0,none⟩),.pointer (some ⟨p.y,0,none⟩)] 108)).drew B p)):=CK.out hk _ p HS2.out (H2.out.each i p hp) (by have h2:=hb2.size;omega)
   have b10:(k == 10)=false:=beq_eq_false_iff_ne.2 (by omega)
   have b11:(k == 11)=false:=beq_eq_false_iff_ne.2 (by omega)
   clear hk
   go_wp2_with (go_at_call 66;refine CK2.out.mono ?_;rintro en w4 ⟨rfl,hd1,hd2⟩)
   go_ret
   have F:=law_kept H2.out hp (⟨rfl,hd1,hd2⟩:KeptDone _ B p (.returned (.bool true)) w4)
   exact ⟨rfl,F.2.1,((HBL.out.mono hBw).trans (hb2.mono (by omega))).trans F.2.2⟩
  ·have CT2:Hid (Calls Tryz.prog 65 #[.agg #[.pointer (some ⟨p.x,0,none⟩),.pointer (some ⟨p.y,0,none⟩)],.agg #[.int .i64 k,.int .i64 c,.int .i64 yi,.int .i64 zi,.string ⟨K.toArray⟩,.string ⟨S.toArray⟩]] (w1.alloc (.cells #[.pointer (some ⟨p.x,0,none⟩),.pointer (some ⟨p.y,0,none⟩)] 108)).drew (KeptDone (w1.alloc (.cells #[.pointer (some ⟨p.x,0,none⟩),.pointer (some ⟨p.y,0,none⟩)] 108)).drew B p)):=CT.out hk _ p HS2.out (H2.out.each i p hp)
   by_cases h10:k=10
   ·have b10:(k == 10)=true:=beq_iff_eq.2 h10
    clear hk h10
    go_wp2_with (go_at_call 65;refine CT2.out.mono ?_;rintro en w4 ⟨rfl,hd1,hd2⟩)
    go_ret
    have F:=law_kept H2.out hp (⟨rfl,hd1,hd2⟩:KeptDone _ B p (.returned (.bool true)) w4)
    exact ⟨rfl,F.2.1,((HBL.out.mono hBw).trans (hb2.mono (by omega))).trans F.2.2⟩
   ·have b10:(k == 10)=false:=beq_eq_false_iff_ne.2 h10
    have b11:(k == 11)=true:=beq_iff_eq.2 (by omega)
    clear hk h10
    go_wp2_with (go_at_call 65;refine CT2.out.mono ?_;rintro en w4 ⟨rfl,hd1,hd2⟩)
    go_ret
    have F:=law_kept H2.out hp (⟨rfl,hd1,hd2⟩:KeptDone _ B p (.returned (.bool true)) w4)
    exact ⟨rfl,F.2.1,((HBL.out.mono hBw).trans (hb2.mono (by omega))).trans F.2.2⟩
end Go.Proofs.YtaacjjhmojecnaaGreatDoor
