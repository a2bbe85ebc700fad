import Derived.Test.YtaacjjhmojecnaaGreatDoorQ31
import Derived.Test.YtaacjjhmojecnaaGreatDoorShelfC
namespace Go.Proofs.YtaacjjhmojecnaaGreatDoor
open Go.RowKit Go.ScT Go.Proofs
abbrev BAt (w:World) (B:Nat) (acc:Bs):Prop:=Lib.IsBuilderF 161 5 B B (Lib.byteCells acc) w
theorem bAt_kept {w w':World} {B:Nat} {p:Value} {bs:List Value} (h:Lib.BuilderAtF 161 5 B B p bs w) (hb:Below w.heap.size w w'):Lib.BuilderAtF 161 5 B B p bs w':=by
 obtain ⟨hB,v,h1,h2,h3⟩:=h
 exact ⟨hB,v,(hb.block B (lt_of_block' h1)).trans h1,h2.kept (row:=none) ⟨hb.os,hb.tape,hb.output,hb.size,fun i hi _=>hb.block i hi⟩ (by cases h:v.ownBlock <;> simp),h3⟩
theorem BAt.kept {w w':World} {B:Nat} {acc:Bs} (h:BAt w B acc) (hb:Below w.heap.size w w'):BAt w' B acc:=h.imp (fun h=>bAt_kept h hb) (fun h=>bAt_kept h hb)
theorem writeS {w:World} {B:Nat} {acc l:Bs} (x:ByteArray) (hx:x.data.toList=l) (h:BAt w B acc) (hlen:acc.length+l.length≤140737488355328) (hB:B≤w.heap.size) :
 Calls Tryz.prog 90 #[.pointer (some ⟨B,0,none⟩),.string x] w fun e w'=>e=.returned (.tuple #[.int .i64 x.size,.nilIface])∧BAt w' B (acc++l)∧Below B w w'∧Lib.OthersKept 5 (some B) w w':=by
 have hxs:x.size=l.length:=by rw [← hx];exact Array.length_toList.symm
 refine (Tryz.Builder_WriteString_k B B _ x w h (by rw [Lib.byteCells_length,hxs];exact hlen) hB).mono ?_
 rintro e w' ⟨rfl,h1,h2,h3⟩
 refine ⟨rfl,Or.inr ?_,h2,h3⟩
 rw [Lib.byteCells_append]
 have:Lib.byteCells l=Lib.strCells x:=by rw [← hx];rfl
 rw [this]
 exact h1
theorem tellD_at {ds:List DocP} {i:Nat} {d:DocP} (h:ds[i]?=some d):tellD (ds.drop i)=(dec d.1++[58]++d.2.1++[58]++dec d.2.2++[59])++tellD (ds.drop (i+1)):=by
 rw [drop_at h];simp [tellD]
structure Tellable (ds:List DocP) (ls:List Lst):Prop where
 docs:ds.length≤100
 lists:ls.length≤4000
 doc:∀ d∈ds,d.1≤100∧d.2.1.length≤8∧d.2.2≤40
 list:∀ l∈ls,l.1.length≤20∧l.2.length≤100∧∀ p∈l.2,p.1≤100∧p.2≤40
set_option maxHeartbeats 2000000 in
set_option maxRecDepth 1000000 in
theorem progListing {w:World} {base base2:Nat} {A:Nat→Addr} {D L:Value} {ds:List DocP} {ls:List Lst} (hD:DRow w base2 D ds) (hL:ListsAt w base2 (lensOf ds) L ls) (hS:Sent w A base) (hT:Tellable ds ls) :
 Calls Tryz.prog 49 #[.agg #[D,L]] w fun e w'=>e=.returned (lstV (listing (ds,ls)))∧Below w.heap.size w w':=by
 obtain ⟨xs,hxs,hLR,hNm⟩:=hL
 obtain ⟨gD,cD,aoD,hDe,_,hDa⟩:=ownsRow_shape hD
 obtain ⟨gL,cL,aoL,hLe,_,hLa⟩:=ownsRow_shape hLR
 have hgD:0 < ds.length→gD < w.heap.size:=fun hp=>(hD.lt gD (by rw [hDe,hDa hp];rfl)).2
 have hgL:0 < xs.length→gL < w.heap.size:=fun hp=>(hLR.lt gL (by rw [hLe,hLa hp];rfl)).2
 obtain ⟨n,hnn⟩:∃ n,n=ds.length:=⟨_,rfl⟩
 obtain ⟨m,hmm⟩:∃ m,m=xs.length:=⟨_,rfl⟩
 have hn:=hT.docs
 have hm4:m≤4000:=by rw [hmm,← List.length_map (f:=fun x:LstV=>x.1),hxs];exact hT.lists
 rw [← hnn] at hn hDe hDa hgD
 rw [← hmm] at hLe hLa hgL
 have HNN:=hid hnn
 have HMM:=hid hmm
 have HD:=hid hD
 have HLR:=hid hLR
 have HNm:=hid hNm
 have HS:=hid hS
 have HT:=hid hT
 have HX:=hid hxs
 subst hDe hLe
 clear hD hLR hNm hS hT hxs hnn hmm
 obtain ⟨B,hB⟩:∃ B,B=w.heap.size+1:=⟨_,rfl⟩
 have hBa:(w.alloc (.cells #[.slice aoD n cD,.slice aoL m cL] 91)).heap.size=B:=by rw [hB];simp
 have HBo:Hid (BAt ((w.alloc (.cells #[.slice aoD n cD,.slice aoL m cL] 91)).alloc (.cells #[.pointer none,.slice none 0 0] 161)) B []):=by
  have:=Lib.IsBuilderF.of (Lib.fresh_isBuilder 161 5 (w.alloc (.cells #[.slice aoD n cD,.slice aoL m cL] 91)))
  rw [hBa] at this
  exact this
 have HN:=hid (heap_alloc_new w (.cells #[.slice aoD n cD,.slice aoL m cL] 91))
 have HB1:Hid (Below B (w.alloc (.cells #[.slice aoD n cD,.slice aoL m cL] 91)) ((w.alloc (.cells #[.slice aoD n cD,.slice aoL m cL] 91)).alloc (.cells #[.pointer none,.slice none 0 0] 161))):=(Below.refl _ _).alloc (by rw [hBa];exact Nat.le_refl _) _
 have HB0:Hid (Below w.heap.size w (w.alloc (.cells #[.slice aoD n cD,.slice aoL m cL] 91))):=(Below.refl _ _).alloc (Nat.le_refl _) _
 go_enter Tryz.func49,Tryz.ntmps49
 go_wp2_with (fail)
 rw [← hB]
 generalize (w.alloc (.cells #[.slice aoD n cD,.slice aoL m cL] 91)).alloc (.cells #[.pointer none,.slice none 0 0] 161)=w2 at *
 generalize w.alloc (.cells #[.slice aoD n cD,.slice aoL m cL] 91)=w1 at *
 have hBl:w.heap.size < B:=by omega
 have hBs:B≤w1.heap.size:=by omega
 have HBe:=hid hB
 clear hB hBa
 have hgn:∀ a b:Bs,a.length+b.length≤9223372036854775807→¬ (9223372036854775807 < a.length+b.length):=fun a b h=>by omega
 go_loopw [13] (fun s13 wr=>∃ (i:Nat) (acc:Bs),s13=.int .i64 (i:Int)∧i≤n∧Hid (acc.length≤i * 40)∧Hid (BAt wr B acc)∧Hid (Below B w1 wr)∧Hid (acc++tellD (ds.drop i)=tellD ds)) (fun s13 _=>n - (intOf s13).toNat)
 case atStart=>exact ⟨0,[],rfl,by omega,by simp [Hid],HBo,HB1,by simp [Hid]⟩
 case round =>
  obtain ⟨i,acc,rfl,hi,HAl,HBr,HWr,HE⟩:=hrel
  have hszr:=HWr.out.size
  have HBw:=hid (HB0.out.trans (HWr.out.mono (show w.heap.size≤B by omega)))
  by_cases hlt:i < n
  ·have hlti:(i:Int) < (n:Int):=by omega
   obtain ⟨d,hd⟩:∃ d,ds[i]?=some d:=⟨_,List.getElem?_eq_getElem (by rw [← HNN.out];exact hlt)⟩
   have hdk:=HT.out.doc d (List.mem_of_getElem? hd)
   obtain rfl:=hDa (by omega)
   have hgd:=hgD (by omega)
   obtain ⟨q0,q1,q2⟩:=HD.out.cells hd
   rw [← HBw.out.cell hgd] at q0 q1 q2
   rw [tellD_at hd,← List.append_assoc] at HE
   obtain ⟨z1,z2,z3⟩:=d
   simp only at q0 q1 q2 hdk HE
   obtain ⟨hz1,hz2,hz3⟩:=hdk
   have hd1:=dec_len (n:=z1) (by omega)
   have hd3:=dec_len (n:=z3) (by omega)
   have hal:=HAl.out
   have hBpb:B < wr.heap.size:=HBr.out.elim (·.lt) (·.lt)
   clear hd
   go_wp2_with (fail)
   have HNp:=hid (heap_alloc_new wr (.cells #[.int .i64 (z1:Int),lstV z2,.int .i64 (z3:Int)] 141))
   have HB3:=hid (HBr.out.kept ((Below.refl wr.heap.size wr).alloc (Nat.le_refl _) (.cells #[.int .i64 (z1:Int),lstV z2,.int .i64 (z3:Int)] 141)))
   have HW3:=hid (HWr.out.trans (((Below.refl wr.heap.size wr).alloc (Nat.le_refl _) (.cells #[.int .i64 (z1:Int),lstV z2,.int .i64 (z3:Int)] 141)).mono (show B≤wr.heap.size by omega)))
   have hpb:wr.heap.size < (wr.alloc (.cells #[.int .i64 (z1:Int),lstV z2,.int .i64 (z3:Int)] 141)).heap.size:=by simp
   generalize wr.alloc (.cells #[.int .i64 (z1:Int),lstV z2,.int .i64 (z3:Int)] 141)=W at *
   generalize wr.heap.size=pb at *
   obtain ⟨k0,k1,k2,_⟩:=cell_three HNp.out
   have HSW:=hid (HS.out.below (HB0.out.trans (HW3.out.mono (show w.heap.size≤B by omega))))
   have C1:Hid (Calls Tryz.prog 81 #[.int .i64 (z1:Int)] W.drew fun e w'=>e=.returned (lstV (dec z1))∧Below W.heap.size W w'):=(itoa_any z1 (by omega) W.drew A base (HSW.out.turned (Turned.drw (Z:=fun _=>False) W) (fun _ _ e=>e))).mono fun e w' ⟨h1,h2⟩=>⟨h1,⟨h2.os,h2.tape,h2.output,h2.size,h2.block⟩⟩
   have C2:Hid (∀ w',Below W.heap.size W w'→Calls Tryz.prog 81 #[.int .i64 (z3:Int)] w' fun e w''=>e=.returned (lstV (dec z3))∧Below W.heap.size W w''):=fun w' hb=>(itoa_any z3 (by omega) w' A base (HSW.out.below hb)).mono fun e w'' ⟨h1,h2⟩=>⟨h1,hb.trans (h2.mono hb.size)⟩
   generalize dec z1=x1 at *
   generalize dec z3=x3 at *
   have s1:¬ (9223372036854775807 < x1.length+1):=by omega
   have s2:¬ (9223372036854775807 < x1.length+1+z2.length):=by omega
   have s3:¬ (9223372036854775807 < x1.length+1+z2.length+1):=by omega
   have s4:¬ (9223372036854775807 < x1.length+1+z2.length+1+x3.length):=by omega
   have s5:¬ (9223372036854775807 < x1.length+1+z2.length+1+x3.length+1):=by omega
   clear q0 q1 q2
   go_region_held3 (fun w'=>w'.cell? ⟨pb,0,none⟩=some (.int .i64 (z1:Int))∧w'.cell? ⟨pb,1,none⟩=some (lstV z2)∧w'.cell? ⟨pb,2,none⟩=some (.int .i64 (z3:Int))) (go_keep)
    (first
      | (go_at_call 90;refine (writeS (acc:=acc) (l:=x1++[58]++z2++[58]++x3++[59]) _ (by simp) (HB3.out.kept hb2) (by simp;omega) hsz4).mono ?_;rintro e w5 ⟨rfl,hb5,hB5,hO5⟩;have HN5:=hO5 pb _ HN4.out (fun e=>by injection e with e;omega) (fun c fz e=>by injection e with e1 e2;exact absurd e2 (by decide));obtain ⟨v0,v1,v2,_⟩:=cell_three HN5)
      | (go_at_call 81;have _h:=hb1;refine (C2.out _ hb1).mono ?_;rintro e w4 ⟨rfl,hb2⟩;have m0:=below_c hb2 hpb k0;have m1:=below_c hb2 hpb k1;have m2:=below_c hb2 hpb k2;have HN4:=hid ((hb2.block pb hpb).trans HNp.out);have hsz4:B≤w4.heap.size:=by have:=hb2.size;omega)
      | (go_at_call 81;refine C1.out.mono ?_;rintro e w3 ⟨rfl,hb1⟩;have l0:=below_c hb1 hpb k0;have l1:=below_c hb1 hpb k1;have l2:=below_c hb1 hpb k2))
   have HB5:=hid hb5
   have HW5:=hid ((HW3.out.trans (hb2.mono (show B≤W.heap.size by omega))).trans hB5)
   have hal5:(acc++(x1++[58]++z2++[58]++x3++[59])).length≤(i+1) * 40:=by simp;omega
   clear hb5 hB5 hO5 HN5
   go_wp2_with (fail)
   go_roundw
   case rel=>exact ⟨i+1,acc++(x1++[58]++z2++[58]++x3++[59]),by go_num,by omega,hal5,HB5,HW5,HE⟩
   case measure=>simp [intOf];omega
  ·have hlti:¬ ((i:Int) < (n:Int)):=by omega
   have HE2:Hid (acc=tellD ds):=show _=_ by
    rw [← HE.out,List.drop_eq_nil_of_le (by rw [← HNN.out];omega)];simp [tellD]
   have hal:acc.length≤4000:=by have:=HAl.out;omega
   have q1:=below_c (HWr.out) (show w.heap.size < B by omega) (cell_two2 HN.out).2.1
   have hw1:Hid (acc++tellL (ls.drop 0)=listing (ds,ls)):=show _=_ by rw [HE2.out,List.drop_zero];rfl
   clear hDa hgD HE HAl
   go_wp2_with (fail)
   go_loopw [35] (fun s35 wr=>∃ (i:Nat) (acc:Bs),s35=.int .i64 (i:Int)∧i≤m∧Hid (acc.length≤4000+i * 2400)∧Hid (BAt wr B acc)∧Hid (Below B w1 wr)∧Hid (acc++tellL (ls.drop i)=listing (ds,ls))) (fun s35 _=>m - (intOf s35).toNat)
   case atStart=>exact ⟨0,acc,rfl,by omega,by simpa [Hid] using hal,HBr,HWr,hw1⟩
   case round =>
    clear hw1 hal HBr HWr HBw q1 HE2
    obtain ⟨i,acc,rfl,hi,HAl,HBr,HWr,HE⟩:=hrel
    have hszr:=HWr.out.size
    have HBw:=hid (HB0.out.trans (HWr.out.mono (show w.heap.size≤B by omega)))
    have hBpb:B < wr.heap.size:=HBr.out.elim (·.lt) (·.lt)
    by_cases hlt:i < m
    ·have hlti:(i:Int) < (m:Int):=by omega
     obtain ⟨x,hx⟩:∃ x,xs[i]?=some x:=⟨_,List.getElem?_eq_getElem (by rw [← HMM.out];exact hlt)⟩
     have hxm:=List.mem_of_getElem? hx
     have hlx:ls[i]?=some x.1:=by rw [← HX.out,List.getElem?_map,hx];rfl
     obtain ⟨ht1,ht2,ht3⟩:=HT.out.list _ (List.mem_of_getElem? hlx)
     obtain ⟨hPR,hHR⟩:=HNm.out x hxm
     obtain rfl:=hLa (by omega)
     have hgl:=hgL (by omega)
     obtain ⟨e0,e1,e2⟩:=lsC_get hx
     have q0:w.ownsRow base2 167 3 (.slice (some ⟨gL,0,none⟩) m cL) m (lsC xs):=by
      have h1:=HLR.out
      unfold LRow at h1
      rw [← HMM.out] at h1
      exact h1
     have q1:=q0.cellAt (i * 3) (by omega)
     have q2:=q0.cellAt (i * 3+1) (by omega)
     have q3:=q0.cellAt (i * 3+2) (by omega)
     rw [e0] at q1
     rw [e1] at q2
     rw [e2] at q3
     rw [← HBw.out.cell hgl] at q1 q2 q3
     rw [drop_at hlx] at HE
     obtain ⟨⟨tk,ps⟩,vP,vH⟩:=x
     simp only at q1 q2 q3 hPR hHR ht1 ht2 ht3
     obtain ⟨gP,cP,aoP,hvP,_,hPa⟩:=ownsRow_shape hPR
     obtain ⟨gH,cH,aoH,hvH,_,_⟩:=ownsRow_shape hHR
     have hgP:0 < ps.length→gP < w.heap.size:=fun hp=>(hPR.lt gP (by rw [hvP,hPa hp];rfl)).2
     obtain ⟨k,hk⟩:∃ k,k=ps.length:=⟨_,rfl⟩
     obtain ⟨k2,hk2⟩:∃ k,k=(hdsOf (lensOf ds) ps).length:=⟨_,rfl⟩
     rw [← hk2] at hvH
     rw [← hk] at hvP hPa ht2 hgP
     have HPR:=hid hPR
     have HK:=hid hk
     have HQ2:=hid ht3
     have HE0:Hid (acc++tk++tellP ps++[59]++tellL (ls.drop (i+1))=listing (ds,ls)):=show _=_ by
      rw [← HE.out];simp [tellL]
     subst hvP hvH
     have hal:=HAl.out
     have HNp:=hid (heap_alloc_new wr (.cells #[lstV tk,.slice aoP k cP,.slice aoH k2 cH] 167))
     have HB3:=hid (HBr.out.kept ((Below.refl wr.heap.size wr).alloc (Nat.le_refl _) (.cells #[lstV tk,.slice aoP k cP,.slice aoH k2 cH] 167)))
     have HW3:=hid (HWr.out.trans (((Below.refl wr.heap.size wr).alloc (Nat.le_refl _) (.cells #[lstV tk,.slice aoP k cP,.slice aoH k2 cH] 167)).mono (show B≤wr.heap.size by omega)))
     have C3:=hid (writeS (w:=wr.alloc (.cells #[lstV tk,.slice aoP k cP,.slice aoH k2 cH] 167)) (acc:=acc) (l:=tk) ⟨tk.toArray⟩ (by simp) HB3.out (by omega) (by simp;omega))
     clear e0 e1 e2 q0 hx hxm hlx hPR hHR hk hk2 ht3 HE
     go_wp2_with (go_at_call 90;refine C3.out.mono ?_;rintro e w5 ⟨rfl,hb5,hB5,hO5⟩;have HN5:=hO5 wr.heap.size _ HNp.out (fun e=>by injection e with e;omega) (fun c fz e=>by injection e with e1 e2;exact absurd e2 (by decide));obtain ⟨v0,v1,v2,_⟩:=cell_three HN5)
     have HB5:=hid hb5
     have HW5:=hid (HW3.out.trans hB5)
     clear hb5 hB5 hO5 HN5 v0 v1 v2 q1 q2 q3 C3 HB3 HW3 HNp
     go_loopw [45] (fun s45 wr=>∃ (u:Nat) (ac2:Bs),s45=.int .i64 (u:Int)∧u≤k∧Hid (ac2.length≤4000+i * 2400+20+u * 23)∧Hid (BAt wr B ac2)∧Hid (Below B w1 wr)∧Hid (ac2++tellP (ps.drop u)=acc++tk++tellP ps)) (fun s45 _=>k - (intOf s45).toNat)
     case atStart=>exact ⟨0,acc++tk,rfl,by omega,by simp [Hid];omega,HB5,HW5,by simp [Hid]⟩
     case round =>
      clear HB5 HW5
      obtain ⟨u,ac2,rfl,hu,HAl2,HBq,HWq,HEq⟩:=hrel
      have hszq:=HWq.out.size
      have HBwq:=hid (HB0.out.trans (HWq.out.mono (show w.heap.size≤B by omega)))
      have hBpq:B < wr.heap.size:=HBq.out.elim (·.lt) (·.lt)
      have hal2:=HAl2.out
      by_cases hlu:u < k
      ·have hlui:(u:Int) < (k:Int):=by omega
       obtain ⟨p,hp⟩:∃ p,ps[u]?=some p:=⟨_,List.getElem?_eq_getElem (by rw [← HK.out];exact hlu)⟩
       obtain ⟨hp1,hp2⟩:=HQ2.out p (List.mem_of_getElem? hp)
       obtain rfl:=hPa (by omega)
       have hgp:=hgP (by omega)
       obtain ⟨e0,e1⟩:=plC_get hp
       have q0:w.ownsRow base2 169 2 (.slice (some ⟨gP,0,none⟩) k cP) k (plC ps):=by
        have h1:=HPR.out
        unfold PRow at h1
        rw [← HK.out] at h1
        exact h1
       have q1:=q0.cellAt (u * 2) (by omega)
       have q2:=q0.cellAt (u * 2+1) (by omega)
       rw [e0] at q1
       rw [e1] at q2
       rw [← HBwq.out.cell hgp] at q1 q2
       rw [drop_at hp] at HEq
       obtain ⟨z1,z3⟩:=p
       simp only at q1 q2 hp1 hp2
       have HE6:Hid (ac2++([44]++dec z1++[42]++dec z3)++tellP (ps.drop (u+1))=acc++tk++tellP ps):=show _=_ by
        rw [← HEq.out];simp [tellP]
       have hd1:=dec_len (n:=z1) (by omega)
       have hd3:=dec_len (n:=z3) (by omega)
       clear e0 e1 q0 hp HEq
       go_wp2_with (fail)
       have HNp:=hid (heap_alloc_new wr (.cells #[.int .i64 (z1:Int),.int .i64 (z3:Int)] 169))
       have HB3:=hid (HBq.out.kept ((Below.refl wr.heap.size wr).alloc (Nat.le_refl _) (.cells #[.int .i64 (z1:Int),.int .i64 (z3:Int)] 169)))
       have HW3:=hid (HWq.out.trans (((Below.refl wr.heap.size wr).alloc (Nat.le_refl _) (.cells #[.int .i64 (z1:Int),.int .i64 (z3:Int)] 169)).mono (show B≤wr.heap.size by omega)))
       have hpb:wr.heap.size < (wr.alloc (.cells #[.int .i64 (z1:Int),.int .i64 (z3:Int)] 169)).heap.size:=by simp
       generalize wr.alloc (.cells #[.int .i64 (z1:Int),.int .i64 (z3:Int)] 169)=W at *
       generalize wr.heap.size=pb at *
       obtain ⟨k0,k1,_⟩:=cell_two2 HNp.out
       have HSW:=hid (HS.out.below (HB0.out.trans (HW3.out.mono (show w.heap.size≤B by omega))))
       have C1:Hid (Calls Tryz.prog 81 #[.int .i64 (z1:Int)] W.drew fun e w'=>e=.returned (lstV (dec z1))∧Below W.heap.size W w'):=(itoa_any z1 (by omega) W.drew A base (HSW.out.turned (Turned.drw (Z:=fun _=>False) W) (fun _ _ e=>e))).mono fun e w' ⟨h1,h2⟩=>⟨h1,⟨h2.os,h2.tape,h2.output,h2.size,h2.block⟩⟩
       have C2:Hid (∀ w',Below W.heap.size W w'→Calls Tryz.prog 81 #[.int .i64 (z3:Int)] w' fun e w''=>e=.returned (lstV (dec z3))∧Below W.heap.size W w''):=fun w' hb=>(itoa_any z3 (by omega) w' A base (HSW.out.below hb)).mono fun e w'' ⟨h1,h2⟩=>⟨h1,hb.trans (h2.mono hb.size)⟩
       generalize dec z1=x1 at *
       generalize dec z3=x3 at *
       have s1:¬ (9223372036854775807 < 1+x1.length):=by omega
       have s2:¬ (9223372036854775807 < 1+x1.length+1):=by omega
       have s3:¬ (9223372036854775807 < 1+x1.length+1+x3.length):=by omega
       clear q1 q2
       go_region_held3 (fun w'=>w'.cell? ⟨pb,0,none⟩=some (.int .i64 (z1:Int))∧w'.cell? ⟨pb,1,none⟩=some (.int .i64 (z3:Int))) (go_keep)
        (first
          | (go_at_call 90;refine (writeS (acc:=ac2) (l:=[44]++x1++[42]++x3) _ (by simp) (HB3.out.kept hb2) (by simp;omega) hsz4).mono ?_;rintro e w5 ⟨rfl,hb5,hB5,hO5⟩;have HN5:=hO5 pb _ HN4.out (fun e=>by injection e with e;omega) (fun c fz e=>by injection e with e1 e2;exact absurd e2 (by decide));obtain ⟨v0,v1,_⟩:=cell_two2 HN5)
          | (go_at_call 81;have _h:=hb1;refine (C2.out _ hb1).mono ?_;rintro e w4 ⟨rfl,hb2⟩;have m0:=below_c hb2 hpb k0;have m1:=below_c hb2 hpb k1;have HN4:=hid ((hb2.block pb hpb).trans HNp.out);have hsz4:B≤w4.heap.size:=by have:=hb2.size;omega)
          | (go_at_call 81;refine C1.out.mono ?_;rintro e w3 ⟨rfl,hb1⟩;have l0:=below_c hb1 hpb k0;have l1:=below_c hb1 hpb k1))
       have HB5:=hid hb5
       have HW5:=hid ((HW3.out.trans (hb2.mono (show B≤W.heap.size by omega))).trans hB5)
       have hal5:(ac2++([44]++x1++[42]++x3)).length≤4000+i * 2400+20+(u+1) * 23:=by simp;omega
       clear hb5 hB5 hO5 HN5
       go_wp2_with (fail)
       go_roundw
       case rel=>exact ⟨u+1,ac2++([44]++x1++[42]++x3),by go_num,by omega,hal5,HB5,HW5,HE6⟩
       case measure=>simp [intOf];omega
      ·have hlui:¬ ((u:Int) < (k:Int)):=by omega
       obtain rfl:u=k:=by omega
       have HEe:Hid (ac2=acc++tk++tellP ps):=show _=_ by
        rw [← HEq.out,HK.out,List.drop_length];simp [tellP]
       have C3:=hid (writeS (w:=wr) (acc:=ac2) (l:=[59]) ⟨#[59]⟩ (by simp) HBq.out (by simp;omega) (by omega))
       go_wp2_with (go_at_call 90;refine C3.out.mono ?_;rintro e w5 ⟨rfl,hb5,hB5,hO5⟩)
       have HB5:=hid hb5
       have HW5:=hid (HWq.out.trans hB5)
       clear hb5 hB5 hO5 C3
       go_roundw
       case rel =>
        refine ⟨i+1,ac2++[59],by go_num,by omega,by simp [Hid];omega,HB5,HW5,?_⟩
        show _=_
        rw [HEe.out]
        exact HE0.out
       case measure=>simp [intOf];omega
    ·have hlti:¬ ((i:Int) < (m:Int)):=by omega
     have HEe:Hid (acc=listing (ds,ls)):=show _=_ by
      rw [← HE.out,List.drop_eq_nil_of_le (by rw [← HX.out,List.length_map,← HMM.out];omega)];simp [tellL]
     have C4:=hid (Tryz.Builder_String_any_k B B acc wr HBr.out (by omega))
     go_wp2_with (go_at_call 91;refine C4.out.mono ?_;rintro e w5 ⟨rfl,_,hB5,_⟩)
     go_ret
     refine ⟨?_,HBw.out.trans (hB5.mono (by omega))⟩
     rw [HEe.out]
     rfl
end Go.Proofs.YtaacjjhmojecnaaGreatDoor
