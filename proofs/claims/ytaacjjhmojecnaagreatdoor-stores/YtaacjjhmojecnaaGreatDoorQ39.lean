import Derived.Test.YtaacjjhmojecnaaGreatDoorQ38
import Derived.Test.YtaacjjhmojecnaaGreatDoorQ20
import Derived.Lib.SlBytesConst
import Derived.Laws.BytesArg
import Derived.Test.YtaacjjhmojecnaaGreatDoorP08
import Derived.Deep.DeepMust
import Derived.Deep.AppendLies
import Derived.Deep.RegionLaw
import Derived.Test.YtaacjjhmojecnaaGreatDoorQ28
import Derived.Test.YtaacjjhmojecnaaGreatDoorP05
import Derived.Shelf.Strconv.Clone
import Derived.Test.YtaacjjhmojecnaaGreatDoorQ30
namespace Go.Proofs.YtaacjjhmojecnaaGreatDoor
open Go.RowKit Go.ScT Go.Proofs
structure LsSee (w:World) (base:Nat) (L:Value) (lens:List Nat) (ls:List Lst):Prop where
 see:∃ (ao:Option Addr) (g o cap:Nat),L=.slice ao ls.length cap∧(0 < ls.length→ao=some ⟨g,o,none⟩∧g < base)∧∀ i l,ls[i]?=some l→∃ vP vH,LSee w base vP vH l.2 (hdsOf lens l.2)∧w.cell? ⟨g,o+i * 3,none⟩=some (lstV l.1)∧w.cell? ⟨g,o+i * 3+1,none⟩=some vP∧w.cell? ⟨g,o+i * 3+2,none⟩=some vH
theorem LSee.below {w w':World} {base:Nat} {vP vH:Value} {ps:Pls} {hs:Hds} (h:LSee w base vP vH ps hs) (hb:Below base w w'):LSee w' base vP vH ps hs:=by
 obtain ⟨g,o,cap,a1,a2,a3,a4,a5⟩:=h.places
 obtain ⟨g2,o2,cap2,b1,b2,b3⟩:=h.heads
 exact ⟨⟨g,o,cap,a1,a2,a3,a4,fun i p hp=>⟨below_c hb a4 (a5 i p hp).1,below_c hb a4 (a5 i p hp).2⟩⟩,⟨g2,o2,cap2,b1,b2,fun i p hp=>⟨below_c hb b2 (b3 i p hp).1,below_c hb b2 (b3 i p hp).2.1,below_c hb b2 (b3 i p hp).2.2⟩⟩⟩
theorem DSee.below {w w':World} {base:Nat} {D:Value} {ds:List DocP} (h:DSee w base D ds) (hb:Below base w w'):DSee w' base D ds:=by
 obtain ⟨ao,g,o,cap,h1,h2,h3⟩:=h.see
 refine ⟨ao,g,o,cap,h1,h2,fun i d hd=>?_⟩
 have hi:=(List.getElem?_eq_some_iff.1 hd).1
 have hg:=(h2 (by omega)).2
 exact ⟨below_c hb hg (h3 i d hd).1,below_c hb hg (h3 i d hd).2.1,below_c hb hg (h3 i d hd).2.2⟩
structure Writable (ds:List DocP) (ls:List Lst):Prop where
 docs:OkDocs 0 [] ds
 few:ds.length≤100
 lists:ls.length≤4000
 list:∀ l∈ls,l.1.length≤20∧1≤l.2.length∧l.2.length≤100∧Wrt ds.length 0 l.2
theorem encLists_at {lens:List Nat} {ls:List Lst} {i:Nat} {l:Lst} (h:ls[i]?=some l):encLists lens (ls.drop i)=encList lens l++encLists lens (ls.drop (i+1)):=by
 rw [drop_at h];simp [encLists]
theorem encDocs_len:∀ {ds:List DocP} {b:Nat} {seen:List Bs},OkDocs b seen ds→(encDocs b ds).length≤ds.length * 15
 | [],_,_,_=>by simp [encDocs]
 | d :: r,b,seen,h=>by
   have ih:=encDocs_len h.2.2.2.2.2
   have h1:=vi_le (d.1 - b)
   have h2:=vi_le d.2.2
   have h3:=nm_len d.2.1
   have h4:=(keyOk_len h.2.2.2.1).2
   simp only [encDocs,List.length_append,List.length_cons]
   omega
theorem encPls_len {lens:List Nat} {n:Nat}:∀ {f next:Nat} {b:Pls},Wrt n next b→n≤100→(encPls lens f next b).length≤b.length * 24
 | 0,next,b,_,_=>by simp [encPls]
 | f+1,next,b,h,hn=>by
   unfold encPls
   by_cases hb:b=[]
   ·simp [hb]
   ·rw [if_neg hb]
    have hbp:=List.length_pos_iff.2 hb
    have hw1:Wrt n next (b.take 4):=⟨ris_take h.1,fun p hp=>h.2 p (List.mem_of_mem_take hp)⟩
    have hw2:Wrt n (lastO (b.take 4)+1) (b.drop 4):=by
     refine ⟨?_,fun p hp=>h.2 p (List.mem_of_mem_drop hp)⟩
     by_cases h5:3 < b.length
     ·exact ris_drop h.1 h5
     ·rw [List.drop_eq_nil_of_le (by omega)];exact trivial
    have ih:=encPls_len (lens:=lens) (f:=f) hw2 hn
    have h1:=vi_le (lastO (b.take 4))
    have h2:=vi_le (mxC (b.take 4))
    have h3:=vi_le (mnL lens (b.take 4))
    have h4:(body (stp next (b.take 4)) (rep (b.take 4))).length≤18:=by
     refine body_len (by rw [stp_len];simp;omega) (bl_small (fun x hx=>?_)) (bl_small (fun x hx=>?_))
     ·have:=stp_le hw1.1 x hx
      omega
     ·obtain ⟨p,hp,rfl⟩:=List.mem_map.1 hx
      have:=hw1.2 p hp
      omega
    simp only [List.length_append,encBlk,List.length_drop] at *
    omega
theorem cell_two_any {w:World} {y:Nat} {v1 v2:Value} {t:TypeId} {q:Nat × Nat} (h:w.heap[y]?=some (.cells #[v1,v2] t q)):w.cell? ⟨y,0,none⟩=some v1∧w.cell? ⟨y,1,none⟩=some v2:=by
 simp [World.cell?,h]
theorem conv_row {w:World} {base:Nat} {v:Value} {l:Bs} (h:BRow w base v l):(convert 51 9 v).run Tryz.prog w=.ok (lstV l) w:=by
 rcases h.2 with ⟨rfl,h2⟩ | ⟨g,cap,cur,rfl,_,h3,h4,_,h6,h7⟩
 ·have hl:l=[]:=List.eq_nil_of_length_eq_zero h2
  subst hl
  rw [run_convert_bytes_nil w 51 5 Tryz.underlying51 Tryz.underlying5 0 0 9 Tryz.underlying9]
  rfl
 ·rw [run_convert_bytes_arg w 51 5 Tryz.underlying51 Tryz.underlying5 g 0 l.length cap (l.map fun b=>(b.toNat:Int)) (by simp) (fun i hi=>?_) 9 Tryz.underlying9]
  ·have hs:strOfNums (l.map fun b=>(b.toNat:Int))=⟨l.toArray⟩:=by
    unfold strOfNums
    rw [List.map_map,(List.map_congr_left (fun b _=>by simp):l.map _=l.map id),List.map_id]
   rw [hs]
  ·have h8:cur.toList[i]?=some (.int .u8 (l[i].toNat:Int)):=by
    have:=congrArg (fun z=>z[i]?) h7
    simp only [List.getElem?_take,Nat.mul_one] at this
    rw [if_pos hi] at this
    rw [this]
    simp [Lib.byteCells,List.getElem?_eq_getElem hi]
   have h9:cur[i]?=some (.int .u8 (l[i].toNat:Int)):=by rw [← h8];simp
   have h10:(l.map fun b=>(b.toNat:Int)).getD i 0=(l[i].toNat:Int):=by simp [List.getD,List.getElem?_eq_getElem hi]
   rw [h10]
   simp [World.cell?,h3,h9]
theorem BRow.after {w w':World} {base:Nat} {v:Value} {l:Bs} (h:BRow w base v l) (hb:Below w.heap.size w w'):BRow w' base v l:=by
 refine ⟨h.1,?_⟩
 rcases h.2 with h1 | ⟨g,cap,cur,h1,h2,h3,h4⟩
 ·exact .inl h1
 ·exact .inr ⟨g,cap,cur,h1,h2,by rw [hb.block g (lt_of_block' h3)];exact h3,h4⟩
theorem encList_len {lens:List Nat} {n:Nat} {tk:Bs} {ps:Pls} (h:Wrt n 0 ps) (hn:n≤100) (hp:ps.length≤100) (ht:tk.length≤20):(encList lens (tk,ps)).length≤2500:=by
 have h1:=encPls_len (lens:=lens) (f:=ps.length) h hn
 have h2:=vi_le ps.length
 have h3:=nm_len tk
 simp only [encList,List.length_append]
 omega
set_option maxHeartbeats 1000000 in
set_option maxRecDepth 1000000 in
theorem write_any {w:World} {D L:Value} {ds:List DocP} {ls:List Lst} (hD:DSee w w.heap.size D ds) (hL:LsSee w w.heap.size L (lensOf ds) ls) (hW:Writable ds ls) :
 Calls Tryz.prog 92 #[.agg #[D,L]] w fun e w'=>e=.returned (lstV (wrt (ds,ls)))∧Below w.heap.size w w':=by
 obtain ⟨aoD,gD,oD,cD,hDe,_,_⟩:=hD.see
 obtain ⟨aoL,gL,oL,cL,hLe,hLa,hLc⟩:=hL.see
 obtain ⟨n,hnn⟩:∃ n,n=ds.length:=⟨_,rfl⟩
 obtain ⟨m,hmm⟩:∃ m,m=ls.length:=⟨_,rfl⟩
 rw [← hnn] at hDe
 rw [← hmm] at hLe hLa
 have hm4:m≤4000:=by rw [hmm];exact hW.lists
 have hn1:n≤100:=by rw [hnn];exact hW.few
 have HNN:=hid hnn
 have HMM:=hid hmm
 have HLc:=hid hLc
 have HW:=hid hW
 subst hDe hLe
 have HD:=hid hD
 have hB1:=((Below.refl w.heap.size w).alloc (Nat.le_refl _) (.cells #[.slice aoD n cD,.slice aoL m cL] 91))
 have hB2:=hB1.alloc (by simp) (.cells #[.int .u8 83,.int .u8 71] 5 (2,3))
 have HB2:=hid hB2
 have HN0:Hid (((w.alloc (.cells #[.slice aoD n cD,.slice aoL m cL] 91)).alloc (.cells #[.int .u8 83,.int .u8 71] 5 (2,3))).heap[w.heap.size]?=some (.cells #[.slice aoD n cD,.slice aoL m cL] 91 (0,0))) :=
  ((Turned.ofAlloc (Z:=fun _=>False) (w.alloc (.cells #[.slice aoD n cD,.slice aoL m cL] 91)) (.cells #[.int .u8 83,.int .u8 71] 5 (2,3))).block w.heap.size (by simp) (fun e=>e)).trans (heap_alloc_new w _)
 have hsz0:(w.alloc (.cells #[.slice aoD n cD,.slice aoL m cL] 91)).heap.size=w.heap.size+1:=by simp
 have h1:=heap_alloc_new (w.alloc (.cells #[.slice aoD n cD,.slice aoL m cL] 91)) (.cells #[.int .u8 83,.int .u8 71] 5 (2,3))
 rw [hsz0] at h1
 have C1:=hid (appendDocuments_of (base:=w.heap.size) (l:=[83,71]) (ds:=ds) (D:=.slice aoD n cD) (by simp;omega) (appendVarint_full (base:=w.heap.size) (g:=w.heap.size+1) (x:=83) (y:=71) (n:=ds.length) (by omega) (by omega) (cell_two_any h1).1 (cell_two_any h1).2 (by simp;omega) (by have:=HW.out.few;omega)) (HD.out.below HB2.out) HW.out.docs HW.out.few (by simp))
 rw [← HNN.out] at C1
 clear hD hL hW hnn hmm hLc hB1 hB2
 have kc:=Lib.run_convert_bytes_const (P:=Tryz.prog) (w.alloc (.cells #[.slice aoD n cD,.slice aoL m cL] 91)) 51 5 #[.int .u8 83,.int .u8 71] 2 2 Tryz.underlying51 Tryz.underlying5
 rw [hsz0] at kc
 have kc2:∀ x,(.cells #[.int .u8 83,.int .u8 71] 5 ((#[.int .u8 83,.int .u8 71]:Array Value).size,(#[.int .u8 83,.int .u8 71]:Array Value).size+1):Obj)=x→x=.cells #[.int .u8 83,.int .u8 71] 5 (2,3):=fun x h=>h.symm.trans rfl
 rw [kc2 _ rfl] at kc
 clear h1 hsz0 kc2
 obtain ⟨k0,k1,_⟩:=cell_two2 HN0.out
 have hlt0:w.heap.size < ((w.alloc (.cells #[.slice aoD n cD,.slice aoL m cL] 91)).alloc (.cells #[.int .u8 83,.int .u8 71] 5 (2,3))).heap.size:=by simp;omega
 have HLT0:=hid hlt0
 have hvm:=vi_le m
 have HDL:=hid (encDocs_len HW.out.docs)
 have hvn:=vi_le n
 clear hlt0
 go_enter Tryz.func92,Tryz.ntmps92
 go_wp2_with (fail)
 refine C1.out.mono ?_
 generalize (w.alloc (.cells #[.slice aoD n cD,.slice aoL m cL] 91)).alloc (.cells #[.int .u8 83,.int .u8 71] 5 (2,3))=w0 at *
 rintro e w1 ⟨v1,rfl,hB1,hG1⟩
 have hG1b:=hG1.below (show w.heap.size≤w0.heap.size by have:=HLT0.out;omega)
 obtain ⟨g1,c1,a1,hv1,h5,h6⟩:=ownsRow_shape hB1
 clear h5 h6
 obtain ⟨l1,hl1⟩:∃ ll,ll=([83,71]++vi n++encDocs 0 ds).length:=⟨_,rfl⟩
 rw [← hl1] at hv1
 have HN1:=hid ((hG1.block _ HLT0.out (fun hz=>by obtain ⟨_,c,f,h2⟩:=hz;exact tag_ne HN0.out h2 (by decide) rfl)).trans HN0.out)
 have HW1:=hid (HB2.out.trans hG1b)
 have HB1:=hid hB1
 have HL1:Hid (([83,71]++vi n++encDocs 0 ds:Bs).length≤1600):=by
  have h1:=HDL.out
  have h2:=HW.out.few
  show _≤_
  rw [List.length_append,List.length_append]
  simp only [List.length_cons,List.length_nil]
  omega
 obtain ⟨j0,j1,_⟩:=cell_two2 HN1.out
 have C2:=hid (appendVarint_any (n:=m) HB1.out HW1.out.size (by omega) (by have:=HL1.out;omega))
 clear hl1 C1 hB1 hG1 hG1b k0 k1
 subst hv1
 go_wp2_with (fail)
 refine C2.out.mono ?_
 rintro e w2 ⟨v2,rfl,hB2,hG2⟩
 have hG2b:=hG2.below HW1.out.size
 obtain ⟨g2,c2,a2,hv2,h5,h6⟩:=ownsRow_shape hB2
 clear h5 h6
 obtain ⟨l2,hl2⟩:∃ ll,ll=([83,71]++vi n++encDocs 0 ds++vi m).length:=⟨_,rfl⟩
 rw [← hl2] at hv2
 have HN2:=hid ((hG2.block _ (lt_of_block' HN1.out) (fun hz=>by obtain ⟨_,c,f,h2⟩:=hz;exact tag_ne HN1.out h2 (by decide) rfl)).trans HN1.out)
 have HW2:=hid (HW1.out.trans hG2b)
 have HB2':=hid hB2
 have HL2:Hid (([83,71]++vi n++encDocs 0 ds++vi m:Bs).length≤1602+0 * 2500):=by
  have h1:=HL1.out
  show _≤_
  rw [List.length_append]
  omega
 have HEC:Hid (([83,71]++vi n++encDocs 0 ds++vi m)++encLists (lensOf ds) (ls.drop 0)=encC (ds,ls)):=show _=_ by
  simp [encC,HNN.out,HMM.out]
 obtain ⟨i0,i1,_⟩:=cell_two2 HN2.out
 clear hl2 C2 hB2 hG2 hG2b j0 j1
 subst hv2
 go_wp2_with (fail)
 go_loopw [3,19] (fun s3 s19 wr=>∃ (i:Nat) (l3:Bs),s19=.int .i64 (i:Int)∧i≤m∧Hid (l3.length≤1602+i * 2500)∧Hid (BRow wr w.heap.size s3 l3)∧Hid (Below w.heap.size w wr)∧Hid (l3++encLists (lensOf ds) (ls.drop i)=encC (ds,ls))) (fun _ s19 _=>m - (intOf s19).toNat)
 case atStart=>exact ⟨0,_,rfl,by omega,HL2,HB2',HW2,HEC⟩
 case round =>
  obtain ⟨i,l3,rfl,hi,HL3,HBr,HWr,HE⟩:=hrel
  obtain ⟨g3,c3,ao3,hv3,_,hao3⟩:=ownsRow_shape HBr.out
  obtain ⟨l4,hl4⟩:∃ ll,ll=l3.length:=⟨_,rfl⟩
  rw [← hl4] at hv3 hao3
  have hl3:=HL3.out
  have HL4:=hid hl4
  subst hv3
  clear hl4
  have hszr:=HWr.out.size
  by_cases hlt:i < m
  ·have hlti:(i:Int) < (m:Int):=by omega
   obtain ⟨x,hx⟩:∃ x,ls[i]?=some x:=⟨_,List.getElem?_eq_getElem (by rw [← HMM.out];exact hlt)⟩
   obtain ⟨vP,vH,hLS,q0,q1,q2⟩:=HLc.out i x hx
   obtain ⟨rfl,hgL⟩:=hLa (by omega)
   have q0:=below_c HWr.out hgL q0
   have q1:=below_c HWr.out hgL q1
   have q2:=below_c HWr.out hgL q2
   obtain ⟨t1,t2,t3,t4⟩:=HW.out.list x (List.mem_of_getElem? hx)
   rw [encLists_at hx] at HE
   obtain ⟨tk,ps⟩:=x
   simp only at q0 t1 t2 t3 t4 hLS
   have HLS:=hid (hLS.below HWr.out)
   obtain ⟨_,_,_,hvP,_⟩:=hLS.places
   obtain ⟨_,_,_,hvH,_⟩:=hLS.heads
   have HNp:=hid (heap_alloc_new wr (.cells #[lstV tk,vP,vH] 167))
   have HB3:=hid (HBr.out.alloc (.cells #[lstV tk,vP,vH] 167))
   have HW3:=hid (HWr.out.trans (((Below.refl wr.heap.size wr).alloc (Nat.le_refl _) (.cells #[lstV tk,vP,vH] 167)).mono hszr))
   have HLS3:=hid (HLS.out.below (((Below.refl wr.heap.size wr).alloc (Nat.le_refl _) (.cells #[lstV tk,vP,vH] 167)).mono hszr))
   have t4:Wrt n 0 ps:=by rw [HNN.out];exact t4
   have hen:=encList_len (lens:=lensOf ds) t4 hn1 t3 t1
   have C3:=hid (appendList_any HB3.out (Nat.le_trans hszr (by simp)) HLS3.out t4 t2 hn1 t3 t1 (by omega))
   have HEN:=hid hen
   have HE2:Hid ((l3++encList (lensOf ds) (tk,ps))++encLists (lensOf ds) (ls.drop (i+1))=encC (ds,ls)):=show _=_ by
    rw [← HE.out];simp
   have HLN:Hid ((l3++encList (lensOf ds) (tk,ps)).length≤1602+(i+1) * 2500):=by
    show _≤_
    rw [List.length_append]
    have:=HEN.out
    omega
   subst hvP hvH
   clear hx hLS hen
   go_wp2_with (fail)
   refine C3.out.mono ?_
   rintro e w5 ⟨v5,rfl,hB5,hG5⟩
   obtain ⟨g5,c5,a5,hv5,h5,h6⟩:=ownsRow_shape hB5
   obtain ⟨l5,hl5⟩:∃ ll,ll=(l3++encList (lensOf ds) (tk,ps)).length:=⟨_,rfl⟩
   rw [← hl5] at hv5
   have HW5:=hid (HW3.out.trans (hG5.below HW3.out.size))
   have HB5:=hid hB5
   clear hl5 C3 hB5 hG5 q0 q1 q2 h5 h6
   subst hv5
   go_wp2_with (fail)
   go_roundw
   case rel=>exact ⟨i+1,l3++encList (lensOf ds) (tk,ps),by go_num,by omega,HLN,HB5,HW5,HE2⟩
   case measure=>simp [intOf];omega
  ·have hlti:¬ ((i:Int) < (m:Int)):=by omega
   have HE2:Hid (l3=encC (ds,ls)):=show _=_ by
    rw [← HE.out,List.drop_eq_nil_of_le (by rw [← HMM.out];omega)];simp [encLists]
   have HBd:Hid (BRow wr.drew w.heap.size (.slice ao3 l4 c3) l3):=HBr.out
   have kr:=conv_row HBd.out
   have hck:=chk_len l3
   have hbig:¬ (9223372036854775807 < l3.length+(chk l3).length):=by omega
   have HBG:=hid hbig
   clear hck hbig hl3 hao3
   go_wp2_with (fail)
   have hs3:(⟨l3.toArray⟩:ByteArray).size≤100000000:=by simp [ByteArray.size];have:=HL3.out;omega
   have CK:=hid (checkOf_any ⟨l3.toArray⟩ wr.drew hs3)
   clear hs3
   go_region_with (refine CK.out.mono ?_;rintro e w6 ⟨rfl,hB6⟩;have kr6:=conv_row (BRow.after HBd.out hB6);have hbig:=HBG.out)
   all_goals go_wp2_with (fail)
   all_goals go_ret
   all_goals
    have HBx:Below w.heap.size w w6:=by
     have hwd:Below w.heap.size w wr.drew:=HWr.out.drew
     exact hwd.trans (hB6.mono HWr.out.size)
    refine ⟨?_,HBx⟩
    have hEx:=HE2.out
    show Ending.returned (.string ((⟨l3.toArray⟩:ByteArray)++⟨(chk l3).toArray⟩))=_
    rw [cat_two,hEx]
    rfl
end Go.Proofs.YtaacjjhmojecnaaGreatDoor
namespace Go.ScT
def addRes (key text:List UInt8) (N:Nat):Int:=if keyOk key=false then 1 else if 200 < text.length then 2 else if 40 < (toks text).length then 3 else if N=100 then 4 else 0
end Go.ScT
namespace Go.Proofs.YtaacjjhmojecnaaGreatDoor
open Go.RowKit Go.ScT Go.Proofs
set_option maxHeartbeats 1000000 in
set_option maxRecDepth 1000000 in
theorem refAdd_bad (w:World) (Z:Nat→Prop) (y:Nat) (ds:List (List UInt8 × Bool)) (v1 v2 v3 v4:Value) (xs:List Value) (ws:List Bool) (hRef:RefOk w Z y ds v1 v2 v3 v4 xs ws) (key text:List UInt8) (hm:key.length≤maxLen) (hmt:text.length≤maxLen)
 (hr:addRes key text ds.length≠0) :
 Calls Tryz.prog 119 #[.pointer (some ⟨y,0,none⟩),.string ⟨key.toArray⟩,.string ⟨text.toArray⟩] w fun e w'=>e=.returned (.int .i64 (addRes key text ds.length))∧RefOk w' Z y ds v1 v2 v3 v4 xs ws∧Turned Z w w':=by
 have CK:Hid (∀ w,Calls Tryz.prog 107 #[.string ⟨key.toArray⟩] w fun e w'=>e=.returned (.bool (keyOk key))∧w'=w):=fun w=>refIsKey_any ⟨key.toArray⟩ w (by show key.toArray.size≤maxLen;simpa using hm)
 clear hm
 unfold addRes at hr ⊢
 unfold maxLen at hmt
 by_cases hk:keyOk key=true
 ·rw [hk] at CK
  rw [hk] at hr ⊢
  simp only [Bool.true_eq_false,if_false] at hr ⊢
  clear hk
  by_cases ht:200 < text.length
  ·rw [if_pos ht] at hr ⊢
   clear hr
   go_enter Tryz.func119,Tryz.ntmps119
   go_wp2_with (go_at_call 107;refine (CK.out _).mono ?_;rintro e w' ⟨rfl,hw⟩;rw [hw];clear hw w')
   go_ret
   exact ⟨rfl,hRef,Turned.refl Z w⟩
  ·rw [if_neg ht] at hr ⊢
   have CS:Hid (∀ w,Calls Tryz.prog 57 #[.string ⟨text.toArray⟩] w fun e w'=>∃ v,e=.returned v∧w'.ownsRow w.heap.size 9 1 v (toks text).length ((toks text).map strV)∧Below w.heap.size w w'):=fun w=>refSplit_any ⟨text.toArray⟩ w (by show text.toArray.size≤1000000;simp;omega)
   have htl:=toks_len_le text
   generalize toks text=T at CS hr htl ⊢
   by_cases h40:40 < T.length
   ·rw [if_pos h40] at hr ⊢
    clear hr
    go_enter Tryz.func119,Tryz.ntmps119
    go_wp2_with (first
     | (go_at_call 107;refine (CK.out _).mono ?_;rintro e w' ⟨rfl,hw⟩;rw [hw];clear hw w')
     | (go_at_call 57;refine (CS.out _).mono ?_;rintro e w1 ⟨tv,rfl,htv,hb1⟩;have hR1:=hRef.turned (Turned.ofBelow (Z:=fun _=>False) hb1) (fun _ _ h=>h);obtain ⟨gt,capt,aot,htve,_,_⟩:=ownsRow_shape htv;rw [htve]))
    go_ret
    exact ⟨rfl,hR1,Turned.ofBelow hb1⟩
   ·rw [if_neg h40] at hr ⊢
    have hN:ds.length=100:=by
     apply Classical.byContradiction
     intro h
     rw [if_neg h] at hr
     exact hr rfl
    rw [if_pos hN]
    clear hr
    obtain ⟨g1,cap1,ao1,rfl,_,hao1⟩:=ownsRow_shape hRef.own1
    have HR:Hid (RefOk w Z y ds (.slice ao1 ds.length cap1) v2 v3 v4 xs ws):=hRef
    have hNb:((ds.length:Int) == 100)=true:=by simp;omega
    clear hRef hN
    go_enter Tryz.func119,Tryz.ntmps119
    go_wp2_with (first
     | (go_at_call 107;refine (CK.out _).mono ?_;rintro e w' ⟨rfl,hw⟩;rw [hw];clear hw w')
     | (go_at_call 57;refine (CS.out _).mono ?_;rintro e w1 ⟨tv,rfl,htv,hb1⟩;have hR1:=HR.out.turned (Turned.ofBelow (Z:=fun _=>False) hb1) (fun _ _ h=>h);have d0:=(cell_four hR1.eng).1;obtain ⟨gt,capt,aot,htve,_,_⟩:=ownsRow_shape htv;rw [htve]))
    go_ret
    exact ⟨rfl,hR1,Turned.ofBelow hb1⟩
 ·have hkf:keyOk key=false:=by simpa using hk
  rw [hkf] at CK
  rw [if_pos hkf]
  clear hk hr
  go_enter Tryz.func119,Tryz.ntmps119
  go_wp2_with (go_at_call 107;refine (CK.out _).mono ?_;rintro e w' ⟨rfl,hw⟩;rw [hw];clear hw w')
  go_ret
  exact ⟨rfl,hRef,Turned.refl Z w⟩
theorem addRes_zero (key text:List UInt8) (N:Nat) (h:addRes key text N=0):keyOk key=true∧text.length≤200∧(toks text).length≤40∧N≠100:=by
 unfold addRes at h
 split at h
 ·omega
 ·split at h
  ·omega
  ·split at h
   ·omega
   ·split at h
    ·omega
    ·rename_i h1 h2 h3 h4
     exact ⟨by simpa using h1,by omega,by omega,h4⟩
end Go.Proofs.YtaacjjhmojecnaaGreatDoor
namespace Go.Proofs.YtaacjjhmojecnaaGreatDoor
open Go.RowKit Go.ScT Go.Proofs Go.Shelf
abbrev Docs:=List (List UInt8 × Bool)
def UniqK (ds:Docs):Prop:=∀ (i j:Nat) (d d':List UInt8 × Bool),ds[i]?=some d→ds[j]?=some d'→d.2=true→d'.2=true→d.1=d'.1→i=j
theorem findK_iff:∀ (ds:Docs) (key:List UInt8),(findK ds key).isSome=true ↔ ∃ (j:Nat) (d:List UInt8 × Bool),ds[j]?=some d∧d.2=true∧d.1=key
 | [],key=>by simp [findK]
 | d :: r,key=>by
   simp only [findK]
   split
   ·rename_i h
    simp only [Option.isSome_some,true_iff]
    simp at h
    exact ⟨0,d,rfl,h.1,h.2⟩
   ·rename_i h
    rw [Option.isSome_map,findK_iff r key]
    constructor
    ·rintro ⟨j,d',h1,h2,h3⟩
     exact ⟨j+1,d',by simpa using h1,h2,h3⟩
    ·rintro ⟨j,d',h1,h2,h3⟩
     cases j with
     | zero =>
       simp at h1
       subst h1
       simp [h2,h3] at h
     | succ j=>exact ⟨j,d',by simpa using h1,h2,h3⟩
theorem findK_at:∀ (ds:Docs) (key:List UInt8) (i:Nat),findK ds key=some i→∃ d,ds[i]?=some d∧d.2=true∧d.1=key
 | [],key,i,h=>by simp [findK] at h
 | d :: r,key,i,h=>by
   simp only [findK] at h
   split at h
   ·rename_i h'
    simp at h'
    cases h
    exact ⟨d,rfl,h'.1,h'.2⟩
   ·obtain ⟨j,hj,rfl⟩:=Option.map_eq_some_iff.1 h
    obtain ⟨d',h1,h2,h3⟩:=findK_at r key j hj
    exact ⟨d',by simpa using h1,h2,h3⟩
theorem killAt_get (ds:Docs) (i j:Nat) (d:List UInt8 × Bool):(killAt ds i)[j]?=some d ↔ ∃ d',ds[j]?=some d'∧d=if i=j then (d'.1,false) else d':=by
 unfold killAt
 rw [List.getElem?_modify]
 cases ds[j]? with
 | none=>simp
 | some d'=>by_cases h:i=j <;> simp [h,eq_comm]
theorem liveN_kill:∀ (ds:Docs) (i:Nat) (d:List UInt8 × Bool),ds[i]?=some d→d.2=true→liveN (killAt ds i)+1=liveN ds
 | [],i,d,h,_=>by simp at h
 | x :: r,0,d,h,h2=>by
   simp at h
   subst h
   simp [killAt,liveN,h2]
 | x :: r,i+1,d,h,h2=>by
   have:=liveN_kill r i d (by simpa using h) h2
   simp only [killAt,liveN,List.modify_succ_cons,List.countP_cons] at this ⊢
   omega
structure LiveRel (DL:DataW Unit) (ds:Docs):Prop where
 uniq:UniqK ds
 has:∀ key,Maps.has DL (.string key)=(findK ds key).isSome
 size:Maps.size DL=liveN ds
theorem LiveRel.start:LiveRel (.map []) []:=⟨fun i j d d' h=>by simp at h,fun key=>rfl,rfl⟩
theorem LiveRel.kill {DL:DataW Unit} {ds:Docs} (h:LiveRel DL ds) (ht:Maps.Tidy DL) (key:List UInt8) (i:Nat) (hi:findK ds key=some i):LiveRel (DL.del (.string key)) (killAt ds i):=by
 obtain ⟨d0,e1,e2,e3⟩:=findK_at ds key i hi
 have hhas:Maps.has DL (.string key)=true:=by rw [h.has,hi];rfl
 refine ⟨fun a b d d' ha hb hd hd' hk=>?_,fun key'=>?_,?_⟩
 ·obtain ⟨x,hx,rfl⟩:=(killAt_get ds i a d).1 ha
  obtain ⟨y,hy,rfl⟩:=(killAt_get ds i b d').1 hb
  by_cases ea:i=a
  ·simp [ea] at hd
  ·by_cases eb:i=b
   ·simp [eb] at hd'
   ·simp only [ea,eb,if_false] at hd hd' hk
    exact h.uniq a b x y hx hy hd hd' hk
 ·by_cases hk:key'=key
  ·subst hk
   rw [Maps.has_del_same]
   cases hf:(findK (killAt ds i) key').isSome with
   | false=>rfl
   | true =>
     exfalso
     obtain ⟨j,d,hj,hd,hdk⟩:=(findK_iff _ _).1 hf
     obtain ⟨x,hx,rfl⟩:=(killAt_get ds i j d).1 hj
     by_cases e:i=j
     ·simp [e] at hd
     ·simp only [e,if_false] at hd hdk
      exact e (h.uniq i j d0 x e1 hx e2 hd (e3.trans hdk.symm))
  ·rw [Maps.has_del_other (fun e=>hk (by cases e;rfl)),h.has,Bool.eq_iff_iff,findK_iff,findK_iff]
   constructor
   ·rintro ⟨j,d,hj,hd,hdk⟩
    have e:i≠j:=fun e=>by
     subst e
     rw [e1] at hj
     cases hj
     exact hk (hdk.symm.trans e3)
    exact ⟨j,d,(killAt_get ds i j d).2 ⟨d,hj,by simp [e]⟩,hd,hdk⟩
   ·rintro ⟨j,d,hj,hd,hdk⟩
    obtain ⟨x,hx,rfl⟩:=(killAt_get ds i j d).1 hj
    by_cases e:i=j
    ·simp [e] at hd
    ·simp only [e,if_false] at hd hdk
     exact ⟨j,x,hx,hd,hdk⟩
 ·have h1:=Maps.size_del (k:=.string key) ht
  rw [hhas,h.size] at h1
  have h2:=liveN_kill ds i d0 e1 e2
  simp at h1
  omega
theorem LiveRel.push {DL:DataW Unit} {ds:Docs} (h:LiveRel DL ds) (ht:Maps.Tidy DL) (key:List UInt8) (hn:findK ds key=none) (d:DataW Unit) (hkl:WideAt.IsKeyLit (.string key)):LiveRel (DL.put (.string key) d) (ds++[(key,true)]):=by
 have hhas:Maps.has DL (.string key)=false:=by rw [h.has,hn];rfl
 have hnone:∀ (j:Nat) (x:List UInt8 × Bool),ds[j]?=some x→x.2=true→x.1≠key:=fun j x hj hx hk=>by
  have:=(findK_iff ds key).2 ⟨j,x,hj,hx,hk⟩
  rw [hn] at this
  cases this
 have app:∀ (j:Nat) (x:List UInt8 × Bool),(ds++[(key,true)])[j]?=some x ↔ ds[j]?=some x∨(j=ds.length∧x=(key,true)):=by
  intro j x
  rw [List.getElem?_append]
  split
  ·rename_i hl
   exact ⟨Or.inl,fun h=>h.elim id (fun h=>by omega)⟩
  ·rename_i hl
   rw [List.getElem?_eq_none (l:=ds) (by omega)]
   constructor
   ·intro h
    have h0:=(List.getElem?_eq_some_iff.1 h).1
    simp at h0
    have:j - ds.length=0:=by omega
    rw [this] at h
    simp at h
    exact Or.inr ⟨by omega,h.symm⟩
   ·rintro (h | ⟨rfl,rfl⟩)
    ·cases h
    ·simp
 refine ⟨fun a b x y ha hb hx hy hk=>?_,fun key'=>?_,?_⟩
 ·rcases (app a x).1 ha with ha | ⟨ea,exa⟩ <;> rcases (app b y).1 hb with hb | ⟨eb,exb⟩
  ·exact h.uniq a b x y ha hb hx hy hk
  ·subst exb
   exact absurd hk (hnone a x ha hx)
  ·subst exa
   exact absurd hk.symm (hnone b y hb hy)
  ·omega
 ·by_cases hk:key'=key
  ·subst hk
   rw [Maps.has_put_same ht.isMap hkl,eq_comm,findK_iff]
   exact ⟨ds.length,(key',true),(app _ _).2 (Or.inr ⟨rfl,rfl⟩),rfl,rfl⟩
  ·rw [Maps.has_put_other (fun e=>hk (by cases e;rfl)),h.has,Bool.eq_iff_iff,findK_iff,findK_iff]
   constructor
   ·rintro ⟨j,x,hj,hx,hxk⟩
    exact ⟨j,x,(app j x).2 (Or.inl hj),hx,hxk⟩
   ·rintro ⟨j,x,hj,hx,hxk⟩
    rcases (app j x).1 hj with hj | ⟨_,rfl⟩
    ·exact ⟨j,x,hj,hx,hxk⟩
    ·exact absurd hxk.symm hk
 ·rw [Maps.size_put ht,hhas,h.size]
  simp [liveN,List.countP_append]
open Go.Maps (Keyed string_keyed)
def Tryz.lays316_ren:Go.Shelf.Ren:=⟨fun | 316=>180 | n=>n,fun | 0=>0 | 3=>3 | 4=>4 | 5=>5 | 9=>9 | 37=>51 | 127=>260 | n=>n,fun | n=>n⟩
theorem Tryz.lays316:Go.Proofs.LaysM.n316 Tryz.prog Tryz.lays316_ren:={
 mixed:=by kernel_rfl
 f316:=Tryz.func180.trans (congrArg some (by kernel_rfl))
 t0:=Tryz.underlying0
 a0:=Tryz.isAgg0
 z0:=Tryz.sizeOf0
 v0:=Tryz.zeroValue0
 t3:=Tryz.underlying3
 a3:=Tryz.isAgg3
 z3:=Tryz.sizeOf3
 v3:=Tryz.zeroValue3
 t4:=Tryz.underlying4
 a4:=Tryz.isAgg4
 z4:=Tryz.sizeOf4
 v4:=Tryz.zeroValue4
 t5:=Tryz.underlying5
 a5:=Tryz.isAgg5
 z5:=Tryz.sizeOf5
 v5:=Tryz.zeroValue5
 t9:=Tryz.underlying9
 a9:=Tryz.isAgg9
 z9:=Tryz.sizeOf9
 v9:=Tryz.zeroValue9
 t37:=Tryz.underlying51
 a37:=Tryz.isAgg51
 z37:=Tryz.sizeOf51
 v37:=Tryz.zeroValue51
 t127:=Tryz.underlying260
 a127:=Tryz.isAgg260
 z127:=Tryz.sizeOf260
 v127:=Tryz.zeroValue260
 i0:=by kernel_rfl
 i3:=by kernel_rfl
 i4:=by kernel_rfl
 i5:=by kernel_rfl
 i9:=by kernel_rfl
 i37:=by kernel_rfl
 i127:=by kernel_rfl }
theorem clone96 (s:ByteArray) (w:World) (hs:s.size≤281474976710656):Calls Tryz.prog 180 #[.string s] w fun e w'=>e=.returned (.string s)∧Below w.heap.size w w':=Any.stringslite_Clone Tryz.lays316 s w hs
theorem clone_any (s:ByteArray) (w:World) (hs:s.size≤281474976710656):Calls Tryz.prog 98 #[.string s] w fun e w'=>e=.returned (.string s)∧Below w.heap.size w w':=by
 have C:Hid (Calls Tryz.prog 180 #[.string s] w fun e w'=>e=.returned (.string s)∧Below w.heap.size w w'):=clone96 s w hs
 go_enter Tryz.func98,Tryz.ntmps98
 go_wp2_with (go_at_call 180;refine C.out.mono ?_;rintro e w' ⟨rfl,hb⟩)
 go_ret
 exact ⟨rfl,hb⟩
theorem key9 {key:List UInt8} (hk:key.length≤maxLen):keyOf Tryz.prog 9 (.string ⟨key.toArray⟩)=some (.string key):=by
 have:=WideMaps.keyOf_string_mk (P:=Tryz.prog) Tryz.underlying9 (s:=⟨key.toArray⟩) (by show key.toArray.size≤maxLen;simpa using hk)
 simpa using this
end Go.Proofs.YtaacjjhmojecnaaGreatDoor
namespace Go.Proofs.YtaacjjhmojecnaaGreatDoor
open Go.RowKit Go.ScT Go.Proofs Go.Shelf
theorem Turned.drew {Z:Nat→Prop} (w:World):Turned Z w w.drew:=⟨rfl,rfl,rfl,Nat.le_refl _,fun _ _ _=>rfl⟩
open Go.Maps (Keyed string_keyed)
def keysE (E:List EDoc):Docs:=E.map fun d=>(d.key,d.live)
structure EngX (w:World) (Z:Nat→Prop) (e:Nat) (E:List EDoc) (ss:List Bs) (ml mw:Nat) (sv dv:Value) (β:BT) (nW:Nat) (DL DW:DataW Unit):Prop where
 buf:BufX w e mw (.int .i64 (E.length:Int)) (.map (some ml)) sv dv (wdocs 0 E) β (fun k=>wplaces k 0 E) nW DW
 live:w.ownsMap Tryz.prog 9 (plainElem Tryz.prog 3) ml E.length DL
 rel:LiveRel DL (keysE E)
 num:∀ key i,findK (keysE E) key=some i→∀ zd,DL.atKey (.string key) zd=.lit (.int .i64 ((i:Int)+1))
 segs:w.ownsRow 0 9 1 sv ss.length (ss.map strV)
 nW:nW≤40 * E.length
 le:ml≠e
 lw:ml≠mw
 lT:¬ InW β (fun k=>wplaces k 0 E) ml
 lD:∀ g,dv.ownBlock=some g→g≠ml
 sN:∀ g,sv.ownBlock=some g→g≠ml∧¬ ZX e mw dv β (fun k=>wplaces k 0 E) g
 zl:Z ml
 zX:∀ b,ZX e mw dv β (fun k=>wplaces k 0 E) b→Z b
 zS:∀ g,sv.ownBlock=some g→Z g
def EngXOk (w:World) (Z:Nat→Prop) (e:Nat) (E:List EDoc) (ss:List Bs):Prop:=∃ ml mw sv dv β nW DL DW,EngX w Z e E ss ml mw sv dv β nW DL DW
theorem EngX.turned {w w':World} {Z Z':Nat→Prop} {e:Nat} {E:List EDoc} {ss:List Bs} {ml mw:Nat} {sv dv:Value} {β:BT} {nW:Nat} {DL DW:DataW Unit} (h:EngX w Z e E ss ml mw sv dv β nW DL DW) (ht:Turned Z' w w') (hz:∀ g,Z g→¬ Z' g):EngX w' Z e E ss ml mw sv dv β nW DL DW :=
 ⟨h.buf.turned ht (fun b hb=>hz b (h.zX b hb)),ownsMap_turned h.live ht (hz ml h.zl),h.rel,h.num,rowX_turned h.segs ht (fun g hg=>hz g (h.zS g hg)),h.nW,h.le,h.lw,h.lT,h.lD,h.sN,h.zl,h.zX,h.zS⟩
theorem EngXOk.turned {w w':World} {Z Z':Nat→Prop} {e:Nat} {E:List EDoc} {ss:List Bs} (h:EngXOk w Z e E ss) (ht:Turned Z' w w') (hz:∀ g,Z g→¬ Z' g):EngXOk w' Z e E ss:=by
 obtain ⟨ml,mw,sv,dv,β,nW,DL,DW,h⟩:=h
 exact ⟨ml,mw,sv,dv,β,nW,DL,DW,h.turned ht hz⟩
theorem EngXOk.zone {w:World} {Z Z':Nat→Prop} {e:Nat} {E:List EDoc} {ss:List Bs} (h:EngXOk w Z e E ss) (hz:∀ b,Z b→Z' b):EngXOk w Z' e E ss:=by
 obtain ⟨ml,mw,sv,dv,β,nW,DL,DW,h⟩:=h
 exact ⟨ml,mw,sv,dv,β,nW,DL,DW,⟨h.buf,h.live,h.rel,h.num,h.segs,h.nW,h.le,h.lw,h.lT,h.lD,h.sN,hz _ h.zl,fun b hb=>hz b (h.zX b hb),fun g hg=>hz g (h.zS g hg)⟩⟩
theorem keysE_kill (E:List EDoc) (i:Nat):keysE (killE E i)=killAt (keysE E) i:=by
 apply List.ext_getElem?
 intro j
 simp only [keysE,killE,killAt,List.getElem?_map,List.getElem?_modify]
 by_cases h:i=j
 ·subst h
  cases E[i]? <;> simp
 ·cases E[j]? <;> simp [h]
theorem killE_len (E:List EDoc) (i:Nat):(killE E i).length=E.length:=by simp [killE]
theorem findK_of_kill {ds:Docs} (hu:UniqK ds) {i j:Nat} {key:Bs} (h:findK (killAt ds i) key=some j):findK ds key=some j∧i≠j:=by
 obtain ⟨d,h1,h2,h3⟩:=findK_at _ _ _ h
 obtain ⟨d',h4,h5⟩:=(killAt_get ds i j d).1 h1
 by_cases e:i=j
 ·rw [if_pos e] at h5
  subst h5
  cases h2
 ·rw [if_neg e] at h5
  subst h5
  have h6:=(findK_iff ds key).2 ⟨j,d,h4,h2,h3⟩
  obtain ⟨j',hj'⟩:=Option.isSome_iff_exists.1 h6
  obtain ⟨d2,q1,q2,q3⟩:=findK_at _ _ _ hj'
  have:=hu j' j d2 d q1 h4 q2 h2 (q3.trans h3.symm)
  rw [hj',this]
  exact ⟨rfl,e⟩
theorem wplaces_bnd {E:List EDoc} {N:Nat} (hN:∀ d∈E,d.toks.length≤N) (k:Bs):∀ n,(wplaces k n E).length≤E.length∧∀ p∈wplaces k n E,p.2≤N:=by
 induction E with
 | nil=>intro n;simp [wplaces]
 | cons d r ih =>
   intro n
   obtain ⟨h1,h2⟩:=ih (fun d hd=>hN d (List.mem_cons_of_mem _ hd)) (n+1)
   unfold wplaces
   split
   ·refine ⟨by simp;omega,fun p hp=>?_⟩
    rcases List.mem_cons.1 hp with rfl | hp
    ·exact Nat.le_trans List.count_le_length (hN d (by simp))
    ·exact h2 p hp
   ·exact ⟨by simp;omega,h2⟩
theorem wdocs_len:∀ (E:List EDoc) (n:Nat),(wdocs n E).length≤E.length
 | [],_=>by simp [wdocs]
 | d :: r,n=>by
   have:=wdocs_len r (n+1)
   unfold wdocs
   split <;> simp <;> omega
def retE (E:List EDoc) (key:Bs):List EDoc:=match findK (keysE E) key with | some i=>killE E i | none=>E
theorem retE_some {E:List EDoc} {key:Bs} {i:Nat} (h:findK (keysE E) key=some i):retE E key=killE E i:=by simp [retE,h]
theorem retE_none {E:List EDoc} {key:Bs} (h:findK (keysE E) key=none):retE E key=E:=by simp [retE,h]
theorem ZX_kill {e mw i b:Nat} {dv dv2:Value} {β:BT} {E:List EDoc} (hd:dv2.ownBlock=dv.ownBlock) (h:ZX e mw dv2 β (fun k=>wplaces k 0 (killE E i)) b):ZX e mw dv β (fun k=>wplaces k 0 E) b:=by
 rcases h with h | h | h | h
 ·exact Or.inl h
 ·exact Or.inr (Or.inl h)
 ·exact Or.inr (Or.inr (Or.inl (hd ▸ h)))
 ·rw [← less_wplaces E i] at h
  exact Or.inr (Or.inr (Or.inr (inW_less (f:=fun k=>wplaces k 0 E) h)))
theorem retireX_done {w w1 w2:World} {Z:Nat→Prop} {e:Nat} {E:List EDoc} {ss:List Bs} {ml mw:Nat} {sv dv dv2:Value} {β:BT} {nW:Nat} {DL DW DW2:DataW Unit} (h:EngX w Z e E ss ml mw sv dv β nW DL DW) (key:Bs) (i:Nat) (hf:findK (keysE E) key=some i)
 (hown1:w1.ownsMap Tryz.prog 9 (plainElem Tryz.prog 3) ml E.length (DL.del (.string key))) (t1:Turned (fun b=>b=ml) w w1) (hB2:BufX w2 e mw (.int .i64 (E.length:Int)) (.map (some ml)) sv dv2 (lessD (i+1) (wdocs 0 E)) β (fun k=>less (i+1) (wplaces k 0 E)) nW DW2) (hdv2:dv2.ownBlock=dv.ownBlock) (ht2:Turned (ZX e mw dv β (fun k=>wplaces k 0 E)) w1 w2) :
 EngXOk w2 Z e (killE E i) ss∧Turned Z w w2:=by
 have hlen:=killE_len E i
 have hwd:=wdocs_kill E 0 i
 rw [Nat.zero_add] at hwd
 rw [hwd,less_wplaces] at hB2
 have t2:Turned Z w w2:=(t1.mono (fun b _ hb=>by rw [hb];exact h.zl)).trans (ht2.mono (fun b _ hb=>h.zX b hb))
 refine ⟨⟨ml,mw,sv,dv2,β,nW,DL.del (.string key),DW2,⟨by rw [hlen];exact hB2,?_,?_,fun key' j hj zd=>?_,?_,by rw [hlen];exact h.nW,h.le,h.lw,?_,fun g hg=>h.lD g (hdv2 ▸ hg),fun g hg=>⟨(h.sN g hg).1,fun hz=>(h.sN g hg).2 (ZX_kill hdv2 hz)⟩,h.zl,fun b hb=>h.zX b (ZX_kill hdv2 hb),h.zS⟩⟩,t2⟩
 ·rw [hlen]
  refine ownsMap_turned hown1 ht2 ?_
  rintro (he | he | he | he)
  ·exact h.le he
  ·exact h.lw he
  ·exact h.lD _ he rfl
  ·exact h.lT he
 ·rw [keysE_kill]
  exact h.rel.kill (h.live.tidy law9) key i hf
 ·rw [keysE_kill] at hj
  obtain ⟨h1,h2⟩:=findK_of_kill h.rel.uniq hj
  have hne:key'≠key:=fun e'=>by
   rw [e',hf] at h1
   exact h2 (by cases h1;rfl)
  rw [Maps.atKey_del_other (strLit_ne hne)]
  exact h.num key' j h1 zd
 ·refine rowX_turned (rowX_turned h.segs t1 (fun g hg he=>(h.sN g hg).1 he)) ht2 (fun g hg he=>(h.sN g hg).2 he)
 ·intro hl
  rw [← less_wplaces E i] at hl
  exact h.lT (inW_less (f:=fun k=>wplaces k 0 E) hl)
theorem EngX.buf1 {w w1:World} {Z:Nat→Prop} {e:Nat} {E:List EDoc} {ss:List Bs} {ml mw:Nat} {sv dv:Value} {β:BT} {nW:Nat} {DL DW:DataW Unit} (h:EngX w Z e E ss ml mw sv dv β nW DL DW) (t1:Turned (fun b=>b=ml) w w1):BufX w1 e mw (.int .i64 (E.length:Int)) (.map (some ml)) sv dv (wdocs 0 E) β (fun k=>wplaces k 0 E) nW DW :=
 h.buf.turned t1 (fun b hb=>by
  rintro rfl
  rcases hb with hb | hb | hb | hb
  ·exact h.le hb
  ·exact h.lw hb
  ·exact h.lD _ hb rfl
  ·exact h.lT hb)
set_option maxHeartbeats 1000000 in
set_option maxRecDepth 1000000 in
theorem retireX_any {w:World} {Z:Nat→Prop} {e:Nat} {E:List EDoc} {ss:List Bs} (h:EngXOk w Z e E ss) (hl:E.length≤100) (ht:∀ d∈E,d.toks.length≤40) {key:Bs} (hk:key.length≤maxLen) :
 Calls Tryz.prog 47 #[.pointer (some ⟨e,0,none⟩),.string ⟨key.toArray⟩] w fun en w'=>en=.returned (.bool (findK (keysE E) key).isSome)∧EngXOk w' Z e (retE E key) ss∧Turned Z w w':=by
 obtain ⟨ml,mw,sv,dv,β,nW,DL,DW,h⟩:=h
 have q1:=(cell_five h.buf.eng).2.1
 obtain ⟨v,ps,hlk,hv⟩:=h.live.look_ok law9 Tryz.underlying81 (Tryz.zeroValue3 w) (zd:=.lit (.int .i64 0)) (zp:=[]) (plainElem_int Tryz.underlying3 (by decide)) (key9 hk)
 obtain ⟨c,rfl,hc,_⟩:=plainElem_int_inv Tryz.underlying3 hv
 rw [h.rel.has] at hlk
 clear hv
 cases hf:findK (keysE E) key with
 | none =>
   rw [hf] at hlk
   have HE:Hid (EngXOk w Z e (retE E key) ss):=by
    show EngXOk _ _ _ _ _
    rw [retE_none hf]
    exact ⟨ml,mw,sv,dv,β,nW,DL,DW,h⟩
   simp only [Option.isSome_none] at hlk ⊢
   clear h hc
   go_enter Tryz.func47,Tryz.ntmps47
   go_wp2
   go_ret
   exact ⟨rfl,HE.out,Turned.refl Z w⟩
 | some i =>
   rw [hf] at hlk
   simp only [Option.isSome_some] at hlk ⊢
   rw [retE_some hf]
   have hci:c=(i:Int)+1:=by
    have h1:=h.num key i hf (.lit (.int .i64 0))
    rw [Prod.ext_iff] at hc
    have h2:=hc.1.symm.trans h1
    simp at h2
    exact h2
   subst hci
   have hnW:nW < maxLen:=by have:=h.nW;unfold maxLen;omega
   have H:=hid h
   have HK:=hid (key9 hk)
   have HF:=hid hf
   have hwl:(wdocs 0 E).length≤10000:=Nat.le_trans (wdocs_len E 0) (by omega)
   have hbl:∀ k,(wplaces k 0 E).length≤10000:=fun k=>Nat.le_trans (wplaces_bnd ht k 0).1 (by omega)
   have HWL:=hid hwl
   have HBL:=hid hbl
   obtain ⟨n,hn⟩:∃ n,n=E.length:=⟨_,rfl⟩
   clear h hc hwl hbl hf
   go_enter Tryz.func47,Tryz.ntmps47
   go_wp2_with (first
    | (at_delete;refine wpList_delete_own _ rfl _ _ 81 9 rfl 3 law9 Tryz.underlying81 (plainElem Tryz.prog 3) ml E.length DL rfl H.out.live (.string ⟨key.toArray⟩) (.string key) rfl HK.out ?_;intro w1 hown1 hturn1;have t1:Turned (fun b=>b=ml) w w1:=Turned.ofGrown hturn1.grown (fun k hk _=>by cases hk;rfl);have HB1:=hid (H.out.buf1 t1))
    | (go_at_call 83;refine (dropX_any HB1.out HWL.out HBL.out hnW (i+1)).mono ?_;rintro en w2 ⟨rfl,⟨dv2,DW2,hB2,hdv2⟩,ht2⟩))
   go_ret
   have FIN:=retireX_done H.out key i HF.out hown1 t1 hB2 hdv2 ht2
   exact ⟨rfl,FIN.1,FIN.2⟩
end Go.Proofs.YtaacjjhmojecnaaGreatDoor
