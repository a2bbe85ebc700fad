import Derived.Test.YtaacjjhmojecnaaGreatDoorQ37
namespace Go.Proofs.YtaacjjhmojecnaaGreatDoor
open Go.RowKit Go.ScT Go.Proofs
theorem two_byte {w:World} {g cap k j base:Nat} {l:Bs} (hk:k < 256) (hj:j < 256) (h:w.ownsRow base 5 1 (.slice (some ⟨g,0,none⟩) (l.length+2) cap) (l.length+2) (Lib.byteCells l++[.int .u8 (k:Int),.int .u8 (j:Int)])):BRow w base (.slice (some ⟨g,0,none⟩) (l.length+2) cap) (l++[byt k,byt j]):=by
 unfold BRow
 rw [show l++[byt k,byt j]=l++[byt k]++[byt j] by simp,Lib.byteCells_append,Lib.byteCells_append,byte_one k hk,byte_one j hj]
 simpa using h
def Wrt (n next:Nat) (ps:Pls):Prop:=Ris n next ps∧∀ p∈ps,p.2≤40
theorem bl_small {l:List Nat} (h:∀ x∈l,x < 256):wd l≤8:=wd_le.2 (fun n hn=>by have:=h n hn;simpa using this)
set_option maxHeartbeats 1000000 in
set_option maxRecDepth 1000000 in
theorem appendBody_any {w:World} {base g o cap next n:Nat} {v:Value} {l:Bs} {ps:Pls} (h:BRow w base v l) (hb:base≤w.heap.size) (hv:∀ i p,ps[i]?=some p→w.cell? ⟨g,o+i * 2,none⟩=some (natV p.1)∧w.cell? ⟨g,o+i * 2+1,none⟩=some (natV p.2)) (hg:g < w.heap.size) (h1:1≤ps.length) (h4:ps.length≤4) (hp:Wrt n next ps) (hn:n≤100) (hx:next≤100) (hl:l.length≤24000000) :
 Calls Tryz.prog 242 #[v,.slice (some ⟨g,o,none⟩) ps.length cap,.int .i64 (next:Int)] w fun e w'=>∃ v',e=.returned v'∧BRow w' base v' (l++body (stp next ps) (rep ps))∧Grew base w w':=by
 obtain ⟨i5,hi1,ha0,ha1,ha2⟩:=info_parts info5
 have hi3':(Tryz.prog.info? 3).map (fun i=>(i.zero,i.size,i.bytes))=some (some (.int .i64 0),1,8):=by kernel_rfl
 obtain ⟨i3,hi3,hy0,hy1,hy2⟩:=info_parts hi3'
 clear hi3'
 obtain ⟨k,hk⟩:∃ k,k=ps.length:=⟨_,rfl⟩
 rw [← hk] at h1 h4 ⊢
 have HK:=hid hk
 have HB:=hid h
 have HV:=hid hv
 obtain ⟨hr,hc⟩:=hp
 have HC:=hid hc
 obtain ⟨gv,cv,ao,hve,_,_⟩:=ownsRow_shape h
 obtain ⟨ll,hll⟩:∃ ll,ll=l.length:=⟨_,rfl⟩
 rw [← hll] at hve hl
 have HLL:=hid hll
 have HRi:=hid hr
 subst hve
 clear h hv hk hc hr hll
 go_enter Tryz.func242,Tryz.ntmps242
 go_wp2_with (fail)
 go_loopw [2,7,8,13] (fun s2 s7 s8 s13 wr=>∃ (i nx:Nat) (ss rr:List Nat),s13=.int .i64 (i:Int)∧s2=.int .i64 (nx:Int)∧i≤k∧nx≤100∧Hid (ss.length=i)∧Hid (rr.length=i)∧Hid (∀ x∈ss,x≤100)∧Hid (∀ x∈rr,x≤40)∧Hid (TwoRows wr w.heap.size s7 s8 ss rr)∧Hid (Below w.heap.size w wr)∧Hid (Ris n nx (ps.drop i))∧Hid (ss++stp nx (ps.drop i)=stp next ps)∧Hid (rr++rep (ps.drop i)=rep ps)) (fun _ _ _ s13 _=>k - (intOf s13).toNat)
 case atStart=>exact ⟨0,next,[],[],rfl,rfl,by omega,hx,rfl,rfl,fun x h=>by simp at h,fun x h=>by simp at h,hid ⟨⟨rfl,Or.inl ⟨rfl,rfl⟩⟩,⟨rfl,Or.inl ⟨rfl,rfl⟩⟩,fun g h1=>by simp [Value.ownBlock] at h1⟩,Below.refl _ _,HRi,rfl,rfl⟩
 case round =>
  obtain ⟨i,nx,ss,rr,rfl,rfl,hi,hnx,HSL,HRL,HSB,HRB,HO,HBw,HRs,HES,HER⟩:=hrel
  obtain ⟨g7,c7,a7,hv7,_,hao7⟩:=ownsRow_shape HO.out.one
  obtain ⟨g8,c8,a8,hv8,_,hao8⟩:=ownsRow_shape HO.out.two
  rw [HSL.out] at hv7 hao7
  rw [HRL.out] at hv8 hao8
  subst hv7 hv8
  have hszr:=HBw.out.size
  by_cases hlt:i < k
  ·have hlti:(i:Int) < (k:Int):=by omega
   obtain ⟨p,hp⟩:∃ p,ps[i]?=some p:=⟨_,List.getElem?_eq_getElem (by rw [← HK.out];exact hlt)⟩
   have hpc:=HC.out p (List.mem_of_getElem? hp)
   obtain ⟨q0,q1⟩:=HV.out i p hp
   rw [← HBw.out.cell hg] at q0 q1
   rw [drop_at hp] at HRs HES HER
   obtain ⟨x,y⟩:=p
   simp only at q0 q1 hpc
   obtain ⟨r1,r2,r3,r4⟩:=HRs.out
   simp only at r1 r2 r3
   obtain ⟨d,hd⟩:∃ d,x=nx+d:=⟨x - nx,by omega⟩
   obtain ⟨c,hc⟩:∃ c,y=c+1:=⟨y - 1,by omega⟩
   have HES2:Hid (ss++[d]++stp (x+1) (ps.drop (i+1))=stp next ps):=show _=_ by
    rw [← HES.out];simp [stp,hd]
   have HER2:Hid (rr++[c]++rep (ps.drop (i+1))=rep ps):=show _=_ by
    rw [← HER.out];simp [rep,hc]
   have HR4:=hid r4
   have e1:(x:Int) - (nx:Int)=(d:Int):=by omega
   have e2:(y:Int) - 1=(c:Int):=by omega
   have hd1:d≤100:=by omega
   have hc1:c≤40:=by omega
   clear hp r4 hd hc
   have hN:=heap_alloc_new wr (.cells #[.int .i64 (x:Int),.int .i64 (y:Int)] 169)
   have HO2:=hid (HO.out.turned (Turned.ofAlloc (Z:=fun _=>False) wr (.cells #[.int .i64 (x:Int),.int .i64 (y:Int)] 169)) (fun _ _ e=>e))
   have HB2:=hid (HBw.out.trans (((Below.refl wr.heap.size wr).alloc (Nat.le_refl _) (.cells #[.int .i64 (x:Int),.int .i64 (y:Int)] 169)).mono hszr))
   have HNa:=hid hN
   have hpbl:wr.heap.size < (wr.alloc (.cells #[.int .i64 (x:Int),.int .i64 (y:Int)] 169)).heap.size:=by simp
   have hl7:∀ g,(Value.slice a7 i c7).ownBlock=some g→g < wr.heap.size:=fun g hg=>(HO.out.one.lt g hg).2
   have hl8:∀ g,(Value.slice a8 i c8).ownBlock=some g→g < wr.heap.size:=fun g hg=>(HO.out.two.lt g hg).2
   have hne7:(Value.slice a7 i c7).ownBlock≠some wr.heap.size:=fun e=>by have:=hl7 _ e;omega
   have hne8:(Value.slice a8 i c8).ownBlock≠some wr.heap.size:=fun e=>by have:=hl8 _ e;omega
   have nc:∀ o2,((wr.alloc (.cells #[.int .i64 (x:Int),.int .i64 (y:Int)] 169)).alloc o2).cell? ⟨wr.heap.size,1,none⟩=some (.int .i64 (y:Int)):=fun o2=>by rw [World.cell?_of_block (Below.heap_alloc _ _ _ hpbl)];exact (cell_two2 HNa.out).2.1
   have nc0:∀ o2,((wr.alloc (.cells #[.int .i64 (x:Int),.int .i64 (y:Int)] 169)).alloc o2).cell? ⟨wr.heap.size,0,none⟩=some (.int .i64 (x:Int)):=fun o2=>by rw [World.cell?_of_block (Below.heap_alloc _ _ _ hpbl)];exact (cell_two2 HNa.out).1
   have hW:(wr.alloc (.cells #[.int .i64 (x:Int),.int .i64 (y:Int)] 169)).heap.size=wr.heap.size+1:=by simp
   have HWS:Hid (wr.heap.size+1+1=(wr.alloc (.cells #[.int .i64 (x:Int),.int .i64 (y:Int)] 169)).heap.size+1):=show _=_ by rw [hW]
   have HNW:Hid (∀ j u,[natV d][j]?=some u→((wr.alloc (.cells #[.int .i64 (x:Int),.int .i64 (y:Int)] 169)).alloc (.cells #[.int .i64 (d:Int)] 3)).cell? ((⟨wr.heap.size+1,0,none⟩:Addr).add j)=some u):=by
    have h1:=heap_alloc_new (wr.alloc (.cells #[.int .i64 (x:Int),.int .i64 (y:Int)] 169)) (.cells #[.int .i64 (d:Int)] 3)
    rw [hW] at h1
    exact World.news_of_block h1
   clear hW
   have HNC:=hid nc
   have HNC0:=hid nc0
   clear hN nc nc0
   go_wp2_with (first
    | (at_builtin;refine wpList_append_lies _ rfl _ _ 35 rfl w.heap.size 3 i3 (.int .i64 0) 1 8 Tryz.underlying35 hi3 hy0 hy1 hy2 rfl (by decide) _ _ _ rfl (HO2.out.one.alloc _) ⟨wr.heap.size+1,0,none⟩ 1 1 [natV d] rfl rfl HNW.out (fun x hx=>by simp at hx;subst hx;rfl) (by omega) (by rw [HSL.out];unfold maxLen;omega) (by rw [HSL.out];omega) (by simp;omega) (wr.heap.size+1+1) (by simp) ?_;intro gA capA w5 hownA hgrowA hatA hltA;have HO5:=hid (HO2.out.push hgrowA hownA (hatA.imp id (fun e=>e.trans HWS.out)));have HT5:=hid (HO2.out.turns hgrowA);have n5:=(hgrowA.cell_far ⟨wr.heap.size,1,none⟩ (by simp <;> omega) (Ne.symm hne7)).trans (HNC.out _);have n50:=(hgrowA.cell_far ⟨wr.heap.size,0,none⟩ (by simp <;> omega) (Ne.symm hne7)).trans (HNC0.out _);have hsz5:wr.heap.size+1+1≤w5.heap.size:=by simpa using hgrowA.size)
    | (at_builtin;refine wpList_append_lies _ rfl _ _ 35 rfl w.heap.size 3 i3 (.int .i64 0) 1 8 Tryz.underlying35 hi3 hy0 hy1 hy2 rfl (by decide) _ _ _ rfl (HO5.out.two.alloc _) ⟨w5.heap.size,0,none⟩ 1 1 [natV c] rfl rfl (cell_one_new _ _ _) (fun x hx=>by simp at hx;subst hx;rfl) (by omega) (by rw [HRL.out];unfold maxLen;omega) (by rw [HRL.out];omega) (by simp;omega) (w5.heap.size+1) (by simp) ?_;intro gB capB w6 hownB hgrowB hatB hltB;have HO6:=hid (HO5.out.symm.push hgrowB hownB hatB).symm;have HT6:=hid (HO5.out.symm.turns hgrowB);have n60:w6.cell? ⟨wr.heap.size,0,none⟩=some (.int .i64 (x:Int)):=(hgrowB.cell_far ⟨wr.heap.size,0,none⟩ (by simp <;> omega) (Ne.symm hne8)).trans ((World.cell?_of_block (Below.heap_alloc _ _ _ (show wr.heap.size < w5.heap.size by omega))).trans n50)))
   have HB6:Hid (Below w.heap.size w w6):=below_turned (below_turned HB2.out HT5.out HB2.out.size (fun i hi=>by omega)) HT6.out (by omega) (fun i hi=>by omega)
   refine ⟨⟨i+1,x+1,ss++[d],rr++[c],by go_num,by go_num,by omega,by omega,?_,?_,?_,?_,HO6,HB6,HR4,HES2,HER2⟩,by simp [intOf];omega⟩
   ·show _=_
    simp [HSL.out]
   ·show _=_
    simp [HRL.out]
   ·intro z hz
    rcases List.mem_append.1 hz with hz | hz
    ·exact HSB.out z hz
    ·have:z=d:=by simpa using hz
     omega
   ·intro z hz
    rcases List.mem_append.1 hz with hz | hz
    ·exact HRB.out z hz
    ·have:z=c:=by simpa using hz
     omega
  ·have hlti:¬ ((i:Int) < (k:Int)):=by omega
   obtain rfl:i=k:=by omega
   have hdr:ps.drop i=[]:=List.drop_eq_nil_of_le (by rw [← HK.out];exact Nat.le_refl _)
   have HS1:Hid (ss=stp next ps):=show _=_ by
    rw [← HES.out,hdr];simp [stp]
   have HR1:Hid (rr=rep ps):=show _=_ by
    rw [← HER.out,hdr];simp [rep]
   clear hdr
   have HBr:=hid (ownsRow_turned HB.out (Turned.ofBelow (Z:=fun _=>False) HBw.out) (fun _ _ e=>e))
   have HGr:Hid (Grew base w wr):=Turned.ofBelow HBw.out
   by_cases hk4:i < 4
   ·have hk4i:(i:Int) < 4:=by omega
    have HBD:Hid (body (stp next ps) (rep ps)=pairB ss rr):=show _=_ by
     rw [← HS1.out,← HR1.out]
     unfold body
     rw [if_neg (by rw [HSL.out];omega)]
    have C:=hid (appendPairs_any HBr.out (by omega) HO.out (by rw [HSL.out,HRL.out]) (by rw [HSL.out];omega) (fun x hx=>by have:=HSB.out x hx;omega) (fun x hx=>by have:=HRB.out x hx;omega) (by rw [← HLL.out];omega))
    go_wp2_with (fail)
    refine C.out.mono ?_
    rintro e w1 ⟨v1,rfl,hB1,hG1⟩
    obtain ⟨g4,c4,a4,hv4,_,_⟩:=ownsRow_shape hB1
    obtain ⟨l4,hl4⟩:∃ ll,ll=(l++pairB ss rr).length:=⟨_,rfl⟩
    rw [← hl4] at hv4
    have HB1:=hid hB1
    clear hl4 C hB1
    subst hv4
    go_wp2
    go_ret
    rw [HBD.out]
    exact ⟨_,rfl,HB1.out,HGr.out.trans hG1⟩
   ·obtain rfl:i=4:=by omega
    have hk4i:¬ ((4:Int) < 4):=by omega
    obtain rfl:=hao7 (by omega)
    obtain rfl:=hao8 (by omega)
    have hd1:=bl_small (l:=ss) (fun x hx=>by have:=HSB.out x hx;omega)
    have hd2:=bl_small (l:=rr) (fun x hx=>by have:=HRB.out x hx;omega)
    have HBD:Hid (body (stp next ps) (rep ps)=[byt (wd ss),byt (wd rr)]++pk (wd ss) ss++pk (wd rr) rr):=show _=_ by
     rw [← HS1.out,← HR1.out]
     unfold body
     rw [if_pos HSL.out]
    have CW1:Hid (∀ w',w'.ownsRow w.heap.size 3 1 (.slice (some ⟨g7,0,none⟩) 4 c7) ss.length (ss.map natV)→Calls Tryz.prog 281 #[.slice (some ⟨g7,0,none⟩) 4 c7] w' fun e w''=>e=.returned (.int .i64 (wd ss:Int))∧w''=w'):=fun w' h=>by
     rw [HSL.out] at h
     exact widthOf_any w' w.heap.size g7 c7 4 ss HSL.out.symm h (by rw [HSL.out];omega) (by rw [HSL.out];omega) (fun x hx=>by have:=HSB.out x hx;omega)
    have CW2:Hid (∀ w',w'.ownsRow w.heap.size 3 1 (.slice (some ⟨g8,0,none⟩) 4 c8) rr.length (rr.map natV)→Calls Tryz.prog 281 #[.slice (some ⟨g8,0,none⟩) 4 c8] w' fun e w''=>e=.returned (.int .i64 (wd rr:Int))∧w''=w'):=fun w' h=>by
     rw [HRL.out] at h
     exact widthOf_any w' w.heap.size g8 c8 4 rr HRL.out.symm h (by rw [HRL.out];omega) (by rw [HRL.out];omega) (fun x hx=>by have:=HRB.out x hx;omega)
    have HL1:=hid (wd_lt ss)
    have HL2:=hid (wd_lt rr)
    obtain ⟨p1,hp1⟩:∃ p,p=wd ss:=⟨_,rfl⟩
    obtain ⟨p2,hp2⟩:∃ p,p=wd rr:=⟨_,rfl⟩
    rw [← hp1] at hd1 HBD CW1 HL1
    rw [← hp2] at hd2 HBD CW2 HL2
    clear hp1 hp2
    have HR7:=hid HO.out.one
    have HR8:=hid HO.out.two
    go_wp2_with (first
     | (at_builtin;refine wpList_append_lies _ rfl _ _ 51 rfl base 5 i5 _ 1 1 Tryz.underlying51 hi1 ha0 ha1 ha2 rfl (by decide) _ _ _ rfl (HBr.out.alloc _) ⟨wr.heap.size,0,none⟩ 2 2 [.int .u8 (p1:Int),.int .u8 (p2:Int)] rfl rfl (World.news_of_block (heap_alloc_new wr _)) (fun x hx=>by simp at hx;rcases hx with rfl | rfl <;> rfl) (by omega) (by rw [← HLL.out];unfold maxLen;omega) (by rw [← HLL.out];omega) (by simp;omega) (wr.heap.size+1) (by simp) ?_;intro gA capA w5 hownA hgrowA hatA hltA)
     | (go_at_call_of 281 g7;refine (CW1.out _ HR7.out).mono ?_;rintro e w1 ⟨rfl,hh⟩;rw [hh];clear hh w1)
     | (go_at_call_of 281 g8;refine (CW2.out _ HR8.out).mono ?_;rintro e w1 ⟨rfl,hh⟩;rw [hh];clear hh w1))
    have HB5:=hid (two_byte (l:=l) (by omega) (by omega) hownA)
    have hg5:Grew base wr w5:=(Grew.ofAlloc wr _).trans (grew_of (l:=l) (HBr.out.alloc _) hgrowA)
    have HG5:=hid (HGr.out.trans hg5)
    have HR75:=hid (hg5.row HR7.out (by decide))
    have HR85:=hid (hg5.row HR8.out (by decide))
    have CP1:=hid (appendPacked_any (wid:=p1) HB5.out (Nat.le_trans hb HG5.out.size) HR75.out HSL.out HL1.out hd1 (by simp;rw [← HLL.out];omega))
    have hpk1:(pk p1 ss).length≤4:=by
     have:=psz_le p1 hd1
     unfold pk
     rw [leB_len]
     exact this
    clear hownA hgrowA hatA hltA hg5
    refine (CW1.out _ HR75.out).mono ?_
    rintro e w1 ⟨rfl,hh⟩
    rw [hh]
    clear hh w1
    go_wp2_with (fail)
    refine CP1.out.mono ?_
    rintro e w6 ⟨v6,rfl,hB6,hG6⟩
    obtain ⟨g4,c4,a4,hv4,_,_⟩:=ownsRow_shape hB6
    obtain ⟨l4,hl4⟩:∃ ll,ll=(l++[byt p1,byt p2]++pk p1 ss).length:=⟨_,rfl⟩
    rw [← hl4] at hv4
    have HB6:=hid hB6
    have HG6:=hid (HG5.out.trans hG6)
    have HR86:=hid (hG6.row HR85.out (by decide))
    have CP2:=hid (appendPacked_any (wid:=p2) HB6.out (Nat.le_trans hb HG6.out.size) HR86.out HRL.out HL2.out hd2 (by simp;rw [← HLL.out];omega))
    clear hl4 CP1 hB6 hG6
    subst hv4
    go_wp2_with (fail)
    refine (CW2.out _ HR86.out).mono ?_
    rintro e w1 ⟨rfl,hh⟩
    rw [hh]
    clear hh w1
    go_wp2_with (fail)
    refine CP2.out.mono ?_
    rintro e w7 ⟨v7,rfl,hB7,hG7⟩
    obtain ⟨g9,c9,a9,hv9,_,_⟩:=ownsRow_shape hB7
    obtain ⟨l9,hl9⟩:∃ ll,ll=(l++[byt p1,byt p2]++pk p1 ss++pk p2 rr).length:=⟨_,rfl⟩
    rw [← hl9] at hv9
    have HB7:=hid hB7
    clear hl9 CP2 hB7
    subst hv9
    go_wp2
    go_ret
    refine ⟨_,rfl,?_,HG6.out.trans hG7⟩
    have e:l++body (stp next ps) (rep ps)=l++[byt p1,byt p2]++pk p1 ss++pk p2 rr:=by rw [HBD.out];simp
    rw [e]
    exact HB7.out
structure DSee (w:World) (base:Nat) (D:Value) (ds:List DocP):Prop where
 see:∃ (ao:Option Addr) (g o cap:Nat),D=.slice ao ds.length cap∧(0 < ds.length→ao=some ⟨g,o,none⟩∧g < base)∧∀ i d,ds[i]?=some d→w.cell? ⟨g,o+i * 3,none⟩=some (natV d.1)∧w.cell? ⟨g,o+i * 3+1,none⟩=some (lstV d.2.1)∧w.cell? ⟨g,o+i * 3+2,none⟩=some (natV d.2.2)
theorem nm_len (k:Bs):(nm k).length=k.length+1:=by simp [nm]
set_option maxHeartbeats 1000000 in
set_option maxRecDepth 1000000 in
theorem appendDocuments_of {w:World} {base ll cv:Nat} {ao:Option Addr} {D:Value} {l:Bs} {ds:List DocP} (hb:base≤w.heap.size)
 (C:Calls Tryz.prog 173 #[.slice ao ll cv,.int .i64 (ds.length:Int)] w fun e w'=>∃ v',e=.returned v'∧BRow w' base v' (l++vi ds.length)∧Grew base w w') (hD:DSee w base D ds) (hok:OkDocs 0 [] ds) (hn:ds.length≤100) (hl:l.length≤100) :
 Calls Tryz.prog 172 #[.slice ao ll cv,D] w fun e w'=>∃ v',e=.returned v'∧BRow w' base v' (l++vi ds.length++encDocs 0 ds)∧Grew base w w':=by
 obtain ⟨aoD,gD,oD,cD,hDe,hDa,hDc⟩:=hD.see
 obtain ⟨n,hnn⟩:∃ n,n=ds.length:=⟨_,rfl⟩
 rw [← hnn] at hDe hDa hn C ⊢
 have HNN:=hid hnn
 have HDc:=hid hDc
 have HOK:=hid hok
 subst hDe
 have C0:=hid C
 have hvn:=vi_le n
 clear C hD hnn hDc hok
 go_enter Tryz.func172,Tryz.ntmps172
 go_wp2_with (fail)
 refine C0.out.mono ?_
 rintro e w1 ⟨v1,rfl,hB1,hG1⟩
 obtain ⟨g4,c4,a4,hv4,_,_⟩:=ownsRow_shape hB1
 obtain ⟨l4,hl4⟩:∃ ll,ll=(l++vi n).length:=⟨_,rfl⟩
 rw [← hl4] at hv4
 have HB1:=hid hB1
 have HG1:=hid hG1
 have hl0:(l++vi n).length≤102:=by simp;omega
 have HL0:=hid hl0
 clear hl4 C0 hB1 hG1 hl0
 subst hv4
 go_wp2_with (fail)
 go_loopw [0,5,14] (fun s0 s5 s14 wr=>∃ (i bf:Nat) (l2:Bs),s14=.int .i64 (i:Int)∧s5=.int .i64 (bf:Int)∧i≤n∧bf≤100∧Hid (l2.length≤102+i * 15)∧Hid (BRow wr base s0 l2)∧Hid (Grew base w wr)∧Hid (∃ seen,OkDocs bf seen (ds.drop i))∧Hid (l2++encDocs bf (ds.drop i)=l++vi n++encDocs 0 ds)) (fun _ _ s14 _=>n - (intOf s14).toNat)
 case atStart=>exact ⟨0,0,l++vi n,rfl,rfl,by omega,by omega,by simpa using HL0,HB1,HG1,⟨[],HOK.out⟩,rfl⟩
 case round =>
  obtain ⟨i,bf,l2,rfl,rfl,hi,hbf,HL,HBr,HG,HO,HE⟩:=hrel
  obtain ⟨g3,c3,ao3,hv3,_,_⟩:=ownsRow_shape HBr.out
  obtain ⟨l3,hl3⟩:∃ ll,ll=l2.length:=⟨_,rfl⟩
  rw [← hl3] at hv3
  have hl2:=HL.out
  subst hv3
  clear hl3
  have hszr:=HG.out.size
  by_cases hlt:i < n
  ·have hlti:(i:Int) < (n:Int):=by omega
   obtain ⟨d,hd⟩:∃ d,ds[i]?=some d:=⟨_,List.getElem?_eq_getElem (by rw [← HNN.out];exact hlt)⟩
   obtain ⟨rfl,hgD⟩:=hDa (by omega)
   obtain ⟨q0,q1,q2⟩:=HDc.out i d hd
   have HBw:=HG.out.below hb
   have q0:=below_c HBw hgD q0
   have q1:=below_c HBw hgD q1
   have q2:=below_c HBw hgD q2
   obtain ⟨seen,hok⟩:=HO.out
   rw [drop_at hd] at hok HE
   obtain ⟨z1,z2,z3⟩:=d
   simp only at q0 q1 q2
   obtain ⟨o1,o2,o3,o4,o5,o6⟩:=hok
   simp only at o1 o2 o3 o4
   have hkl:=(keyOk_len o4).2
   obtain ⟨df,hdf⟩:∃ df,z1=bf+df:=⟨z1 - bf,by omega⟩
   have HE2:Hid (l2++vi df++vi z3++nm z2++encDocs z1 (ds.drop (i+1))=l++vi n++encDocs 0 ds):=show _=_ by
    rw [← HE.out];simp [encDocs,hdf]
   have e1:(z1:Int) - (bf:Int)=(df:Int):=by omega
   have hdf1:df≤100:=by omega
   have HO2:Hid (∃ seen,OkDocs z1 seen (ds.drop (i+1))):=⟨_,o6⟩
   have hv1:=vi_le df
   have hv3:=vi_le z3
   have hv2:=nm_len z2
   have HNp:=hid (heap_alloc_new wr (.cells #[.int .i64 (z1:Int),lstV z2,.int .i64 (z3:Int)] 141))
   have HG3:=hid (HG.out.trans (Grew.ofAlloc wr (.cells #[.int .i64 (z1:Int),lstV z2,.int .i64 (z3:Int)] 141)))
   have HB3:=hid (HBr.out.alloc (.cells #[.int .i64 (z1:Int),lstV z2,.int .i64 (z3:Int)] 141))
   have C1:=hid (appendVarint_any (n:=df) HB3.out (Nat.le_trans hb HG3.out.size) (by omega) (by omega))
   have hlt3:wr.heap.size < (wr.alloc (.cells #[.int .i64 (z1:Int),lstV z2,.int .i64 (z3:Int)] 141)).heap.size:=by simp
   have HLT:=hid hlt3
   have HE1:=hid hdf
   clear hd o4 o5 o6 HBw hdf hlt3
   go_wp2_with (fail)
   refine C1.out.mono ?_
   generalize wr.alloc (.cells #[.int .i64 (z1:Int),lstV z2,.int .i64 (z3:Int)] 141)=wa at *
   rintro e w5 ⟨v5,rfl,hB5,hG5⟩
   obtain ⟨g5,c5,a5,hv5,_,_⟩:=ownsRow_shape hB5
   obtain ⟨l5,hl5⟩:∃ ll,ll=(l2++vi df).length:=⟨_,rfl⟩
   rw [← hl5] at hv5
   have HN5:=hid ((hG5.block _ HLT.out (fun hz=>by obtain ⟨_,c,f,h2⟩:=hz;exact tag_ne HNp.out h2 (by decide) rfl)).trans HNp.out)
   have HG5:=hid (HG3.out.trans hG5)
   have HB5:=hid hB5
   obtain ⟨k0,k1,k2,_⟩:=cell_three HN5.out
   have C2:=hid (appendVarint_any (n:=z3) HB5.out (Nat.le_trans hb HG5.out.size) (by omega) (by simp;omega))
   clear hl5 C1 hB5 hG5 q0 q1 q2
   subst hv5
   go_wp2_with (fail)
   refine C2.out.mono ?_
   rintro e w6 ⟨v6,rfl,hB6,hG6⟩
   obtain ⟨g6,c6,a6,hv6,_,_⟩:=ownsRow_shape hB6
   obtain ⟨l6,hl6⟩:∃ ll,ll=(l2++vi df++vi z3).length:=⟨_,rfl⟩
   rw [← hl6] at hv6
   have HN6:=hid ((hG6.block _ (lt_of_block' HN5.out) (fun hz=>by obtain ⟨_,c,f,h2⟩:=hz;exact tag_ne HN5.out h2 (by decide) rfl)).trans HN5.out)
   have HG6:=hid (HG5.out.trans hG6)
   have HB6:=hid hB6
   obtain ⟨j0,j1,j2,_⟩:=cell_three HN6.out
   have C3:=hid (appendName_any (k:=z2) HB6.out (Nat.le_trans hb HG6.out.size) (by omega) (by simp;omega))
   clear hl6 C2 hB6 hG6 k0 k1 k2
   subst hv6
   go_wp2_with (fail)
   refine C3.out.mono ?_
   rintro e w7 ⟨v7,rfl,hB7,hG7⟩
   obtain ⟨g7,c7,a7,hv7,_,_⟩:=ownsRow_shape hB7
   obtain ⟨l7,hl7⟩:∃ ll,ll=(l2++vi df++vi z3++nm z2).length:=⟨_,rfl⟩
   rw [← hl7] at hv7
   obtain ⟨m0,_,_,_⟩:=cell_three ((hG7.block _ (lt_of_block' HN6.out) (fun hz=>by obtain ⟨_,c,f,h2⟩:=hz;exact tag_ne HN6.out h2 (by decide) rfl)).trans HN6.out)
   have HG7:=hid (HG6.out.trans hG7)
   have HB7:=hid hB7
   have hl8:(l2++vi df++vi z3++nm z2).length≤102+(i+1) * 15:=by simp;omega
   have HL8:=hid hl8
   clear hl7 C3 hB7 hG7 j0 j1 j2 hl8 hv2
   subst hv7
   go_wp2_with (fail)
   go_roundw
   case rel=>exact ⟨i+1,z1,l2++vi df++vi z3++nm z2,by go_num,rfl,by omega,by omega,HL8,HB7,HG7,HO2,HE2⟩
   case measure=>simp [intOf];omega
  ·have hlti:¬ ((i:Int) < (n:Int)):=by omega
   have HE2:Hid (l2=l++vi n++encDocs 0 ds):=show _=_ by
    rw [← HE.out,List.drop_eq_nil_of_le (by rw [← HNN.out];omega)];simp [encDocs]
   go_wp2
   go_ret
   refine ⟨_,rfl,?_,HG.out⟩
   rw [← List.append_assoc,← HE2.out]
   exact HBr.out
set_option maxHeartbeats 1000000 in
set_option maxRecDepth 1000000 in
theorem appendVarint_full {w:World} {base g n x y:Nat} (hx:x < 256) (hy:y < 256) (c0:w.cell? ⟨g,0,none⟩=some (.int .u8 (x:Int))) (c1:w.cell? ⟨g,1,none⟩=some (.int .u8 (y:Int))) (hb:base≤w.heap.size) (hn:n < 128) :
 Calls Tryz.prog 173 #[.slice (some ⟨g,0,none⟩) 2 2,.int .i64 (n:Int)] w fun e w'=>∃ v',e=.returned v'∧BRow w' base v' ([byt x,byt y]++vi n)∧Grew base w w':=by
 obtain ⟨i5,hi1,ha0,ha1,ha2⟩:=info_parts info5
 have hgl:g < w.heap.size:=by
  have:∃ v,w.cell? ⟨g,0,none⟩=some v:=⟨_,c0⟩
  rcases Nat.lt_or_ge g w.heap.size with h | h
  ·exact h
  ·simp [World.cell?,Array.getElem?_eq_none h] at c0
 have HV:Hid (vi n=[byt n]):=show _=_ by unfold vi;rw [if_pos hn]
 have d0:∀ o,(w.alloc o).cell? ⟨g,0,none⟩=some (.int .u8 (x:Int)):=fun o=>(World.cell?_of_block (Below.heap_alloc _ _ _ hgl)).trans c0
 have d1:∀ o,(w.alloc o).cell? ⟨g,1,none⟩=some (.int .u8 (y:Int)):=fun o=>(World.cell?_of_block (Below.heap_alloc _ _ _ hgl)).trans c1
 have HD:Hid (∀ o (b:Addr),some (⟨g,0,none⟩:Addr)=some b→∀ j u,[Value.int .u8 (x:Int),.int .u8 (y:Int)][j]?=some u→(w.alloc o).cell? (b.add j)=some u):=by
  intro o b hb2 j u hu
  cases hb2
  match j,hu with
  | 0,hu=>simp at hu;subst hu;simpa [Addr.add] using d0 o
  | 1,hu=>simp at hu;subst hu;simpa [Addr.add] using d1 o
 have hni:¬ ((128:Int)≤(n:Int)):=by omega
 clear d0 d1 c0 c1
 go_enter Tryz.func173,Tryz.ntmps173
 go_wp2_with (fail)
 go_loopw [0,1] (fun s0 s1 wr=>s0=.slice (some ⟨g,0,none⟩) 2 2∧s1=.int .i64 (n:Int)∧w=wr) (fun _ _ _=>0)
 case atStart=>exact ⟨rfl,rfl,rfl⟩
 case round =>
  obtain ⟨rfl,rfl,rfl⟩:=hrel
  go_wp2_with (at_builtin;refine wpList_append_grows _ rfl _ _ 51 rfl 5 i5 _ 1 1 Tryz.underlying51 hi1 ha0 ha1 ha2 rfl (by decide) (some ⟨g,0,none⟩) 2 2 [.int .u8 (x:Int),.int .u8 (y:Int)] rfl (fun e=>by cases e) rfl (HD.out _) ⟨w.heap.size,0,none⟩ 1 1 [.int .u8 (n:Int)] rfl rfl (World.news_of_block (heap_alloc_new w _)) (fun x hx=>by simp at hx;subst hx;rfl) (by omega) (by unfold maxLen;omega) (by omega) ?_;intro vA w5 hownA hgrowA)
  go_ret
  refine ⟨vA,rfl,?_,(Grew.ofAlloc w _).trans (Turned.ofGrown hgrowA (fun j hj _=>by cases hj))⟩
  rw [HV.out]
  unfold BRow
  rw [show [byt x,byt y,byt n]=[byt x]++[byt y]++[byt n] by simp,Lib.byteCells_append,Lib.byteCells_append,byte_one x hx,byte_one y hy,byte_one n (by omega)]
  exact World.ownsRow.mono hownA (by simp;omega)
end Go.Proofs.YtaacjjhmojecnaaGreatDoor
namespace Go.ScT
theorem headsOf_at {lens:List Nat} {f:Nat} {ps:Pls} {h:Nat × Nat × Nat} {r:Hds} (he:h :: r=headsOf lens f ps):ps≠[]∧∃ g,f=g+1∧h=(lastO (ps.take 4),mxC (ps.take 4),mnL lens (ps.take 4))∧r=headsOf lens g (ps.drop 4):=by
 cases f with
 | zero=>simp [headsOf] at he
 | succ g =>
   unfold headsOf at he
   by_cases hp:ps=[]
   ·rw [if_pos hp] at he;cases he
   ·rw [if_neg hp] at he
    injection he with h1 h2
    exact ⟨hp,g,rfl,h1,h2⟩
theorem headsOf_end {lens:List Nat} {f:Nat} {ps:Pls} (he:[]=headsOf lens f ps) (hf:ps.length≤f):ps=[]:=by
 cases f with
 | zero=>exact List.length_eq_zero_iff.1 (by omega)
 | succ g =>
   unfold headsOf at he
   by_cases hp:ps=[]
   ·exact hp
   ·rw [if_neg hp] at he;cases he
end Go.ScT
namespace Go.Proofs.YtaacjjhmojecnaaGreatDoor
open Go.RowKit Go.ScT Go.Proofs
set_option maxHeartbeats 1000000 in
set_option maxRecDepth 1000000 in
theorem block_any {w:World} {g o n cap i k:Nat} {tok vH:Value} (hn:n≤cap) (_hc:cap≤maxLen) (hnn:n≤100000) (hi:4 * i < n) (hk:k=min 4 (n - 4 * i)) (hkv:∃ s,tok=lstV s) (hvh:∃ a b c,vH=.slice a b c) :
 Calls Tryz.prog 243 #[.agg #[tok,.slice (some ⟨g,o,none⟩) n cap,vH],.int .i64 (i:Int)] w fun e w'=>e=.returned (.slice (some ⟨g,o+4 * i * 2,none⟩) k (cap - 4 * i))∧Below w.heap.size w w':=by
 obtain ⟨s,rfl⟩:=hkv
 obtain ⟨a,b,c,rfl⟩:=hvh
 unfold maxLen at _hc
 have hne:¬ cap=4 * i:=by omega
 have e1:(i:Int) * 4=((4 * i:Nat):Int):=by omega
 have e2:((i:Int)+1) * 4=((4 * i+4:Nat):Int):=by omega
 have e3:min ((4 * i+4:Nat):Int) (n:Int)=((4 * i+k:Nat):Int):=by omega
 have HB:=hid ((Below.refl w.heap.size w).alloc (Nat.le_refl _) (.cells #[lstV s,.slice (some ⟨g,o,none⟩) n cap,.slice a b c] 167))
 have hk4:k≤4:=by omega
 have hk1:4 * i+k≤n:=by omega
 obtain ⟨q,hq⟩:∃ q,q=4 * i:=⟨_,rfl⟩
 rw [← hq] at hne e1 e2 e3 hi hk1 ⊢
 have HQ:=hid hq
 have b1:(0:Int)≤(q:Int):=by omega
 have b2:(q:Int)≤((q+k:Nat):Int):=by omega
 have b3:((q+k:Nat):Int)≤(cap:Int):=by omega
 clear hq hk
 have hfin:(min ((q:Int)+4) (n:Int)).toNat - q=k:=by omega
 have HF:=hid hfin
 clear hfin
 go_enter Tryz.func243,Tryz.ntmps243
 go_wp2
 go_ret
 refine ⟨?_,HB.out⟩
 show Ending.returned (.slice (some ⟨g,o+q * 2,none⟩) ((min ((q:Int)+4) (n:Int)).toNat - q) (cap - q))=_
 rw [HF.out]
structure LSee (w:World) (base:Nat) (vP vH:Value) (ps:Pls) (hs:Hds):Prop where
 places:∃ g o cap:Nat,vP=.slice (some ⟨g,o,none⟩) ps.length cap∧ps.length≤cap∧cap≤maxLen∧g < base∧∀ i p,ps[i]?=some p→w.cell? ⟨g,o+i * 2,none⟩=some (natV p.1)∧w.cell? ⟨g,o+i * 2+1,none⟩=some (natV p.2)
 heads:∃ g o cap:Nat,vH=.slice (some ⟨g,o,none⟩) hs.length cap∧g < base∧∀ i h,hs[i]?=some h→w.cell? ⟨g,o+i * 3,none⟩=some (natV h.1)∧w.cell? ⟨g,o+i * 3+1,none⟩=some (natV h.2.1)∧w.cell? ⟨g,o+i * 3+2,none⟩=some (natV h.2.2)
theorem pairB_len:∀ (ss rr:List Nat),(pairB ss rr).length≤4 * ss.length
 | [],rr=>by simp [pairB]
 | s :: ss,[]=>by simp [pairB]
 | s :: ss,r :: rr=>by
   have h1:=pairB_len ss rr
   have h2:=vi_le s
   have h3:=vi_le r
   simp only [pairB,List.length_append,List.length_cons]
   omega
theorem body_len {ss rr:List Nat} (h:ss.length≤4) (h1:wd ss≤8) (h2:wd rr≤8):(body ss rr).length≤18:=by
 have p1:=psz_le _ h1
 have p2:=psz_le _ h2
 unfold body
 split
 ·simp only [List.length_append,List.length_cons,List.length_nil,pk,leB_len]
  omega
 ·have:=pairB_len ss rr
  omega
theorem ris_drop {n:Nat}:∀ {k next:Nat} {ps:Pls},Ris n next ps→k < ps.length→Ris n (lastO (ps.take (k+1))+1) (ps.drop (k+1))
 | 0,next,p :: r,h,_=>by simpa [lastO] using h.2.2.2
 | k+1,next,p :: q :: r,h,hk=>by
   have ih:=@ris_drop n k (p.1+1) (q :: r) h.2.2.2 (by simpa using hk)
   simpa [lastO] using ih
 | k+1,next,[p],h,hk=>by simp at hk
theorem ris_take {n:Nat}:∀ {k next:Nat} {ps:Pls},Ris n next ps→Ris n next (ps.take k)
 | 0,_,_,_=>by simp [Ris]
 | k+1,_,[],_=>by simp [Ris]
 | k+1,_,p :: r,h=>⟨h.1,h.2.1,h.2.2.1,ris_take h.2.2.2⟩
set_option maxHeartbeats 2000000 in
set_option maxRecDepth 1000000 in
theorem appendList_any {w:World} {base n:Nat} {v vP vH:Value} {l tk:Bs} {ps:Pls} {lens:List Nat} (h:BRow w base v l) (hb:base≤w.heap.size) (hL:LSee w base vP vH ps (hdsOf lens ps)) (hp:Wrt n 0 ps) (h1:1≤ps.length) (hn:n≤100) (hpl:ps.length≤100) (htk:tk.length≤20) (hl:l.length≤21000000) :
 Calls Tryz.prog 174 #[v,.agg #[lstV tk,vP,vH]] w fun e w'=>∃ v',e=.returned v'∧BRow w' base v' (l++encList lens (tk,ps))∧Grew base w w':=by
 obtain ⟨gP,oP,cP,hPe,hPc,hPm,hgP,hPP⟩:=hL.places
 obtain ⟨gH,oH,cH,hHe,hgH,hHH⟩:=hL.heads
 have hhl:(hdsOf lens ps).length≤100:=by have:=headsOf_len lens ps.length ps;unfold hdsOf;omega
 obtain ⟨hs,hhs⟩:∃ h,h=hdsOf lens ps:=⟨_,rfl⟩
 rw [← hhs] at hHe hHH hhl
 obtain ⟨k,hk⟩:∃ k,k=ps.length:=⟨_,rfl⟩
 obtain ⟨m,hm⟩:∃ m,m=hs.length:=⟨_,rfl⟩
 rw [← hk] at hPe hPc h1 hpl
 rw [← hm] at hHe hhl
 have HK:=hid hk
 have HM:=hid hm
 have HHS:=hid hhs
 have HPP:=hid hPP
 have HHH:=hid hHH
 have HW:=hid hp
 obtain ⟨gv,cv,ao,hve,_,_⟩:=ownsRow_shape h
 obtain ⟨ll,hll⟩:∃ ll,ll=l.length:=⟨_,rfl⟩
 rw [← hll] at hve hl
 have HLL:=hid hll
 subst hve hPe hHe
 have HB0:=hid (h.alloc (.cells #[lstV tk,.slice (some ⟨gP,oP,none⟩) k cP,.slice (some ⟨gH,oH,none⟩) m cH] 167))
 have HN0:=hid (heap_alloc_new w (.cells #[lstV tk,.slice (some ⟨gP,oP,none⟩) k cP,.slice (some ⟨gH,oH,none⟩) m cH] 167))
 have HG0:=hid (Grew.ofAlloc (base:=base) w (.cells #[lstV tk,.slice (some ⟨gP,oP,none⟩) k cP,.slice (some ⟨gH,oH,none⟩) m cH] 167))
 have C0:=hid (appendName_any (k:=tk) HB0.out (Nat.le_trans hb HG0.out.size) (by omega) (by rw [← HLL.out];omega))
 have hnm:=nm_len tk
 have hvk:=vi_le k
 have hlt0:w.heap.size < (w.alloc (.cells #[lstV tk,.slice (some ⟨gP,oP,none⟩) k cP,.slice (some ⟨gH,oH,none⟩) m cH] 167)).heap.size:=by simp
 have HNM:=hid hnm
 clear h hL hhs hk hm hPP hHH hp hll hnm
 go_enter Tryz.func174,Tryz.ntmps174
 go_wp2_with (fail)
 refine C0.out.mono ?_
 generalize w.alloc (.cells #[lstV tk,.slice (some ⟨gP,oP,none⟩) k cP,.slice (some ⟨gH,oH,none⟩) m cH] 167)=w0 at *
 rintro e w1 ⟨v1,rfl,hB1,hG1⟩
 obtain ⟨g1,c1,a1,hv1,_,_⟩:=ownsRow_shape hB1
 obtain ⟨l1,hl1⟩:∃ ll,ll=(l++nm tk).length:=⟨_,rfl⟩
 rw [← hl1] at hv1
 have HN1:=hid ((hG1.block _ hlt0 (fun hz=>by obtain ⟨_,c,f,h2⟩:=hz;exact tag_ne HN0.out h2 (by decide) rfl)).trans HN0.out)
 have HG1:=hid (HG0.out.trans hG1)
 have HB1:=hid hB1
 obtain ⟨k0,k1,k2,_⟩:=cell_three HN1.out
 have C1:=hid (appendVarint_any (n:=k) HB1.out (Nat.le_trans hb HG1.out.size) (by omega) (by have:=HNM.out;rw [List.length_append,← HLL.out];omega))
 clear hl1 C0 hB1 hG1
 subst hv1
 go_wp2_with (fail)
 refine C1.out.mono ?_
 rintro e w2 ⟨v2,rfl,hB2,hG2⟩
 obtain ⟨g2,c2,a2,hv2,_,_⟩:=ownsRow_shape hB2
 obtain ⟨l2,hl2⟩:∃ ll,ll=(l++nm tk++vi k).length:=⟨_,rfl⟩
 rw [← hl2] at hv2
 have HN2:=hid ((hG2.block _ (lt_of_block' HN1.out) (fun hz=>by obtain ⟨_,c,f,h2⟩:=hz;exact tag_ne HN1.out h2 (by decide) rfl)).trans HN1.out)
 have HG2:=hid (HG1.out.trans hG2)
 have HB2:=hid hB2
 have HL2:Hid ((l++nm tk++vi k).length≤ll+23):=by
  have h1:=HNM.out
  show _≤_
  rw [List.length_append,List.length_append,← HLL.out]
  omega
 have HEN:Hid (l++encList lens (tk,ps)=l++nm tk++vi k++encPls lens k 0 (ps.drop (4 * 0))):=show _=_ by
  simp [encList,HK.out]
 obtain ⟨j0,j1,j2,_⟩:=cell_three HN2.out
 clear hl2 C1 hB2 hG2 k0 k1 k2
 subst hv2
 go_wp2_with (fail)
 go_loopw [0,5,20] (fun s0 s5 s20 wr=>∃ (i nx f:Nat) (l3:Bs),s20=.int .i64 (i:Int)∧s5=.int .i64 (nx:Int)∧i≤m∧nx≤100∧Hid (l3.length≤ll+23+i * 30)∧Hid (BRow wr base s0 l3)∧Hid (Grew base w wr)∧Hid (wr.heap[w.heap.size]?=some (.cells #[lstV tk,.slice (some ⟨gP,oP,none⟩) k cP,.slice (some ⟨gH,oH,none⟩) m cH] 167 (0,0)))∧Hid (hs.drop i=headsOf lens f (ps.drop (4 * i)))∧Hid ((ps.drop (4 * i)).length≤f)∧Hid (Wrt n nx (ps.drop (4 * i)))∧Hid (l3++encPls lens f nx (ps.drop (4 * i))=l++encList lens (tk,ps))) (fun _ _ s20 _=>m - (intOf s20).toNat)
 case atStart=>exact ⟨0,0,k,l++nm tk++vi k,rfl,rfl,by omega,by omega,by simpa using HL2,HB2,HG2,HN2,by simp [Hid,HHS.out,hdsOf,HK.out],by simp [Hid,HK.out],by simpa using HW,HEN.out.symm⟩
 case round =>
  obtain ⟨i,nx,f,l3,rfl,rfl,hi,hnx,HL3,HBr,HG,HNr,HHD,HFL,HWr,HE⟩:=hrel
  obtain ⟨g3,c3,ao3,hv3,_,_⟩:=ownsRow_shape HBr.out
  obtain ⟨l4,hl4⟩:∃ ll,ll=l3.length:=⟨_,rfl⟩
  rw [← hl4] at hv3
  have hl3:=HL3.out
  subst hv3
  clear hl4
  have hszr:=HG.out.size
  by_cases hlt:i < m
  ·have hlti:(i:Int) < (m:Int):=by omega
   obtain ⟨hd,hhd⟩:∃ x,hs[i]?=some x:=⟨_,List.getElem?_eq_getElem (by rw [← HM.out];exact hlt)⟩
   obtain ⟨q0,q1,q2⟩:=HHH.out i hd hhd
   have HBw:=hid (HG.out.below hb)
   have q0:=below_c HBw.out hgH q0
   have q1:=below_c HBw.out hgH q1
   have q2:=below_c HBw.out hgH q2
   have hh:=HHD.out
   rw [drop_at hhd] at hh
   obtain ⟨hne,f',hf,hde,hrr⟩:=headsOf_at hh
   obtain ⟨wr1,wr2⟩:=HWr.out
   obtain ⟨blk,hblk⟩:∃ b,b=(ps.drop (4 * i)).take 4:=⟨_,rfl⟩
   have hrl:(ps.drop (4 * i)).length=k - 4 * i:=by rw [List.length_drop,← HK.out]
   have hrp:0 < (ps.drop (4 * i)).length:=List.length_pos_iff.2 hne
   have hbl:blk.length=min 4 (k - 4 * i):=by rw [hblk,List.length_take,hrl]
   have hbp:1≤blk.length:=by omega
   have hb4:blk.length≤4:=by omega
   have h4i:4 * i < k:=by omega
   have hWb:Wrt n nx blk:=by rw [hblk];exact ⟨ris_take wr1,fun p hp=>wr2 p (List.mem_of_mem_take hp)⟩
   have hbne:blk≠[]:=fun e=>by rw [e] at hbp;simp at hbp
   obtain ⟨pl,hplm,hpl2⟩:=lastO_mem hbne
   have hlast:lastO blk < n:=by rw [hpl2];exact (hWb.1.mem pl hplm).2.1
   have hmx:mxC blk≤40:=mxC_le.2 hWb.2
   have hmn:=mnL_le lens blk
   have HEN2:Hid (l3++vi (lastO blk)++vi (mxC blk)++vi (mnL lens blk)++body (stp nx blk) (rep blk)++encPls lens f' (lastO blk+1) (ps.drop (4 * (i+1)))=l++encList lens (tk,ps)):=show _=_ by
    rw [← HE.out,hf,encPls,if_neg hne,← hblk,encBlk]
    simp [Nat.mul_add]
   have HHD2:Hid (hs.drop (i+1)=headsOf lens f' (ps.drop (4 * (i+1)))):=show _=_ by
    rw [hrr];simp [Nat.mul_add]
   have HFL2:Hid ((ps.drop (4 * (i+1))).length≤f'):=by
    have h1:=HFL.out
    show _≤_
    rw [hrl] at h1
    rw [List.length_drop,← HK.out]
    omega
   have HWr2:Hid (Wrt n (lastO blk+1) (ps.drop (4 * (i+1)))):=by
    have e2:ps.drop (4 * (i+1))=(ps.drop (4 * i)).drop 4:=by simp [Nat.mul_add]
    refine ⟨?_,fun p hp=>wr2 p (by rw [e2] at hp;exact List.mem_of_mem_drop hp)⟩
    by_cases h5:3 < (ps.drop (4 * i)).length
    ·rw [e2,hblk]
     exact ris_drop wr1 h5
    ·rw [e2,List.drop_eq_nil_of_le (by omega)]
     exact trivial
   have HPB:Hid (∀ j p,blk[j]?=some p→w.cell? ⟨gP,oP+4 * i * 2+j * 2,none⟩=some (natV p.1)∧w.cell? ⟨gP,oP+4 * i * 2+j * 2+1,none⟩=some (natV p.2)):=by
    intro j p hjp
    rw [hblk] at hjp
    have hj4:j < 4:=by
     rcases Nat.lt_or_ge j 4 with h | h
     ·exact h
     ·rw [List.getElem?_eq_none (by simp;omega)] at hjp;cases hjp
    rw [List.getElem?_take_of_lt hj4,List.getElem?_drop] at hjp
    have:=HPP.out (4 * i+j) p hjp
    rw [show oP+4 * i * 2+j * 2=oP+(4 * i+j) * 2 by omega]
    exact this
   rw [← hblk] at hde
   subst hde
   simp only at q0 q1 q2
   have HWB:=hid hWb
   have HBL:=hid hbl
   clear hhd hh hrr wr1 wr2 hblk hrl hrp hWb hplm hpl2 hne hf hbne hbl
   have hbd:(body (stp nx blk) (rep blk)).length≤18:=by
    refine body_len (by rw [stp_len];exact hb4) (bl_small (fun x hx=>?_)) (bl_small (fun x hx=>?_))
    ·have:=stp_le HWB.out.1 x hx
     omega
    ·obtain ⟨p,hp,rfl⟩:=List.mem_map.1 hx
     have:=HWB.out.2 p hp
     omega
   have HBD:=hid hbd
   obtain ⟨x,hx⟩:∃ x,x=lastO blk:=⟨_,rfl⟩
   obtain ⟨y,hy⟩:∃ y,y=mxC blk:=⟨_,rfl⟩
   obtain ⟨z,hz⟩:∃ z,z=mnL lens blk:=⟨_,rfl⟩
   rw [← hx] at q0 hlast HEN2 HWr2
   rw [← hy] at q1 hmx HEN2
   rw [← hz] at q2 hmn HEN2
   clear hx hy hz hbd
   have hvx:=vi_le x
   have hvy:=vi_le y
   have hvz:=vi_le z
   have HNp:=hid (heap_alloc_new wr (.cells #[natV x,natV y,natV z] 295))
   have HG3:=hid (HG.out.trans (Grew.ofAlloc wr (.cells #[natV x,natV y,natV z] 295)))
   have HB3:=hid (HBr.out.alloc (.cells #[natV x,natV y,natV z] 295))
   have HN3:=hid (((Grew.ofAlloc (base:=base) wr (.cells #[natV x,natV y,natV z] 295)).block _ (lt_of_block' HNr.out) (fun hz=>by obtain ⟨_,c,f,h2⟩:=hz;exact tag_ne HNr.out h2 (by decide) rfl)).trans HNr.out)
   have hlt3:wr.heap.size < (wr.alloc (.cells #[natV x,natV y,natV z] 295)).heap.size:=by simp
   have HLT3:=hid hlt3
   have C3:=hid (appendHead_any (x:=x) (y:=y) (z:=z) HB3.out (Nat.le_trans hb HG3.out.size) (by omega) (by omega) (by omega) (by omega))
   clear hlt3
   go_wp2_with (fail)
   refine C3.out.mono ?_
   generalize wr.alloc (.cells #[natV x,natV y,natV z] 295)=wa at *
   rintro e w5 ⟨v5,rfl,hB5,hG5⟩
   obtain ⟨g5,c5,a5,hv5,_,_⟩:=ownsRow_shape hB5
   obtain ⟨l5,hl5⟩:∃ ll,ll=(l3++vi x++vi y++vi z).length:=⟨_,rfl⟩
   rw [← hl5] at hv5
   have HN5:=hid ((hG5.block _ (lt_of_block' HN3.out) (fun hz=>by obtain ⟨_,c,f,h2⟩:=hz;exact tag_ne HN3.out h2 (by decide) rfl)).trans HN3.out)
   have HP5:=hid ((hG5.block _ HLT3.out (fun hz=>by obtain ⟨_,c,f,h2⟩:=hz;exact tag_ne HNp.out h2 (by decide) rfl)).trans HNp.out)
   have HG5:=hid (HG3.out.trans hG5)
   have HB5:=hid hB5
   obtain ⟨k0,k1,k2,_⟩:=cell_three HN5.out
   have C4:=hid (block_any (w:=w5) (g:=gP) (o:=oP) (i:=i) (k:=blk.length) (tok:=lstV tk) (vH:=.slice (some ⟨gH,oH,none⟩) m cH) hPc hPm (by omega) h4i HBL.out ⟨_,rfl⟩ ⟨_,_,_,rfl⟩)
   clear hl5 C3 hB5 hG5 q0 q1 q2
   subst hv5
   go_wp2_with (fail)
   refine C4.out.mono ?_
   rintro e w6 ⟨rfl,hB6⟩
   have HT6:=hid (Turned.ofBelow (Z:=fun _=>False) hB6)
   have HG6:Hid (Grew base w w6):=HG5.out.trans (Turned.ofBelow hB6)
   have HB6:=hid (ownsRow_turned HB5.out HT6.out (fun _ _ e=>e))
   have HN6:=hid ((hB6.block _ (lt_of_block' HN5.out)).trans HN5.out)
   have HP6:=hid ((hB6.block _ (lt_of_block' HP5.out)).trans HP5.out)
   have hgP6:gP < w6.heap.size:=by have:=HG6.out.size;omega
   have C5:=hid (appendBody_any (cap:=cP - 4 * i) (n:=n) HB6.out (Nat.le_trans hb HG6.out.size) (fun j p hj=>by
    obtain ⟨a1,a2⟩:=HPB.out j p hj
    exact ⟨below_c (HG6.out.below hb) hgP a1,below_c (HG6.out.below hb) hgP a2⟩) hgP6 hbp hb4 HWB.out hn hnx (by simp;omega))
   clear C4 hB6 k0 k1 k2
   go_wp2_with (fail)
   refine C5.out.mono ?_
   rintro e w7 ⟨v7,rfl,hB7,hG7⟩
   obtain ⟨g7,c7,a7,hv7,_,_⟩:=ownsRow_shape hB7
   obtain ⟨l7,hl7⟩:∃ ll,ll=(l3++vi x++vi y++vi z++body (stp nx blk) (rep blk)).length:=⟨_,rfl⟩
   rw [← hl7] at hv7
   have HN7:=hid ((hG7.block _ (lt_of_block' HN6.out) (fun hz=>by obtain ⟨_,c,f,h2⟩:=hz;exact tag_ne HN6.out h2 (by decide) rfl)).trans HN6.out)
   obtain ⟨m0,_,_,_⟩:=cell_three ((hG7.block _ (lt_of_block' HP6.out) (fun hz=>by obtain ⟨_,c,f,h2⟩:=hz;exact tag_ne HP6.out h2 (by decide) rfl)).trans HP6.out)
   have HG7:=hid (HG6.out.trans hG7)
   have HB7:=hid hB7
   have HL8:Hid ((l3++vi x++vi y++vi z++body (stp nx blk) (rep blk)).length≤ll+23+(i+1) * 30):=by
    have h1:=HBD.out
    show _≤_
    rw [List.length_append,List.length_append,List.length_append,List.length_append]
    omega
   clear hl7 C5 hB7 hG7
   subst hv7
   go_wp2_with (fail)
   go_roundw
   case rel=>exact ⟨i+1,x+1,f',l3++vi x++vi y++vi z++body (stp nx blk) (rep blk),by go_num,by go_num,by omega,by omega,HL8,HB7,HG7,HN7,HHD2,HFL2,HWr2,HEN2⟩
   case measure=>simp [intOf];omega
  ·have hlti:¬ ((i:Int) < (m:Int)):=by omega
   have HE2:Hid (l3=l++encList lens (tk,ps)):=show _=_ by
    have h1:=HHD.out
    rw [List.drop_eq_nil_of_le (by rw [← HM.out];omega)] at h1
    rw [← HE.out,headsOf_end h1 HFL.out]
    cases f <;> simp [encPls]
   go_wp2
   go_ret
   refine ⟨_,rfl,?_,HG.out⟩
   rw [← HE2.out]
   exact HBr.out
end Go.Proofs.YtaacjjhmojecnaaGreatDoor
