import Derived.Test.YtaacjjhmojecnaaGreatDoorRefBlk
import Derived.Test.YtaacjjhmojecnaaGreatDoorP13
namespace Go.ScT
theorem encBlk_len {lens:List Nat} {nx:Nat} {q:Pls} (h:LV lens nx q) (hl:lens.length≤100) (h4:q.length≤4):(encBlk lens nx q).length≤20:=by
 have h1:=vi_le (lastO q)
 have h2:=vi_le (mxC q)
 have h3:=vi_le (mnL lens q)
 have hb:(body (stp nx q) (rep q)).length≤14:=by
  unfold body
  split
  ·have w1:wd (stp nx q)≤8:=wd_le.2 fun x hx=>by have:=stp_lt h hl x hx;omega
   have w2:wd (rep q)≤8:=wd_le.2 fun x hx=>by have:=rep_lt h x hx;omega
   have p1:=pk_le _ (stp nx q) w1
   have p2:=pk_le _ (rep q) w2
   simp;omega
  ·rename_i hn
   rw [stp_len] at hn
   have key:∀ (a b:List Nat),(pairB a b).length≤4 * a.length:=by
    intro a
    induction a with
    | nil=>intro b;simp [pairB]
    | cons s ss ih =>
      intro b
      cases b with
      | nil=>simp [pairB]
      | cons r rr =>
        have:=ih rr
        have v1:=vi_le s
        have v2:=vi_le r
        simp [pairB];omega
   have:=key (stp nx q) (rep q)
   rw [stp_len] at this
   omega
 unfold encBlk
 simp;omega
theorem encPls_len {lens:List Nat} (hl:lens.length≤100):∀ {f nx:Nat} {b:Pls},LV lens nx b→(encPls lens f nx b).length≤20 * f
 | 0,nx,b,_=>by simp [encPls]
 | f+1,nx,b,h=>by
   simp only [encPls]
   split
   ·simp
   ·rename_i hb
    have h1:=encBlk_len (LV_take 4 h) hl (by simp;omega)
    have h2:=LV_drop 4 h
    have e:nxt nx (b.take 4)=lastO (b.take 4)+1:=by
     unfold nxt
     rw [if_neg]
     intro e
     rw [List.take_eq_nil_iff] at e
     rcases e with e | e
     ·cases e
     ·exact hb e
    rw [e] at h2
    have h3:=encPls_len hl (f:=f) h2
    simp;omega
theorem encDocs_snoc:∀ (a:List DocP) (d:DocP) (b:Nat),encDocs b (a++[d])=encDocs b a++(vi (d.1 - (a.getLastD (b,[],0)).1)++vi d.2.2++nm d.2.1)
 | [],d,b=>by simp [encDocs]
 | e :: r,d,b=>by
   have:=encDocs_snoc r d e.1
   simp only [List.cons_append,encDocs,this]
   have hl:((e :: r).getLastD (b,[],0)).1=(r.getLastD (e.1,[],0)).1:=by
    cases r with
    | nil=>simp
    | cons x y=>simp [List.getLastD]
   rw [hl]
   simp
def ahd (l:List DocR):Nat→Nat
 | 0=>0
 | i+1=>((l[i]?).map fun d=>d.2.1).getD 0
theorem ahd_zero (l:List DocR):ahd l 0=0:=rfl
theorem ahd_succ {l:List DocR} {i:Nat} {d:DocR} (h:l[i]?=some d):ahd l (i+1)=d.2.1:=by simp [ahd,h]
theorem ahd_le {l:List DocR} {i:Nat} {d:DocR} (hc:Could l) (h:l[i]?=some d):ahd l i≤d.2.1:=by
 cases i with
 | zero=>exact Nat.zero_le _
 | succ i =>
   obtain ⟨hi,rfl⟩:=List.getElem?_eq_some_iff.1 h
   have hp:=List.pairwise_iff_getElem.1 hc.apart i (i+1) (by omega) hi (by omega)
   rw [ahd_succ (List.getElem?_eq_getElem (by omega))]
   exact Nat.le_of_lt hp.2
theorem last_take (l:List DocR) (i:Nat) (h:i≤l.length):(((docsP l).take i).getLastD (0,[],0)).1=ahd l i:=by
 cases i with
 | zero=>simp [ahd]
 | succ i =>
   obtain ⟨d,hd⟩:∃ d,l[i]?=some d:=⟨_,List.getElem?_eq_getElem (by omega)⟩
   have hdp:(docsP l)[i]?=some (d.2.1,d.1,d.2.2.length):=by simp [docsP,hd]
   rw [List.take_add_one,hdp,ahd_succ hd]
   simp
theorem encDocs_take {l:List DocR} {i:Nat} {d:DocR} (h:l[i]?=some d):encDocs 0 ((docsP l).take (i+1))=encDocs 0 ((docsP l).take i)++(vi (d.2.1 - ahd l i)++vi d.2.2.length++nm d.1):=by
 have hi:=(List.getElem?_eq_some_iff.1 h).1
 have hdp:(docsP l)[i]?=some (d.2.1,d.1,d.2.2.length):=by simp [docsP,h]
 have:(docsP l).take (i+1)=(docsP l).take i++[(d.2.1,d.1,d.2.2.length)]:=by rw [List.take_add_one,hdp];rfl
 rw [this,encDocs_snoc,last_take l i (by omega)]
theorem encLists_snoc (lens:List Nat):∀ (a:List Lst) (x:Lst),encLists lens (a++[x])=encLists lens a++encList lens x
 | [],x=>by simp [encLists]
 | e :: r,x=>by simp [encLists,encLists_snoc lens r x]
end Go.ScT
namespace Go.Proofs.YtaacjjhmojecnaaGreatDoor
open Go.RowKit Go.ScT Go.Proofs
def Apart (u v:Value):Prop:=∀ g,u.ownBlock=some g→v.ownBlock=some g→False
theorem Apart.symm {u v:Value} (h:Apart u v):Apart v u:=fun g a b=>h g b a
abbrev NRow (w:World) (bs:Nat) (u:Value) (x:List Nat):Prop:=w.ownsRow bs 3 1 u x.length (x.map natV)
theorem NRow.kept {w w3:World} {bs:Nat} {u v:Value} {y:List Nat} {o:Obj} (h:NRow w bs v y) (hg:(w.alloc o).grownBy w3 u.ownBlock) (ha:Apart u v):NRow w3 bs v y :=
 ownsRow_turned h ((Turned.ofAlloc w o).trans (Turned.ofGrown hg (fun _ hj _=>hj))) (fun g hv hu=>ha g hu hv)
theorem Apart.grown {w:World} {bs gA n c:Nat} {u v:Value} {y:List Nat} (ha:Apart u v) (h:NRow w bs v y) (hat:u.ownBlock=some gA∨gA=w.heap.size+1):Apart (.slice (some ⟨gA,0,none⟩) n c) v:=by
 intro g h1 h2
 have e:gA=g:=by simpa [Value.ownBlock] using h1
 subst e
 rcases hat with hu | hu
 ·exact ha _ hu h2
 ·have:=(h.lt _ h2).2
  omega
structure Three (w:World) (bs:Nat) (u1 u2 u3:Value) (x1 x2 x3:List Nat):Prop where
 r1:NRow w bs u1 x1
 r2:NRow w bs u2 x2
 r3:NRow w bs u3 x3
 a12:Apart u1 u2
 a13:Apart u1 u3
 a23:Apart u2 u3
theorem Three.below {w w':World} {bs:Nat} {u1 u2 u3:Value} {x1 x2 x3:List Nat} (h:Three w bs u1 u2 u3 x1 x2 x3) (hb:Below w.heap.size w w'):Three w' bs u1 u2 u3 x1 x2 x3 :=
 ⟨ownsRow_turned h.r1 (Turned.ofBelow (Z:=fun _=>False) hb) (fun _ _ e=>e),ownsRow_turned h.r2 (Turned.ofBelow (Z:=fun _=>False) hb) (fun _ _ e=>e),ownsRow_turned h.r3 (Turned.ofBelow (Z:=fun _=>False) hb) (fun _ _ e=>e),h.a12,h.a13,h.a23⟩
theorem Three.heap {w w':World} {bs:Nat} {u1 u2 u3:Value} {x1 x2 x3:List Nat} (h:Three w bs u1 u2 u3 x1 x2 x3) (hh:w'.heap=w.heap):Three w' bs u1 u2 u3 x1 x2 x3 :=
 ⟨ownsRow_heap hh h.r1,ownsRow_heap hh h.r2,ownsRow_heap hh h.r3,h.a12,h.a13,h.a23⟩
theorem NRow.pushed {w3:World} {bs:Nat} {u:Value} {x:List Nat} {n:Nat} (h:w3.ownsRow bs 3 1 u (x.length+1) (x.map natV++[natV n])):NRow w3 bs u (x++[n]):=by simpa [NRow] using h
theorem Three.push1 {w w3:World} {bs gA cA n:Nat} {u1 u2 u3:Value} {x1 x2 x3:List Nat} {o:Obj} (h:Three w bs u1 u2 u3 x1 x2 x3) (hg:(w.alloc o).grownBy w3 u1.ownBlock)
 (hown:w3.ownsRow bs 3 1 (.slice (some ⟨gA,0,none⟩) (x1.length+1) cA) (x1.length+1) (x1.map natV++[natV n])) (hat:u1.ownBlock=some gA∨gA=w.heap.size+1):Three w3 bs (.slice (some ⟨gA,0,none⟩) (x1.length+1) cA) u2 u3 (x1++[n]) x2 x3 :=
 ⟨NRow.pushed hown,h.r2.kept hg h.a12,h.r3.kept hg h.a13,h.a12.grown h.r2 hat,h.a13.grown h.r3 hat,h.a23⟩
theorem Three.push2 {w w3:World} {bs gA cA n:Nat} {u1 u2 u3:Value} {x1 x2 x3:List Nat} {o:Obj} (h:Three w bs u1 u2 u3 x1 x2 x3) (hg:(w.alloc o).grownBy w3 u2.ownBlock)
 (hown:w3.ownsRow bs 3 1 (.slice (some ⟨gA,0,none⟩) (x2.length+1) cA) (x2.length+1) (x2.map natV++[natV n])) (hat:u2.ownBlock=some gA∨gA=w.heap.size+1):Three w3 bs u1 (.slice (some ⟨gA,0,none⟩) (x2.length+1) cA) u3 x1 (x2++[n]) x3 :=
 ⟨h.r1.kept hg h.a12.symm,NRow.pushed hown,h.r3.kept hg h.a23,(h.a12.symm.grown h.r1 hat).symm,h.a13,h.a23.grown h.r3 hat⟩
theorem Three.push3 {w w3:World} {bs gA cA n:Nat} {u1 u2 u3:Value} {x1 x2 x3:List Nat} {o:Obj} (h:Three w bs u1 u2 u3 x1 x2 x3) (hg:(w.alloc o).grownBy w3 u3.ownBlock)
 (hown:w3.ownsRow bs 3 1 (.slice (some ⟨gA,0,none⟩) (x3.length+1) cA) (x3.length+1) (x3.map natV++[natV n])) (hat:u3.ownBlock=some gA∨gA=w.heap.size+1):Three w3 bs u1 u2 (.slice (some ⟨gA,0,none⟩) (x3.length+1) cA) x1 x2 (x3++[n]) :=
 ⟨h.r1.kept hg h.a13.symm,h.r2.kept hg h.a23.symm,NRow.pushed hown,h.a12,(h.a13.symm.grown h.r1 hat).symm,(h.a23.symm.grown h.r2 hat).symm⟩
theorem DocsAt.drew {w:World} {base:Nat} {v:Value} {l:List DocR} {tv:List Value} (h:DocsAt w base v l tv):DocsAt w.drew base v l tv:=⟨h.row,h.len,h.toks,h.apart⟩
set_option maxHeartbeats 4000000 in
set_option maxRecDepth 1000000 in
theorem segmentR_any (w:World) (base g cap n:Nat) (l:List DocR) (tv:List Value) (h:DocsAt w base (.slice (some ⟨g,0,none⟩) n cap) l tv) (hn:n=l.length) (hc:Could l) :
 Calls Tryz.prog 60 #[.slice (some ⟨g,0,none⟩) n cap] w fun e w'=>e=.returned (lstV (wrt (cont l)))∧Below w.heap.size w w':=by
 subst hn
 have HCo:=hid hc
 have hh:l.length≤100:=hc.most
 have hsm:Small l:=fun d hd=>by
  have hd2:=hc.doc d hd
  have:=keyOk_len hd2.key
  have:=hd2.high
  exact ⟨by omega,by omega,hd2.len,fun t ht=>by have:=isTok_len (hd2.toks t ht);omega⟩
 clear hc
 have H0:=hid h
 clear h
 have CV:Hid (∀ (z:Int) (w:World),0≤z→z < 16384→Calls Tryz.prog 109 #[.int .i64 z] w fun e w'=>e=.returned (lstV (vi z.toNat))∧Below w.heap.size w w'):=fun z w h0 h1=>varintW_z z w h0 h1
 have CB:Hid (∀ (z:Int) (w:World),0≤z→z < 1000000→Calls Tryz.prog 110 #[.int .i64 z] w fun e w'=>e=.returned (lstV [byt z.toNat])∧Below w.heap.size w w'):=fun z w h0 h1=>b1_z z w h0 h1
 go_enter Tryz.func60,Tryz.ntmps60
 have hvl:=vi_le l.length
 have hi3':(Tryz.prog.info? 3).map (fun i=>(i.zero,i.size,i.bytes))=some (some (.int .i64 0),1,8):=by kernel_rfl
 obtain ⟨i3,hi3,hy0,hy1,hy2⟩:=info_parts hi3'
 clear hi3'
 have CK:Hid (∀ (J:Bs) (w1:World),J.length≤100000000→Calls Tryz.prog 114 #[lstV J] w1 fun e w'=>e=.returned (lstV (chk J))∧Below w1.heap.size w1 w'):=fun J w1 hJ=>by
  have:=checkR_any ⟨J.toArray⟩ w1 (by simpa [ByteArray.size] using hJ)
  simpa using this
 go_wp2_with (first
  | (go_at_call 109;refine (CV.out _ _ (by omega) (by omega)).mono ?_;rintro e w1 ⟨rfl,hb1⟩))
 have HD1:=hid (H0.out.below hb1)
 have HB1:=hid hb1
 have HP0:Hid ([83,71]++vi l.length++encDocs 0 ((docsP l).take 0)=[83,71]++vi l.length):=show _=_ by simp [encDocs]
 clear hb1
 go_loopw [3,4,5] (fun s3 s4 s5 wr=>∃ (i ah:Nat) (J:Bs),s5=.int .i64 (i:Int)∧s4=.int .i64 (ah:Int)∧s3=lstV J∧i≤l.length∧ah≤100∧J.length≤10+20 * i∧Hid (DocsAt wr base (.slice (some ⟨g,0,none⟩) l.length cap) l tv)∧Hid (Below w.heap.size w wr)∧Hid (ahd l i=ah)∧Hid ([83,71]++vi l.length++encDocs 0 ((docsP l).take i)=J)) (fun _ _ s5 _=>l.length - (intOf s5).toNat)
 case atStart=>exact ⟨0,0,[83,71]++vi l.length,rfl,rfl,congrArg Value.string (cat_two [83,71] _),by omega,by omega,by simp;omega,HD1,HB1,ahd_zero l,HP0⟩
 case round =>
  obtain ⟨i,ah,J,rfl,rfl,rfl,hi,hah,hJ,HD,HB,HA,HP⟩:=hrel
  by_cases hlt:i < l.length
  ·have hlti:(i:Int) < (l.length:Int):=by omega
   obtain ⟨d,hd⟩:∃ d,l[i]?=some d:=⟨_,List.getElem?_eq_getElem hlt⟩
   obtain ⟨t,ht⟩:=HD.out.tok hd
   obtain ⟨c0,c1,c2,_⟩:=HD.out.cells hd ht
   have hrow:=HD.out.toks i d t hd ht
   obtain ⟨gt,tcap,ao,hte,_,hao⟩:=ownsRow_shape hrow
   subst hte
   have hdk:=HCo.out.doc d (List.mem_of_getElem? hd)
   have hkl:=keyOk_len hdk.key
   have hd100:=hdk.high
   have hd40:=hdk.len
   have hle:=ahd_le HCo.out hd
   rw [HA.out] at hle
   have HA2:=hid (ahd_succ hd)
   have HP2:=HP.out
   have HPE:=hid (encDocs_take hd)
   rw [HA.out] at HPE
   obtain ⟨df,hdf⟩:∃ df,d.2.1 - ah=df:=⟨_,rfl⟩
   rw [hdf] at HPE
   have e0:(d.2.1:Int) - (ah:Int)=(df:Int):=by omega
   have e1:IntKind.i64.wrap (df:Int)=(df:Int):=by rw [IntKind.wrap_i64];omega
   have hdf2:df≤100:=by omega
   have hv1:=vi_le df
   have hv2:=vi_le d.2.2.length
   have hS1:¬ (9223372036854775807 < J.length+(vi df).length):=by omega
   have hS2:¬ (9223372036854775807 < J.length+(vi df).length+(vi d.2.2.length).length):=by omega
   have hS3:¬ (9223372036854775807 < J.length+(vi df).length+(vi d.2.2.length).length+1):=by omega
   have hS4:¬ (9223372036854775807 < J.length+(vi df).length+(vi d.2.2.length).length+1+d.1.length):=by omega
   have HDD:=hid hd
   have HTT:=hid ht
   clear hd ht hrow hdk hdf HP2 hao
   go_wp2_with (fail)
   go_region_held3 (fun w'=>w'.cell? ⟨g,i * 3,none⟩=some (.string ⟨d.1.toArray⟩)∧w'.cell? ⟨g,i * 3+1,none⟩=some (.int .i64 (d.2.1:Int))∧w'.cell? ⟨g,i * 3+2,none⟩=some (.slice ao d.2.2.length tcap)) (go_keep)
    (first
      | (go_at_call 110;refine (CB.out _ _ (by omega) (by omega)).mono ?_;rintro e w6 ⟨rfl,hb6⟩;have HD6:=hid (HD5.out.below hb6);have HB6:=hid (HB5.out.trans (hb6.mono HB5.out.size));obtain ⟨c06,c16,c26,_⟩:=HD6.out.cells HDD.out HTT.out;clear hb6)
      | (go_at_call 109;have _h:=HD4;refine (CV.out _ _ (by omega) (by omega)).mono ?_;rintro e w5 ⟨rfl,hb5⟩;have HD5:=hid (HD4.out.below hb5);have HB5:=hid (HB4.out.trans (hb5.mono HB4.out.size));obtain ⟨c05,c15,c25,_⟩:=HD5.out.cells HDD.out HTT.out;clear hb5)
      | (go_at_call 109;refine (CV.out _ _ (by omega) (by omega)).mono ?_;rintro e w4 ⟨rfl,hb4⟩;have HD4:=hid (HD.out.drew.below hb4);have HB4:=hid ((below_drew HB.out).trans (hb4.mono HB.out.size));obtain ⟨c04,c14,c24,_⟩:=HD4.out.cells HDD.out HTT.out;clear hb4))
   go_wp2
   go_roundw
   case rel =>
    refine ⟨i+1,d.2.1,J++(vi df++vi d.2.2.length++nm d.1),by go_num,rfl,congrArg Value.string (by apply ByteArray.ext;simp [nm]),by omega,by omega,by simp [nm];omega,HD6,HB6,HA2,?_⟩
    show _=_
    rw [HPE.out,← HP.out];simp
   case measure=>simp [intOf];omega
  ·have hlti:¬ ((i:Int) < (l.length:Int)):=by omega
   obtain rfl:i=l.length:=by omega
   have CW:=hid (wordsR_any wr base g cap l.length l tv HD.out rfl hh hsm)
   have hwl:=wordsTo_len l l.length [] (fun e he=>(hsm e he).2.2.1) hh (by simp)
   rw [wordsTo_all l _ (Nat.le_refl _)] at hwl
   have HPD:Hid ([83,71]++vi (docsP l).length++encDocs 0 (docsP l)=J):=show _=_ by
    have:=HP.out
    rw [List.take_of_length_le (by simp [docsP])] at this
    simpa [docsP] using this
   have HWI:Hid (∀ (k:Nat) (x:Bs),(wordsOf l)[k]?=some x→(listsP l).take (k+1)=(listsP l).take k++[(x,plsFrom 0 l x)]∧x.length≤20∧1≤(plsFrom 0 l x).length):=fun k x hx=>by
    obtain ⟨d,hd,hxd⟩:=wordsOf_mem.1 (List.mem_of_getElem? hx)
    refine ⟨?_,?_,plsFrom_some hd hxd⟩
    ·rw [List.take_add_one]
     simp [listsP,hx]
    ·exact (isTok_len ((HCo.out.doc d hd).toks x hxd)).2
   have HLT:Hid (∀ k,(wordsOf l).length≤k→(listsP l).take k=listsP l):=fun k hk=>List.take_of_length_le (by simp [listsP];omega)
   have HLL:Hid ((listsP l).length=(wordsOf l).length):=show _=_ by simp [listsP]
   have HV:Hid (∀ x,LV (lensOf (docsP l)) 0 (plsFrom 0 l x)):=fun x=>plsFrom_LV (Nat.le_refl _) (by simp [lensOf,docsP]) (fun d hd=>(hsm d hd).2.2.1)
   generalize wordsOf l=W at *
   have hJ0:J.length≤3000:=by omega
   have hvw:=vi_le W.length
   clear HP HA hJ
   go_wp2_with (first
    | (go_at_call 111;refine CW.out.mono ?_;rintro e w2 ⟨v2,rfl,hO2,hb2⟩;obtain ⟨gw,wcap,aw,hwe,_,haw⟩:=ownsRow_shape hO2;subst hwe)
    | (go_at_call 109;refine (CV.out _ _ (by omega) (by omega)).mono ?_;rintro e w3 ⟨rfl,hb3⟩))
   have HD2:=hid (HD.out.below hb2)
   have HB2:=hid (HB.out.trans (hb2.mono HB.out.size))
   have HO2:=hid hO2
   have HB3:=hid hb3
   clear hO2 hb2 hb3 CW HD HB
   obtain ⟨lens,hlens⟩:∃ lens,lensOf (docsP l)=lens:=⟨_,rfl⟩
   have hll:lens.length≤100:=by rw [← hlens];simp [lensOf,docsP];omega
   rw [hlens] at HV
   have HLEN:Hid (lens.length=l.length):=show _=_ by rw [← hlens];simp [lensOf,docsP]
   have HLD:Hid (∀ i d,l[i]?=some d→lens.getD i 0=d.2.2.length):=fun i d hd=>by rw [← hlens];simp [lensOf,docsP,List.getD,hd]
   have HFin:Hid (∀ J2,J++vi W.length++encLists lens (listsP l)=J2→wrt (cont l)=J2++chk J2):=fun J2 h2=>by
    have:encC (cont l)=J2:=by rw [← h2,← HPD.out];unfold encC cont;simp only [HLL.out,hlens]
    rw [wrt,this]
   clear hlens HPD
   go_loopw [3,7] (fun s3 s7 wr=>∃ (k:Nat) (J2:Bs),s7=.int .i64 (k:Int)∧s3=lstV J2∧k≤W.length∧J2.length≤3002+3000 * k∧Hid (Below w2.heap.size w2 wr)∧Hid (J++vi W.length++encLists lens ((listsP l).take k)=J2)) (fun _ s7 _=>W.length - (intOf s7).toNat)
   case atStart=>exact ⟨0,J++vi W.length,rfl,congrArg Value.string (cat_two _ _),by omega,by simp;omega,HB3,hid (by simp [encLists])⟩
   case round =>
    obtain ⟨k,J2,rfl,rfl,hk,hJ2,HBk,HL⟩:=hrel
    have hsk:=HBk.out.size
    by_cases hkl:k < W.length
    ·have hkli:(k:Int) < (W.length:Int):=by omega
     obtain ⟨x,hx⟩:∃ x,W[k]?=some x:=⟨_,List.getElem?_eq_getElem hkl⟩
     have haw1:=haw (by omega)
     subst haw1
     have HCW:Hid (∀ w',Below w2.heap.size w2 w'→w'.cell? ⟨gw,k,none⟩=some (lstV x)):=fun w' hb=>by
      have h2:=ownsRow_turned HO2.out (Turned.ofBelow (Z:=fun _=>False) hb) (fun _ _ e=>e)
      rw [h2.cellAt k (by omega),List.getElem?_map,hx];rfl
     obtain ⟨hLX,hxl,hpl1⟩:=HWI.out k x hx
     have HLX:=hid hLX
     have HVx:=hid (HV.out x)
     clear hx hLX
     go_wp2
     go_loopw [8,9,10,11] (fun s8 s9 s10 s11 wi=>∃ (i:Nat),s11=.int .i64 (i:Int)∧i≤l.length∧Hid (Below w2.heap.size w2 wi)∧Hid (Three wi w2.heap.size s8 s9 s10 ((plsFrom 0 (l.take i) x).map (·.1)) ((plsFrom 0 (l.take i) x).map (·.2)) ((plsFrom 0 (l.take i) x).map fun p=>lens.getD p.1 0))) (fun _ _ _ s11 _=>l.length - (intOf s11).toNat)
     case atStart=>exact ⟨0,rfl,by omega,HBk,hid ⟨⟨rfl,Or.inl ⟨rfl,rfl⟩⟩,⟨rfl,Or.inl ⟨rfl,rfl⟩⟩,⟨rfl,Or.inl ⟨rfl,rfl⟩⟩,(fun g h=>by cases h),(fun g h=>by cases h),(fun g h=>by cases h)⟩⟩
     case round =>
      obtain ⟨i,rfl,hi2,HBi,HT⟩:=hrel
      have hsi:=HBi.out.size
      by_cases hil:i < l.length
      ·have hili:(i:Int) < (l.length:Int):=by omega
       obtain ⟨d,hd⟩:∃ d,l[i]?=some d:=⟨_,List.getElem?_eq_getElem hil⟩
       obtain ⟨t,ht⟩:=HD2.out.tok hd
       have HDi:=hid (HD2.out.below HBi.out)
       have hrow:=HDi.out.toks i d t hd ht
       obtain ⟨hs1,hs2,hs3,hs4⟩:=hsm d (List.mem_of_getElem? hd)
       have CC:Hid (∀ w1:World,w1.heap=wr.heap→Calls Tryz.prog 112 #[t,lstV x] w1 fun e w'=>e=.returned (.int .i64 ((d.2.2.count x:Nat):Int))∧w'=w1):=fun w1 hh=>countR_any w1 base t d.2.2 x (ownsRow_heap hh hrow) (by omega)
       obtain ⟨gt,tcap,ao,hte,_,hao⟩:=ownsRow_shape hrow
       subst hte
       have HCD:Hid (∀ w',Below w2.heap.size w2 w'→w'.cell? ⟨g,i * 3+2,none⟩=some (.slice ao d.2.2.length tcap)):=fun w' hb=>((HD2.out.below hb).cells hd ht).2.2.1
       have c2:=HCD.out _ HBi.out
       have cw:=HCW.out _ HBi.out
       have hcl:d.2.2.count x≤40:=Nat.le_trans List.count_le_length hs3
       have hld:=HLD.out i d hd
       have hsn:plsFrom 0 (l.take (i+1)) x=plsFrom 0 (l.take i) x++(if 0 < d.2.2.count x then [(i,d.2.2.count x)] else []):=by
        have ht:l.take (i+1)=l.take i++[d]:=by rw [List.take_add_one,hd];rfl
        rw [ht,plsFrom_snoc]
        simp only [List.length_take,Nat.zero_add]
        rw [show min i l.length=i by omega]
       have hpll:(plsFrom 0 (l.take i) x).length≤100:=Nat.le_trans (plsFrom_len _ _ _) (by simp;omega)
       clear hrow hd ht hao
       generalize d.2.2.count x=c at *
       generalize plsFrom 0 (l.take i) x=pl at *
       by_cases hc0:0 < c
       ·have hc0i:(0:Int) < (c:Int):=by omega
        rw [if_pos hc0] at hsn
        have HSN:=hid hsn
        clear hsn
        have HLDD:=hid hld
        clear hld
        go_wp2_with (fail)
        go_region_held3 (fun w'=>w'.cell? ⟨g,i * 3+2,none⟩=some (.slice ao d.2.2.length tcap)∧w'.cell? ⟨gw,k,none⟩=some (lstV x)) (go_keep)
         (first
           | (go_at_call 112;refine (CC.out _ ?_).mono ?_;(exact rfl);rintro e w6 ⟨rfl,hw6⟩;subst hw6))
        have HTd:=hid (HT.out.heap (w':=wr.drew) rfl)
        have HBd:=hid (below_drew HBi.out)
        have c2d:=HCD.out _ HBd.out
        have hsd:=HBd.out.size
        clear HT HBi c2 cw hsi HDi CC
        generalize wr.drew=wd at *
        generalize hxx:pl.map (·.1)=xx at *
        generalize hyy:pl.map (·.2)=yy at *
        generalize hzz:(pl.map fun p=>lens.getD p.1 0)=zz at *
        have hxl2:xx.length≤100:=by rw [← hxx];simpa using hpll
        have hyl2:yy.length≤100:=by rw [← hyy];simpa using hpll
        have hzl2:zz.length≤100:=by rw [← hzz];simpa using hpll
        have HXX:=hid hxx
        have HYY:=hid hyy
        have HZZ:=hid hzz
        clear hxx hyy hzz
        go_wp2_with (first
         | (at_builtin;have _h:=HT2;refine wpList_append_lies _ rfl _ _ 35 rfl w2.heap.size 3 i3 (.int .i64 0) 1 8 Tryz.underlying35 hi3 hy0 hy1 hy2 rfl (by decide) _ _ _ rfl (HT2.out.r3.alloc _) ⟨w6.heap.size,0,none⟩ 1 1 [natV d.2.2.length] rfl rfl (cell_one_new _ _ _) (fun x hx=>by simp at hx;subst hx;rfl) (by omega) (by unfold maxLen;omega) (by omega) (by simp;omega) (w6.heap.size+1) (by simp) ?_;intro gC capC w7 hownC hgrowC hatC hltC;have HT3:=hid (HT2.out.push3 hgrowC hownC hatC);have HB7:=hid (below_row HB6.out HT2.out.r3 hgrowC);have hs7:=HB7.out.size)
         | (at_builtin;have _h:=HT1;refine wpList_append_lies _ rfl _ _ 35 rfl w2.heap.size 3 i3 (.int .i64 0) 1 8 Tryz.underlying35 hi3 hy0 hy1 hy2 rfl (by decide) _ _ _ rfl (HT1.out.r2.alloc _) ⟨w5.heap.size,0,none⟩ 1 1 [natV c] rfl rfl (cell_one_new _ _ _) (fun x hx=>by simp at hx;subst hx;rfl) (by omega) (by unfold maxLen;omega) (by omega) (by simp;omega) (w5.heap.size+1) (by simp) ?_;intro gB capB w6 hownB hgrowB hatB hltB;have HT2:=hid (HT1.out.push2 hgrowB hownB hatB);have HB6:=hid (below_row HB5.out HT1.out.r2 hgrowB);have hs6:=HB6.out.size;have c26:=HCD.out _ HB6.out)
         | (at_builtin;refine wpList_append_lies _ rfl _ _ 35 rfl w2.heap.size 3 i3 (.int .i64 0) 1 8 Tryz.underlying35 hi3 hy0 hy1 hy2 rfl (by decide) _ _ _ rfl (HTd.out.r1.alloc _) ⟨wd.heap.size,0,none⟩ 1 1 [natV i] rfl rfl (cell_one_new _ _ _) (fun x hx=>by simp at hx;subst hx;rfl) (by omega) (by unfold maxLen;omega) (by omega) (by simp;omega) (wd.heap.size+1) (by simp) ?_;intro gA capA w5 hownA hgrowA hatA hltA;have HT1:=hid (HTd.out.push1 hgrowA hownA hatA);have HB5:=hid (below_row HBd.out HTd.out.r1 hgrowA);have hs5:=HB5.out.size))
        go_roundw
        case rel =>
         refine ⟨i+1,by go_num,by omega,HB7,?_⟩
         show Three _ _ _ _ _ _ _ _
         rw [HSN.out]
         simp only [List.map_append,List.map_cons,List.map_nil,HLDD.out,HXX.out,HYY.out,HZZ.out]
         exact HT3.out
        case measure=>simp [intOf];omega
       ·have hc0i:¬ ((0:Int) < (c:Int)):=by omega
        rw [if_neg hc0,List.append_nil] at hsn
        have HSN:=hid hsn
        clear hsn
        go_wp2_with (fail)
        go_region_held3 (fun w'=>w'.cell? ⟨g,i * 3+2,none⟩=some (.slice ao d.2.2.length tcap)∧w'.cell? ⟨gw,k,none⟩=some (lstV x)) (go_keep)
         (first
           | (go_at_call 112;refine (CC.out _ ?_).mono ?_;(exact rfl);rintro e w6 ⟨rfl,hw6⟩;subst hw6))
        go_wp2
        go_roundw
        case rel=>exact ⟨i+1,by go_num,by omega,below_drew HBi.out,hid (by rw [HSN.out];exact HT.out.heap rfl)⟩
        case measure=>simp [intOf];omega
      ·have hili:¬ ((i:Int) < (l.length:Int)):=by omega
       have htl:l.take i=l:=List.take_of_length_le (by omega)
       rw [htl] at HT
       have hpll:(plsFrom 0 l x).length≤100:=Nat.le_trans (plsFrom_len _ _ _) hh
       have HEL:Hid (encList lens (x,plsFrom 0 l x)=nm x++vi (plsFrom 0 l x).length++encPls lens (plsFrom 0 l x).length 0 (plsFrom 0 l x)):=rfl
       have hel:=encPls_len hll (f:=(plsFrom 0 l x).length) HVx.out
       have H40:Hid (∀ p∈plsFrom 0 l x,lens.getD p.1 0≤40):=fun p hp=>by
        have h1:=(HVx.out.mem p hp).2.1
        obtain ⟨d,hd⟩:∃ d,l[p.1]?=some d:=⟨_,List.getElem?_eq_getElem (by have:=hll;have h5:lens.length=l.length:=HLEN.out;omega)⟩
        rw [HLD.out _ d hd]
        exact (hsm d (List.mem_of_getElem? hd)).2.2.1
       obtain ⟨g8,cap8,rfl⟩:=row_at HT.out.r1 (by simp;omega)
       obtain ⟨g9,cap9,rfl⟩:=row_at HT.out.r2 (by simp;omega)
       obtain ⟨g10,cap10,rfl⟩:=row_at HT.out.r3 (by simp;omega)
       simp only [List.length_map] at HT ⊢
       generalize plsFrom 0 l x=pl at *
       have CBk:Hid (∀ w',Three w' w2.heap.size (.slice (some ⟨g8,0,none⟩) pl.length cap8) (.slice (some ⟨g9,0,none⟩) pl.length cap9) (.slice (some ⟨g10,0,none⟩) pl.length cap10) (pl.map (·.1)) (pl.map (·.2)) (pl.map fun p=>lens.getD p.1 0)→Calls Tryz.prog 113 #[.slice (some ⟨g8,0,none⟩) pl.length cap8,.slice (some ⟨g9,0,none⟩) pl.length cap9,.slice (some ⟨g10,0,none⟩) pl.length cap10] w' fun e w''=>e=.returned (lstV (encPls lens pl.length 0 pl))∧Below w'.heap.size w' w''):=fun w' h3 =>
        blocksR_any w' w2.heap.size g8 cap8 g9 cap9 g10 cap10 pl.length pl lens rfl (by simpa [NRow] using h3.r1) (by simpa [NRow] using h3.r2) (by simpa [NRow] using h3.r3) hpll hll H40.out HVx.out
       have cw:=HCW.out _ HBi.out
       have hvp:=vi_le pl.length
       generalize encPls lens pl.length 0 pl=E at *
       have hS1:¬ (9223372036854775807 < J2.length+1):=by omega
       have hS2:¬ (9223372036854775807 < J2.length+1+x.length):=by omega
       have hS3:¬ (9223372036854775807 < J2.length+1+x.length+(vi pl.length).length):=by omega
       have hS4:¬ (9223372036854775807 < J2.length+1+x.length+(vi pl.length).length+E.length):=by omega
       go_wp2_with (fail)
       go_region_held3 (fun w'=>w'.cell? ⟨gw,k,none⟩=some (lstV x)) (go_keep)
        (first
          | (go_at_call 113;refine (CBk.out _ HT5.out).mono ?_;rintro e w6 ⟨rfl,hb6⟩;have HB6:=hid (HB5.out.trans (hb6.mono HB5.out.size));have cw6:=HCW.out _ HB6.out;clear hb6)
          | (go_at_call 109;refine (CV.out _ _ (by omega) (by omega)).mono ?_;rintro e w5 ⟨rfl,hb5⟩;have HT5:=hid (HT4.out.below hb5);have HB5:=hid (HB4.out.trans (hb5.mono HB4.out.size));have cw5:=HCW.out _ HB5.out;clear hb5)
          | (go_at_call 110;refine (CB.out _ _ (by omega) (by omega)).mono ?_;rintro e w4 ⟨rfl,hb4⟩;have HT4:=hid ((HT.out.heap (w':=wr.drew) rfl).below hb4);have HB4:=hid ((below_drew HBi.out).trans (hb4.mono HBi.out.size));have cw4:=HCW.out _ HB4.out;clear hb4))
       go_wp2
       go_roundw
       case rel =>
        refine ⟨k+1,J2++(nm x++vi pl.length++E),by go_num,congrArg Value.string (by apply ByteArray.ext;simp [nm]),by omega,by simp [nm];omega,HB6,?_⟩
        show _=_
        rw [HLX.out,encLists_snoc,HEL.out,← HL.out];simp
       case measure=>simp [intOf];omega
    ·have hkli:¬ ((k:Int) < (W.length:Int)):=by omega
     have HF:Hid (wrt (cont l)=J2++chk J2):=HFin.out J2 (by rw [← HL.out,HLT.out k (by omega)])
     have hck:(chk J2).length=4:=by unfold chk;rw [leB_len]
     have CKJ:=hid (CK.out J2 wr (by omega))
     generalize chk J2=K at *
     go_wp2_with (first | (go_at_call 114;refine CKJ.out.mono ?_;rintro e w4 ⟨rfl,hb4⟩))
     go_ret
     rw [HF.out]
     exact ⟨congrArg Ending.returned (congrArg Value.string (cat_two _ _)),HB2.out.trans ((HBk.out.trans (hb4.mono hsk)).mono HB2.out.size)⟩
end Go.Proofs.YtaacjjhmojecnaaGreatDoor
