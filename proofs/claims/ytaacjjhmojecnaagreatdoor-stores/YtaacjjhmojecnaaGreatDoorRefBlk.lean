import Derived.Test.YtaacjjhmojecnaaGreatDoorP07
import Derived.Test.YtaacjjhmojecnaaGreatDoorRefRead
import Derived.Deep.RegionHeld3
namespace Go.ScT
def nxt (next:Nat) (q:Pls):Nat:=if q=[] then next else lastO q+1
theorem lastO_snoc:∀ (q:Pls) (p:Nat × Nat),lastO (q++[p])=p.1
 | [],_=>rfl
 | [_],_=>rfl
 | _ :: b :: r,p=>by
   have:=lastO_snoc (b :: r) p
   simpa [lastO] using this
theorem nxt_snoc (next:Nat) (q:Pls) (p:Nat × Nat):nxt next (q++[p])=p.1+1:=by simp [nxt,lastO_snoc]
theorem nxt_cons (next:Nat) (p:Nat × Nat) (r:Pls):nxt next (p :: r)=nxt (p.1+1) r:=by
 cases r with
 | nil=>simp [nxt,lastO]
 | cons b r=>simp [nxt,lastO]
theorem stp_snoc:∀ (next:Nat) (q:Pls) (p:Nat × Nat),stp next (q++[p])=stp next q++[p.1 - nxt next q]
 | next,[],p=>by simp [stp,nxt]
 | next,a :: r,p=>by simp [stp,stp_snoc (a.1+1) r p,nxt_cons]
theorem rep_snoc (q:Pls) (p:Nat × Nat):rep (q++[p])=rep q++[p.2 - 1]:=by simp [rep]
theorem mxC_snoc (q:Pls) (p:Nat × Nat):mxC (q++[p])=max (mxC q) p.2:=by
 unfold mxC;rw [List.map_append];exact mx_snoc _ _
theorem mnL_snoc (lens:List Nat):∀ (q:Pls) (p:Nat × Nat),mnL lens (q++[p])=min (mnL lens q) (lens.getD p.1 0)
 | [],p=>by simp [mnL];omega
 | a :: r,p=>by
   have:=mnL_snoc lens r p
   have h1:mnL lens (a :: r++[p])=min (lens.getD a.1 0) (mnL lens (r++[p])):=rfl
   have h2:mnL lens (a :: r)=min (lens.getD a.1 0) (mnL lens r):=rfl
   rw [h1,h2,this];omega
theorem pairB_snoc:∀ (ss rr:List Nat) (s r:Nat),ss.length=rr.length→pairB (ss++[s]) (rr++[r])=pairB ss rr++(vi s++vi r)
 | [],[],s,r,_=>by simp [pairB]
 | a :: ss,b :: rr,s,r,h=>by simp [pairB,pairB_snoc ss rr s r (by simpa using h)]
 | [],_ :: _,_,_,h=>by simp at h
 | _ :: _,[],_,_,h=>by simp at h
theorem pairB_take {ss rr:List Nat} {k s r:Nat} (h:ss.length=rr.length) (h1:ss[k]?=some s) (h2:rr[k]?=some r):pairB (ss.take (k+1)) (rr.take (k+1))=pairB (ss.take k) (rr.take k)++(vi s++vi r):=by
 have e1:ss.take (k+1)=ss.take k++[s]:=by rw [List.take_add_one,h1];rfl
 have e2:rr.take (k+1)=rr.take k++[r]:=by rw [List.take_add_one,h2];rfl
 rw [e1,e2,pairB_snoc _ _ _ _ (by simp [h])]
theorem vi_le (n:Nat):(vi n).length≤2:=by rw [vi_len];split <;> omega
theorem pk_le (w:Nat) (ns:List Nat) (h:w≤8):(pk w ns).length≤4:=by unfold pk psz;rw [leB_len];omega
theorem encPls_step {lens:List Nat} {b:Pls} {k nx:Nat} (h:k < b.length):encPls lens (b.length - k) nx (b.drop k)=encBlk lens nx ((b.drop k).take 4)++encPls lens (b.length - (k+4)) (lastO ((b.drop k).take 4)+1) (b.drop (k+4)):=by
 obtain ⟨m,hm⟩:∃ m,b.length - k=m+1:=⟨b.length - k - 1,by omega⟩
 have hne:¬ (b.drop k=[]):=by
  intro e
  have:=congrArg List.length e
  simp at this;omega
 rw [hm]
 simp only [encPls,if_neg hne,List.drop_drop]
 rw [encPls_fuel lens (f:=m) (g:=b.length - (k+4)) (by simp;omega) (by simp)]
theorem encPls_end {lens:List Nat} {b:Pls} {k nx:Nat} (h:b.length≤k):encPls lens (b.length - k) nx (b.drop k)=[]:=by
 rw [show b.length - k=0 by omega];rfl
theorem LV_at {lens:List Nat}:∀ {q:Pls} {nx j:Nat} {p:Nat × Nat},LV lens nx q→q[j]?=some p→nxt nx (q.take j)≤p.1∧p.1 < lens.length∧1≤p.2∧p.2≤40∧1≤lens.getD p.1 0
 | [],_,_,_,_,h=>by simp at h
 | a :: r,nx,0,p,hv,h=>by
   simp at h;subst h
   obtain ⟨h1,h2,h3,h4,h5,_⟩:=hv
   exact ⟨by simpa [nxt] using h1,h2,h3,h4,h5⟩
 | a :: r,nx,j+1,p,hv,h=>by
   simp only [List.getElem?_cons_succ] at h
   have:=LV_at hv.2.2.2.2.2 h
   simpa [List.take_succ_cons,nxt_cons] using this
theorem LV_take {lens:List Nat}:∀ {q:Pls} {nx:Nat} (j:Nat),LV lens nx q→LV lens nx (q.take j)
 | [],_,j,_=>by simp [LV]
 | a :: r,nx,0,_=>by simp [LV]
 | a :: r,nx,j+1,h=>by
   obtain ⟨h1,h2,h3,h4,h5,h6⟩:=h
   simp only [List.take_succ_cons,LV]
   exact ⟨h1,h2,h3,h4,h5,LV_take j h6⟩
theorem LV_drop {lens:List Nat}:∀ {q:Pls} {nx:Nat} (j:Nat),LV lens nx q→LV lens (nxt nx (q.take j)) (q.drop j)
 | [],_,j,_=>by simp [LV]
 | a :: r,nx,0,h=>by simpa [nxt] using h
 | a :: r,nx,j+1,h=>by
   have:=LV_drop j h.2.2.2.2.2
   simpa [List.take_succ_cons,nxt_cons] using this
theorem mxC_le40 {lens:List Nat} {q:Pls} {nx:Nat} (h:LV lens nx q):mxC q≤40:=mxC_le.2 fun p hp=>(h.mem p hp).2.2.2.1
theorem stp_lt {lens:List Nat} {q:Pls} {nx:Nat} (h:LV lens nx q) (hl:lens.length≤100):∀ x∈stp nx q,x < 100:=fun x hx=>by have:=stp_le h.ris x hx;omega
theorem rep_lt {lens:List Nat} {q:Pls} {nx:Nat} (h:LV lens nx q):∀ x∈rep q,x < 40:=by
 intro x hx
 unfold rep at hx
 obtain ⟨p,hp,rfl⟩:=List.mem_map.1 hx
 have:=h.mem p hp
 omega
end Go.ScT
namespace Go.Proofs.YtaacjjhmojecnaaGreatDoor
open Go.RowKit Go.ScT Go.Proofs
theorem below_cell {w w':World} (hb:Below w.heap.size w w') {base g cap n j:Nat} {xs:List Value} {x:Value} (h:w.ownsRow base 3 1 (.slice (some ⟨g,0,none⟩) n cap) n xs) (hj:j < n) (hx:xs[j]?=some x):w'.cell? ⟨g,j,none⟩=some x:=by
 have h2:=ownsRow_turned h (Turned.ofBelow (Z:=fun _=>False) hb) (fun _ _ e=>e)
 rw [h2.cellAt j (by omega),hx]
theorem Two.below {w w':World} {bs:Nat} {u1 u2:Value} {x1 x2:List Nat} (h:Two w bs u1 u2 x1 x2) (hb:Below w.heap.size w w'):Two w' bs u1 u2 x1 x2 :=
 h.turned (Turned.ofBelow (Z:=fun _=>False) hb) (fun _ _ _ e=>e)
theorem Two.drew {w:World} {bs:Nat} {u1 u2:Value} {x1 x2:List Nat} (h:Two w bs u1 u2 x1 x2):Two w.drew bs u1 u2 x1 x2:=⟨h.r1,h.r2⟩
theorem below_drew {w w':World} (h:Below w.heap.size w w'):Below w.heap.size w w'.drew:=below_of (Z:=fun _=>False) ((Turned.ofBelow h).ofDrew 1) (fun _ _ e=>e)
set_option maxHeartbeats 4000000 in
set_option maxRecDepth 1000000 in
theorem blocksR_any (w:World) (base gO cO gC cC gL cL n:Nat) (b:Pls) (lens:List Nat) (hn:n=b.length)
 (hO:w.ownsRow base 3 1 (.slice (some ⟨gO,0,none⟩) n cO) n ((b.map (·.1)).map natV)) (hC:w.ownsRow base 3 1 (.slice (some ⟨gC,0,none⟩) n cC) n ((b.map (·.2)).map natV))
 (hL:w.ownsRow base 3 1 (.slice (some ⟨gL,0,none⟩) n cL) n ((b.map fun p=>lens.getD p.1 0).map natV))
 (h100:b.length≤100) (hl:lens.length≤100) (h40:∀ p∈b,lens.getD p.1 0≤40) (hv:LV lens 0 b) :
 Calls Tryz.prog 113 #[.slice (some ⟨gO,0,none⟩) n cO,.slice (some ⟨gC,0,none⟩) n cC,.slice (some ⟨gL,0,none⟩) n cL] w fun e w'=>e=.returned (lstV (encPls lens b.length 0 b))∧Below w.heap.size w w':=by
 subst hn
 have HC:Hid (∀ (w':World) (j:Nat) (p:Nat × Nat),Below w.heap.size w w'→b[j]?=some p→w'.cell? ⟨gO,j,none⟩=some (.int .i64 (p.1:Int))∧w'.cell? ⟨gC,j,none⟩=some (.int .i64 (p.2:Int))∧w'.cell? ⟨gL,j,none⟩=some (.int .i64 (lens.getD p.1 0:Int))):=by
  intro w' j p hb hj
  have hlt:=(List.getElem?_eq_some_iff.1 hj).1
  exact ⟨below_cell hb hO hlt (by simp [hj]),below_cell hb hC hlt (by simp [hj]),below_cell hb hL hlt (by simp [hj])⟩
 clear hO hC hL
 have CV:Hid (∀ (z:Int) (w:World),0≤z→z < 16384→Calls Tryz.prog 109 #[.int .i64 z] w fun e w'=>e=.returned (lstV (vi z.toNat))∧Below w.heap.size w w'):=fun z w h0 h1=>varintW_z z w h0 h1
 have CB:Hid (∀ (z:Int) (w:World),0≤z→z < 1000000→Calls Tryz.prog 110 #[.int .i64 z] w fun e w'=>e=.returned (lstV [byt z.toNat])∧Below w.heap.size w w'):=fun z w h0 h1=>b1_z z w h0 h1
 obtain ⟨R,hR⟩:∃ R,encPls lens b.length 0 b=R:=⟨_,rfl⟩
 rw [hR]
 have HR0:Hid ([]++encPls lens (b.length - 0) 0 (b.drop 0)=R):=show _=_ by simpa using hR
 have HV0:Hid (LV lens 0 (b.drop 0)):=show LV _ _ _ by simpa using hv
 have H40:=hid h40
 clear hR hv h40
 have hi3':(Tryz.prog.info? 3).map (fun i=>(i.zero,i.size,i.bytes))=some (some (.int .i64 0),1,8):=by kernel_rfl
 obtain ⟨i3,hi3,hy0,hy1,hy2⟩:=info_parts hi3'
 clear hi3'
 go_enter Tryz.func113,Tryz.ntmps113
 go_wp2
 go_loopw [7,8,9] (fun s7 s8 s9 wr=>∃ (k nx:Nat) (J:Bs),s9=.int .i64 (k:Int)∧s8=.int .i64 ((nx:Int) - 1)∧s7=lstV J∧k≤b.length+3∧nx≤100∧J.length≤100 * k∧Hid (Below w.heap.size w wr)∧Hid (J++encPls lens (b.length - k) nx (b.drop k)=R)∧Hid (LV lens nx (b.drop k))) (fun _ _ s9 _=>b.length+4 - (intOf s9).toNat)
 case atStart=>exact ⟨0,0,[],rfl,rfl,rfl,by omega,by omega,by simp,Below.refl _ _,HR0,HV0⟩
 case round =>
  obtain ⟨k,nx,J,rfl,rfl,rfl,hk,hnx,hJ,HB,HE,HV⟩:=hrel
  by_cases hlt:k < b.length
  ·have hlti:(k:Int) < (b.length:Int):=by omega
   obtain ⟨q4,hq4⟩:∃ q4,(b.drop k).take 4=q4:=⟨_,rfl⟩
   have HE2:=HE.out
   rw [encPls_step hlt,hq4] at HE2
   have HEb:=hid HE2
   have HVq:Hid (LV lens nx q4):=show LV _ _ _ by rw [← hq4];exact LV_take 4 HV.out
   have hql:q4.length=min 4 (b.length - k):=by rw [← hq4];simp
   have HVd:Hid (LV lens (nxt nx q4) (b.drop (k+4))):=show LV _ _ _ by
    have:=LV_drop 4 HV.out
    rw [hq4,List.drop_drop] at this
    exact this
   have HG:Hid (∀ j p,q4[j]?=some p→b[k+j]?=some p):=fun j p h=>by
    rw [← hq4,List.getElem?_take] at h
    split at h
    ·simpa using h
    ·cases h
   have HN:Hid (nxt nx q4=lastO q4+1):=show _=_ by
    unfold nxt
    rw [if_neg]
    intro e
    rw [e] at hql
    simp at hql;omega
   clear HE2 HE HV hq4
   by_cases hfull:k+4≤b.length
   ·have hfi:¬ ((b.length:Int) < (k:Int)+4):=by omega
    have hT:q4.length=4:=by omega
    go_wp2
    go_loopw [8,11,12,13,14,15] (fun s8 s11 s12 s13 s14 s15 wi=>∃ (j:Nat),s15=.int .i64 ((k:Int)+(j:Int))∧s8=.int .i64 ((nxt nx (q4.take j):Int) - 1)∧s11=.int .i64 (mxC (q4.take j):Int)∧s12=.int .i64 (mnL lens (q4.take j):Int)∧j≤q4.length∧Hid (Below w.heap.size w wi)∧Hid (Two wi w.heap.size s13 s14 (stp nx (q4.take j)) (rep (q4.take j)))∧Hid (∀ g,s13.ownBlock=some g→s14.ownBlock≠some g)) (fun _ _ _ _ _ s15 _=>b.length+4 - (intOf s15).toNat)
    case atStart=>exact ⟨0,by simp,by simp [nxt],by simp [mxC,mx],by simp [mnL],by omega,HB,hid ⟨⟨rfl,Or.inl ⟨rfl,rfl⟩⟩,⟨rfl,Or.inl ⟨rfl,rfl⟩⟩⟩,hid (fun g hg=>by cases hg)⟩
    case round =>
     obtain ⟨j,rfl,rfl,rfl,rfl,hj,HB2,HW,HAp⟩:=hrel
     have hsz:=HB2.out.size
     by_cases hjl:j < q4.length
     ·have hjli:(k:Int)+(j:Int) < (k:Int)+4:=by omega
      obtain ⟨p,hp⟩:∃ p,q4[j]?=some p:=⟨_,List.getElem?_eq_getElem hjl⟩
      obtain ⟨hp1,hp2,hp3,hp4,hp5⟩:=LV_at HVq.out hp
      have hbp:=HG.out j p hp
      obtain ⟨c0,c1,c2⟩:=HC.out wr (k+j) p HB2.out hbp
      have hl40:=H40.out p (List.mem_of_getElem? hbp)
      have htk:q4.take (j+1)=q4.take j++[p]:=by rw [List.take_add_one,hp];rfl
      have HX1:Hid (nxt nx (q4.take (j+1))=p.1+1):=show _=_ by rw [htk,nxt_snoc]
      have HX2:Hid (mxC (q4.take (j+1))=max (mxC (q4.take j)) p.2):=show _=_ by rw [htk,mxC_snoc]
      have HX3:Hid (mnL lens (q4.take (j+1))=min (mnL lens (q4.take j)) (lens.getD p.1 0)):=show _=_ by rw [htk,mnL_snoc]
      have HX4:Hid (stp nx (q4.take (j+1))=stp nx (q4.take j)++[p.1 - nxt nx (q4.take j)]):=show _=_ by rw [htk,stp_snoc]
      have HX5:Hid (rep (q4.take (j+1))=rep (q4.take j)++[p.2 - 1]):=show _=_ by rw [htk,rep_snoc]
      have hxl:(stp nx (q4.take j)).length=j:=by rw [stp_len];simp;omega
      have hyl:(rep (q4.take j)).length=j:=by rw [rep_len];simp;omega
      have hm40:=mxC_le40 (LV_take j HVq.out)
      have hn40:=mnL_le lens (q4.take j)
      generalize stp nx (q4.take j)=xs at *
      generalize rep (q4.take j)=ys at *
      generalize nxt nx (q4.take j)=nx2 at *
      generalize mxC (q4.take j)=m at *
      generalize mnL lens (q4.take j)=l0 at *
      generalize lens.getD p.1 0=ln at *
      obtain ⟨o,c⟩:=p
      simp only at hp1 hp2 hp3 hp4 c0 c1 HX1 HX2 HX4 HX5
      obtain ⟨s,hs⟩:∃ s,o - nx2=s:=⟨_,rfl⟩
      obtain ⟨d,hd⟩:∃ d,c - 1=d:=⟨_,rfl⟩
      rw [hs] at HX4
      rw [hd] at HX5
      have e7:(o:Int) - ((nx2:Int) - 1) - 1=(s:Int):=by omega
      have e8:(c:Int) - 1=(d:Int):=by omega
      have hs100:s < 100:=by omega
      have hd40:d < 40:=by omega
      have hkj:k+j≤103:=by omega
      have HBP:=hid hbp
      clear hs hd hp hbp htk
      rcases Nat.lt_or_ge m c with hmc | hmc
      all_goals rcases Nat.lt_or_ge ln l0 with hll | hll
      all_goals
       go_wp2_with (first
        | (at_builtin;have HB9:=HA9;refine wpList_append_lies _ rfl _ _ 35 rfl w.heap.size 3 i3 (.int .i64 0) 1 8 Tryz.underlying35 hi3 hy0 hy1 hy2 rfl (by decide) _ _ _ rfl (HA10.out.alloc _) ⟨w5.heap.size,0,none⟩ 1 1 [natV d] rfl rfl (cell_one_new _ _ _) (fun x hx=>by simp at hx;subst hx;rfl) (by omega) (by unfold maxLen;omega) (by omega) (by simp;omega) (w5.heap.size+1) (by simp) ?_;intro gB capB w6 hownB hgrowB hatB hltB;have hB6:=below_row hB5 HA10.out hgrowB;have c06:=(HC.out w6 (k+j) _ hB6 HBP.out).1)
        | (at_builtin;refine wpList_append_lies _ rfl _ _ 35 rfl w.heap.size 3 i3 (.int .i64 0) 1 8 Tryz.underlying35 hi3 hy0 hy1 hy2 rfl (by decide) _ _ _ rfl (HW.out.r1.alloc _) ⟨wr.heap.size,0,none⟩ 1 1 [natV s] rfl rfl (cell_one_new _ _ _) (fun x hx=>by simp at hx;subst hx;rfl) (by omega) (by unfold maxLen;omega) (by omega) (by simp;omega) (wr.heap.size+1) (by simp) ?_;intro gA capA w5 hownA hgrowA hatA hltA;have HA9:=hid hownA;have HA10:=hid (ownsRow_turned HW.out.r2 ((Turned.ofAlloc wr _).trans (Turned.ofGrown hgrowA (fun j hj _=>hj))) (fun g hg e=>HAp.out g e hg));have hB5:=below_row HB2.out HW.out.r1 hgrowA;have hsz5:=hB5.size;have c15:=(HC.out w5 (k+j) _ hB5 HBP.out).2.1))
       go_roundw
       case rel =>
        have hu14:u14.ownBlock≠some gA:=fun e=>by
         rcases hatA with h | h
         ·exact HAp.out gA h e
         ·have:=(HW.out.r2.lt gA e).2
          omega
        have T6:Turned (fun j=>u14.ownBlock=some j) w5 w6:=(Turned.ofAlloc w5 _).trans (Turned.ofGrown hgrowB (fun j hj _=>hj))
        refine ⟨j+1,by go_num,by rw [HX1.out];go_num,?_,?_,by omega,hB6,?_,?_⟩
        ·rw [HX2.out];exact congrArg (Value.int .i64) (by omega)
        ·rw [HX3.out];exact congrArg (Value.int .i64) (by omega)
        ·rw [HX4.out,HX5.out]
         refine hid ⟨?_,?_⟩
         ·have:=ownsRow_turned HA9.out T6 (fun j hj e=>hu14 (by rw [e];simp [Value.ownBlock] at hj;rw [hj]))
          simpa [hxl] using this
         ·simpa [hyl] using hownB
        ·refine hid (fun j hj e=>?_)
         have e1:gA=j:=by simpa [Value.ownBlock] using hj
         have e2:gB=j:=by simpa [Value.ownBlock] using e
         subst e1
         rcases hatB with h | h
         ·rw [e2] at h;exact hu14 h
         ·omega
       case measure=>simp [intOf];omega
     ·have hjli:¬ ((k:Int)+(j:Int) < (k:Int)+4):=by omega
      obtain rfl:j=4:=by omega
      have hq44:q4.take 4=q4:=List.take_of_length_le (by omega)
      rw [hq44] at HW ⊢
      obtain ⟨p,hp⟩:∃ p,q4[3]?=some p:=⟨_,List.getElem?_eq_getElem (by omega)⟩
      have hlast:lastO q4=p.1:=by
       have h3:q4=q4.take 3++[p]:=by
        have:q4.take (3+1)=q4.take 3++[p]:=by rw [List.take_add_one,hp];rfl
        rw [← this];exact hq44.symm
       rw [h3,lastO_snoc]
      have hbp:=HG.out 3 p hp
      have c0:=(HC.out wr (k+3) p HB2.out hbp).1
      have hpl:=(LV_at HVq.out hp).2.1
      have hm40:=mxC_le40 HVq.out
      have hn40:=mnL_le lens q4
      have hxl:(stp nx q4).length=4:=by rw [stp_len,hT]
      have hyl:(rep q4).length=4:=by rw [rep_len,hT]
      have hxs:=stp_lt HVq.out hl
      have hys:=rep_lt HVq.out
      have HBK:Hid (encBlk lens nx q4=vi p.1++vi (mxC q4)++vi (mnL lens q4)++([byt (wd (stp nx q4)),byt (wd (rep q4))]++pk (wd (stp nx q4)) (stp nx q4)++pk (wd (rep q4)) (rep q4))):=show _=_ by
       unfold encBlk body
       rw [hlast,if_pos hxl]
      have HX1:Hid (nxt nx q4=p.1+1):=show _=_ by rw [HN.out,hlast]
      rw [hlast] at HEb
      have HLS:=hid hlast
      have e9:(k:Int)+4 - 1=(k:Int)+3:=by omega
      have e10:(k:Int)+4 - (k:Int)=4:=by omega
      have hw1:wd (stp nx q4)≤8:=wd_le.2 fun x hx=>by have:=hxs x hx;omega
      have hw2:wd (rep q4)≤8:=wd_le.2 fun x hx=>by have:=hys x hx;omega
      have CW1:Hid (∀ w',Two w' w.heap.size u13 u14 (stp nx q4) (rep q4)→(Calls Tryz.prog 185 #[u13] w' fun e w''=>e=.returned (.int .i64 (wd (stp nx q4):Int))∧w''=w')∧(Calls Tryz.prog 185 #[u14] w' fun e w''=>e=.returned (.int .i64 (wd (rep q4):Int))∧w''=w')∧(Calls Tryz.prog 186 #[u13,.int .i64 (wd (stp nx q4):Int)] w' fun e w''=>e=.returned (lstV (pk (wd (stp nx q4)) (stp nx q4)))∧Below w'.heap.size w' w'')∧(Calls Tryz.prog 186 #[u14,.int .i64 (wd (rep q4):Int)] w' fun e w''=>e=.returned (lstV (pk (wd (rep q4)) (rep q4)))∧Below w'.heap.size w' w'')):=fun w' h2 =>
       ⟨widthR_any w' w.heap.size u13 (stp nx q4) h2.r1 (by omega) (fun x hx=>by have:=hxs x hx;omega),widthR_any w' w.heap.size u14 (rep q4) h2.r2 (by omega) (fun x hx=>by have:=hys x hx;omega),
        packedR_any w' w.heap.size u13 (stp nx q4) _ h2.r1 hxl hw1 (wd_lt _),packedR_any w' w.heap.size u14 (rep q4) _ h2.r2 hyl hw2 (wd_lt _)⟩
      have hpk1:=pk_le (wd (stp nx q4)) (stp nx q4) hw1
      have hpk2:=pk_le (wd (rep q4)) (rep q4) hw2
      generalize pk (wd (stp nx q4)) (stp nx q4)=P1 at *
      generalize pk (wd (rep q4)) (rep q4)=P2 at *
      generalize wd (stp nx q4)=w1d at *
      generalize wd (rep q4)=w2d at *
      generalize stp nx q4=xs at *
      generalize rep q4=ys at *
      generalize mxC q4=m at *
      generalize mnL lens q4=l0 at *
      obtain ⟨o,c⟩:=p
      simp only at hpl HBK HX1 c0 HEb
      clear hlast hbp hp hxs hys hq44
      have hv1:=vi_le o
      have hv2:=vi_le m
      have hv3:=vi_le l0
      go_wp2_with (first
       | (go_at_call 109;refine (CV.out _ _ (by omega) (by omega)).mono ?_;rintro e w7 ⟨rfl,hb7⟩;replace HW:=hid (HW.out.below hb7);replace HB2:=hid (HB2.out.trans (hb7.mono HB2.out.size));clear hb7)
       | (go_at_call 110;refine (CB.out _ _ (by omega) (by omega)).mono ?_;rintro e w7 ⟨rfl,hb7⟩;replace HW:=hid (HW.out.below hb7);replace HB2:=hid (HB2.out.trans (hb7.mono HB2.out.size));clear hb7)
       | (go_at_call_of 185 (u13);refine ((CW1.out _ HW.out).1).mono ?_;rintro e w7 ⟨rfl,hw7⟩;subst hw7)
       | (go_at_call_of 185 (u14);refine ((CW1.out _ HW.out).2.1).mono ?_;rintro e w7 ⟨rfl,hw7⟩;subst hw7)
       | (go_at_call_of 186 (u13);refine ((CW1.out _ HW.out).2.2.1).mono ?_;rintro e w7 ⟨rfl,hb7⟩;replace HW:=hid (HW.out.below hb7);replace HB2:=hid (HB2.out.trans (hb7.mono HB2.out.size));clear hb7)
       | (go_at_call_of 186 (u14);refine ((CW1.out _ HW.out).2.2.2).mono ?_;rintro e w7 ⟨rfl,hb7⟩;replace HW:=hid (HW.out.below hb7);replace HB2:=hid (HB2.out.trans (hb7.mono HB2.out.size));clear hb7))
      go_roundw
      case rel =>
       refine ⟨k+4,o+1,J++(vi o++vi m++vi l0++([byt w1d,byt w2d]++P1++P2)),by go_num,by rw [HX1.out],congrArg Value.string (by apply ByteArray.ext;simp),by omega,by omega,?_,HB2,?_,?_⟩
       ·simp;omega
       ·show _=_
        rw [← HEb.out,HBK.out];simp
       ·show LV _ _ _
        rw [← HX1.out];exact HVd.out
      case measure=>simp [intOf];omega
   ·have hfi:(b.length:Int) < (k:Int)+4:=by omega
    have hT:q4.length=b.length - k:=by omega
    go_wp2
    go_loopw [8,11,12,13,14,15] (fun s8 s11 s12 s13 s14 s15 wi=>∃ (j:Nat),s15=.int .i64 ((k:Int)+(j:Int))∧s8=.int .i64 ((nxt nx (q4.take j):Int) - 1)∧s11=.int .i64 (mxC (q4.take j):Int)∧s12=.int .i64 (mnL lens (q4.take j):Int)∧j≤q4.length∧Hid (Below w.heap.size w wi)∧Hid (Two wi w.heap.size s13 s14 (stp nx (q4.take j)) (rep (q4.take j)))∧Hid (∀ g,s13.ownBlock=some g→s14.ownBlock≠some g)) (fun _ _ _ _ _ s15 _=>b.length+4 - (intOf s15).toNat)
    case atStart=>exact ⟨0,by simp,by simp [nxt],by simp [mxC,mx],by simp [mnL],by omega,HB,hid ⟨⟨rfl,Or.inl ⟨rfl,rfl⟩⟩,⟨rfl,Or.inl ⟨rfl,rfl⟩⟩⟩,hid (fun g hg=>by cases hg)⟩
    case round =>
     obtain ⟨j,rfl,rfl,rfl,rfl,hj,HB2,HW,HAp⟩:=hrel
     have hsz:=HB2.out.size
     by_cases hjl:j < q4.length
     ·have hjli:(k:Int)+(j:Int) < (b.length:Int):=by omega
      obtain ⟨p,hp⟩:∃ p,q4[j]?=some p:=⟨_,List.getElem?_eq_getElem hjl⟩
      obtain ⟨hp1,hp2,hp3,hp4,hp5⟩:=LV_at HVq.out hp
      have hbp:=HG.out j p hp
      obtain ⟨c0,c1,c2⟩:=HC.out wr (k+j) p HB2.out hbp
      have hl40:=H40.out p (List.mem_of_getElem? hbp)
      have htk:q4.take (j+1)=q4.take j++[p]:=by rw [List.take_add_one,hp];rfl
      have HX1:Hid (nxt nx (q4.take (j+1))=p.1+1):=show _=_ by rw [htk,nxt_snoc]
      have HX2:Hid (mxC (q4.take (j+1))=max (mxC (q4.take j)) p.2):=show _=_ by rw [htk,mxC_snoc]
      have HX3:Hid (mnL lens (q4.take (j+1))=min (mnL lens (q4.take j)) (lens.getD p.1 0)):=show _=_ by rw [htk,mnL_snoc]
      have HX4:Hid (stp nx (q4.take (j+1))=stp nx (q4.take j)++[p.1 - nxt nx (q4.take j)]):=show _=_ by rw [htk,stp_snoc]
      have HX5:Hid (rep (q4.take (j+1))=rep (q4.take j)++[p.2 - 1]):=show _=_ by rw [htk,rep_snoc]
      have hxl:(stp nx (q4.take j)).length=j:=by rw [stp_len];simp;omega
      have hyl:(rep (q4.take j)).length=j:=by rw [rep_len];simp;omega
      have hm40:=mxC_le40 (LV_take j HVq.out)
      have hn40:=mnL_le lens (q4.take j)
      generalize stp nx (q4.take j)=xs at *
      generalize rep (q4.take j)=ys at *
      generalize nxt nx (q4.take j)=nx2 at *
      generalize mxC (q4.take j)=m at *
      generalize mnL lens (q4.take j)=l0 at *
      generalize lens.getD p.1 0=ln at *
      obtain ⟨o,c⟩:=p
      simp only at hp1 hp2 hp3 hp4 c0 c1 HX1 HX2 HX4 HX5
      obtain ⟨s,hs⟩:∃ s,o - nx2=s:=⟨_,rfl⟩
      obtain ⟨d,hd⟩:∃ d,c - 1=d:=⟨_,rfl⟩
      rw [hs] at HX4
      rw [hd] at HX5
      have e7:(o:Int) - ((nx2:Int) - 1) - 1=(s:Int):=by omega
      have e8:(c:Int) - 1=(d:Int):=by omega
      have hs100:s < 100:=by omega
      have hd40:d < 40:=by omega
      have hkj:k+j≤103:=by omega
      have HBP:=hid hbp
      clear hs hd hp hbp htk
      rcases Nat.lt_or_ge m c with hmc | hmc
      all_goals rcases Nat.lt_or_ge ln l0 with hll | hll
      all_goals
       go_wp2_with (first
        | (at_builtin;have HB9:=HA9;refine wpList_append_lies _ rfl _ _ 35 rfl w.heap.size 3 i3 (.int .i64 0) 1 8 Tryz.underlying35 hi3 hy0 hy1 hy2 rfl (by decide) _ _ _ rfl (HA10.out.alloc _) ⟨w5.heap.size,0,none⟩ 1 1 [natV d] rfl rfl (cell_one_new _ _ _) (fun x hx=>by simp at hx;subst hx;rfl) (by omega) (by unfold maxLen;omega) (by omega) (by simp;omega) (w5.heap.size+1) (by simp) ?_;intro gB capB w6 hownB hgrowB hatB hltB;have hB6:=below_row hB5 HA10.out hgrowB;have c06:=(HC.out w6 (k+j) _ hB6 HBP.out).1)
        | (at_builtin;refine wpList_append_lies _ rfl _ _ 35 rfl w.heap.size 3 i3 (.int .i64 0) 1 8 Tryz.underlying35 hi3 hy0 hy1 hy2 rfl (by decide) _ _ _ rfl (HW.out.r1.alloc _) ⟨wr.heap.size,0,none⟩ 1 1 [natV s] rfl rfl (cell_one_new _ _ _) (fun x hx=>by simp at hx;subst hx;rfl) (by omega) (by unfold maxLen;omega) (by omega) (by simp;omega) (wr.heap.size+1) (by simp) ?_;intro gA capA w5 hownA hgrowA hatA hltA;have HA9:=hid hownA;have HA10:=hid (ownsRow_turned HW.out.r2 ((Turned.ofAlloc wr _).trans (Turned.ofGrown hgrowA (fun j hj _=>hj))) (fun g hg e=>HAp.out g e hg));have hB5:=below_row HB2.out HW.out.r1 hgrowA;have hsz5:=hB5.size;have c15:=(HC.out w5 (k+j) _ hB5 HBP.out).2.1))
       go_roundw
       case rel =>
        have hu14:u14.ownBlock≠some gA:=fun e=>by
         rcases hatA with h | h
         ·exact HAp.out gA h e
         ·have:=(HW.out.r2.lt gA e).2
          omega
        have T6:Turned (fun j=>u14.ownBlock=some j) w5 w6:=(Turned.ofAlloc w5 _).trans (Turned.ofGrown hgrowB (fun j hj _=>hj))
        refine ⟨j+1,by go_num,by rw [HX1.out];go_num,?_,?_,by omega,hB6,?_,?_⟩
        ·rw [HX2.out];exact congrArg (Value.int .i64) (by omega)
        ·rw [HX3.out];exact congrArg (Value.int .i64) (by omega)
        ·rw [HX4.out,HX5.out]
         refine hid ⟨?_,?_⟩
         ·have:=ownsRow_turned HA9.out T6 (fun j hj e=>hu14 (by rw [e];simp [Value.ownBlock] at hj;rw [hj]))
          simpa [hxl] using this
         ·simpa [hyl] using hownB
        ·refine hid (fun j hj e=>?_)
         have e1:gA=j:=by simpa [Value.ownBlock] using hj
         have e2:gB=j:=by simpa [Value.ownBlock] using e
         subst e1
         rcases hatB with h | h
         ·rw [e2] at h;exact hu14 h
         ·omega
       case measure=>simp [intOf];omega
     ·have hjli:¬ ((k:Int)+(j:Int) < (b.length:Int)):=by omega
      obtain ⟨n4,hn4⟩:∃ n4,q4.length=n4+1:=⟨q4.length - 1,by omega⟩
      obtain rfl:j=n4+1:=by omega
      have hq44:q4.take (n4+1)=q4:=List.take_of_length_le (by omega)
      rw [hq44] at HW ⊢
      obtain ⟨p,hp⟩:∃ p,q4[n4]?=some p:=⟨_,List.getElem?_eq_getElem (by omega)⟩
      have hlast:lastO q4=p.1:=by
       have h3:q4=q4.take n4++[p]:=by
        have:q4.take (n4+1)=q4.take n4++[p]:=by rw [List.take_add_one,hp];rfl
        rw [← this];exact hq44.symm
       rw [h3,lastO_snoc]
      have hbp:=HG.out n4 p hp
      have c0:=(HC.out wr (k+n4) p HB2.out hbp).1
      have hpl:=(LV_at HVq.out hp).2.1
      have hm40:=mxC_le40 HVq.out
      have hn40:=mnL_le lens q4
      have hxl:(stp nx q4).length=n4+1:=by rw [stp_len,hn4]
      have hyl:(rep q4).length=n4+1:=by rw [rep_len,hn4]
      have hxs:=stp_lt HVq.out hl
      have hys:=rep_lt HVq.out
      have HBK:Hid (encBlk lens nx q4=vi p.1++vi (mxC q4)++vi (mnL lens q4)++pairB (stp nx q4) (rep q4)):=show _=_ by
       unfold encBlk body
       rw [hlast,if_neg (by omega)]
      have HX1:Hid (nxt nx q4=p.1+1):=show _=_ by rw [HN.out,hlast]
      rw [hlast] at HEb
      have e9:(b.length:Int) - 1=(k:Int)+(n4:Int):=by omega
      have e10:(((b.length:Int) - (k:Int)) == 4)=false:=beq_eq_false_iff_ne.2 (by omega)
      have hbl:b.length=k+n4+1:=by omega
      have HBL:=hid hbl
      have hn43:n4 < 3:=by omega
      have HXS:=hid hxs
      have HYS:=hid hys
      generalize stp nx q4=xs at *
      generalize rep q4=ys at *
      generalize mxC q4=m at *
      generalize mnL lens q4=l0 at *
      obtain ⟨o,c⟩:=p
      simp only at hpl HBK HX1 c0 HEb
      clear hlast hbp hp hxs hys hq44 hbl
      have hv1:=vi_le o
      have hv2:=vi_le m
      have hv3:=vi_le l0
      go_wp2_with (first
       | (go_at_call 109;refine (CV.out _ _ (by omega) (by omega)).mono ?_;rintro e w7 ⟨rfl,hb7⟩;replace HW:=hid (HW.out.below hb7);replace HB2:=hid (HB2.out.trans (hb7.mono HB2.out.size));clear hb7))
      obtain ⟨g13,cap13,rfl⟩:=row_at HW.out.r1 (by omega)
      obtain ⟨g14,cap14,rfl⟩:=row_at HW.out.r2 (by omega)
      have HXL:=hid hxl
      have HYL:=hid hyl
      clear hxl hyl
      go_loopw [7,18] (fun s7 s18 wi=>∃ (t:Nat) (J3:Bs),s18=.int .i64 (t:Int)∧s7=lstV J3∧t≤n4+1∧J3.length≤100 * k+6+4 * t∧Hid (Below w.heap.size w wi)∧Hid (Two wi w.heap.size (.slice (some ⟨g13,0,none⟩) xs.length cap13) (.slice (some ⟨g14,0,none⟩) ys.length cap14) xs ys)∧Hid (J++(vi o++vi m++vi l0++pairB (xs.take t) (ys.take t))=J3)) (fun _ s18 _=>n4+1 - (intOf s18).toNat)
      case atStart=>exact ⟨0,J++(vi o++vi m++vi l0),rfl,congrArg Value.string (by apply ByteArray.ext;simp),by omega,by simp;omega,HB2,HW,hid (by simp [pairB])⟩
      case round =>
       obtain ⟨t,J3,rfl,rfl,ht,hJ3,HB3,HW3,HP⟩:=hrel
       by_cases htl:t < n4+1
       ·have htli:(t:Int) < (xs.length:Int):=by have:=HXL.out;omega
        obtain ⟨x,hx⟩:∃ x,xs[t]?=some x:=⟨_,List.getElem?_eq_getElem (by have:=HXL.out;omega)⟩
        obtain ⟨y,hy⟩:∃ y,ys[t]?=some y:=⟨_,List.getElem?_eq_getElem (by have:=HYL.out;omega)⟩
        have hcx:=row_cell HW3.out.r1 hx
        have hcy:=row_cell HW3.out.r2 hy
        have hxb:=HXS.out x (List.mem_of_getElem? hx)
        have hyb:=HYS.out y (List.mem_of_getElem? hy)
        have HPT:=hid (pairB_take (by rw [HXL.out,HYL.out]) hx hy)
        have htyi:(t:Int) < (ys.length:Int):=by have:=HYL.out;omega
        have hvx:=vi_le x
        have hvy:=vi_le y
        have HX:=hid hx
        have HY:=hid hy
        clear hx hy
        have hS1:¬ (9223372036854775807 < J3.length+(vi x).length):=by omega
        have hS2:¬ (9223372036854775807 < J3.length+(vi x).length+(vi y).length):=by omega
        go_wp2_with (fail)
        go_region_held3 (fun w'=>w'.cell? ⟨g13,t,none⟩=some (.int .i64 (x:Int))∧w'.cell? ⟨g14,t,none⟩=some (.int .i64 (y:Int))) (go_keep)
         (first
           | (go_at_call 109;have _h:=HW7;refine (CV.out _ _ (by omega) (by omega)).mono ?_;rintro e w8 ⟨rfl,hb8⟩;have HW8:=hid (HW7.out.below hb8);have HB8:=hid (HB7.out.trans (hb8.mono HB7.out.size));have hcx8:=row_cell HW8.out.r1 HX.out;have hcy8:=row_cell HW8.out.r2 HY.out;clear hb8)
           | (go_at_call 109;refine (CV.out _ _ (by omega) (by omega)).mono ?_;rintro e w7 ⟨rfl,hb7⟩;have HW7:=hid (HW3.out.drew.below hb7);have HB7:=hid ((below_drew HB3.out).trans (hb7.mono HB3.out.size));have hcx7:=row_cell HW7.out.r1 HX.out;have hcy7:=row_cell HW7.out.r2 HY.out;clear hb7))
        go_wp2
        go_roundw
        case rel =>
         refine ⟨t+1,J3++(vi x++vi y),by go_num,congrArg Value.string (by apply ByteArray.ext;simp),by omega,by simp;omega,HB8,HW8,?_⟩
         show _=_
         rw [HPT.out,← HP.out];simp
        case measure=>simp [intOf];omega
       ·have htli:¬ ((t:Int) < (xs.length:Int)):=by have:=HXL.out;omega
        go_wp2
        go_roundw
        case rel =>
         refine ⟨k+4,o+1,J3,by go_num,by rw [HX1.out],rfl,by have:=HBL.out;omega,by omega,by omega,HB3,?_,?_⟩
         ·show _=_
          rw [← HEb.out,HBK.out,← HP.out,List.take_of_length_le (by have:=HXL.out;omega),List.take_of_length_le (by have:=HYL.out;omega)];simp
         ·show LV _ _ _
          rw [← HX1.out];exact HVd.out
        case measure=>simp [intOf];omega
  ·have hlti:¬ ((k:Int) < (b.length:Int)):=by omega
   have HF:Hid (R=J):=show _=_ by rw [← HE.out,encPls_end (by omega)];simp
   go_wp2
   go_ret
   rw [HF.out]
   exact ⟨rfl,HB.out⟩
end Go.Proofs.YtaacjjhmojecnaaGreatDoor
