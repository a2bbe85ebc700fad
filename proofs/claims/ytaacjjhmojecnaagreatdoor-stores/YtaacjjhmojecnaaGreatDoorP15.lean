import Derived.Test.YtaacjjhmojecnaaGreatDoorP12
import Derived.Test.YtaacjjhmojecnaaGreatDoorRefSeg
namespace Go.ScT
theorem rByte_256 (st:RSt):(rByte st).1 < 256:=by
 unfold rByte;split
 ·rename_i b t;exact b.toNat_lt
 ·simp
theorem rText_len (st:RSt):(rText st).1.length≤255:=by
 unfold rText
 have:=rByte_256 st
 split
 ·simp
 ·simp only [List.length_take];omega
theorem small_addT {l:List DocR} {i n:Nat} {t:Bs} (h:Small l) (hn:toksL l i+n≤40) (ht:t.length≤255):Small (addT l i n t):=by
 intro d hd
 obtain ⟨j,hj⟩:=List.mem_iff_getElem?.1 hd
 rw [addT,List.getElem?_modify] at hj
 by_cases hij:i=j
 ·subst hij
  cases he:l[i]? with
  | none=>rw [he] at hj;simp at hj
  | some e =>
    rw [he] at hj
    simp at hj
    subst hj
    obtain ⟨h1,h2,h3,h4⟩:=h e (List.mem_of_getElem? he)
    have htl:toksL l i=e.2.2.length:=by simp [toksL,he]
    refine ⟨h1,h2,by simp;omega,?_⟩
    intro x hx
    simp only [List.mem_append,List.mem_replicate] at hx
    rcases hx with hx | ⟨_,rfl⟩
    ·exact h4 x hx
    ·exact ht
 ·simp only [if_neg hij] at hj
  exact h d (List.mem_of_getElem? (by simpa using hj))
theorem small_rPut {t:Bs} (ht:t.length≤255):∀ {ss qq:List Nat} {next:Nat} {l:List DocR},Small l→Small (rPut t ss qq next l).2.2
 | [],_,_,_,h=>h
 | _ :: _,[],_,_,h=>h
 | s :: ss,q :: qq,next,l,h=>by
   simp only [rPut]
   split
   ·exact h
   ·rename_i hc
    have hq:¬ 40≤toksL l (next+s)+q:=fun e=>hc (Or.inr e)
    exact small_rPut ht (small_addT h (by omega) ht)
theorem small_rBlks {t:Bs} (ht:t.length≤255):∀ {f left next:Nat} {l:List DocR} {st:RSt},Small l→Small (rBlks t f left next l st).1
 | 0,_,_,_,_,h=>h
 | f+1,left,next,l,st,h=>by
   simp only [rBlks]
   split
   ·exact h
   ·split
    ·exact h
    ·split
     ·exact h
     ·split
      ·exact small_rPut ht h
      ·exact small_rBlks ht (small_rPut ht h)
theorem small_rTok {l:List DocR} {st:RSt} (h:Small l):Small (rTok l st).1:=small_rBlks (rText_len st) h
theorem small_rLists:∀ {k:Nat} {l:List DocR} {st:RSt},Small l→Small (rLists k l st).1
 | 0,_,_,h=>h
 | k+1,l,st,h=>by
   simp only [rLists]
   split
   ·exact h
   ·exact small_rLists (small_rTok h)
theorem small_rDocs:∀ {k num:Nat} {st:RSt},num+2097152 * k≤1000000000→Small (rDocs k num st).1
 | 0,_,_,_=>by intro d hd;simp [rDocs] at hd
 | k+1,num,st,h=>by
   simp only [rDocs]
   split
   ·intro d hd;simp at hd
   ·have hv:=rVar_lt 100 st
    intro d hd
    rcases List.mem_cons.1 hd with rfl | hd
    ·exact ⟨rText_len _,by simp only;omega,by simp,by simp⟩
    ·exact small_rDocs (by omega) d hd
theorem small_rRead {s:Bs} {l:List DocR} (h:rRead s=some l):Small l:=by
 unfold rRead at h
 split at h
 ·cases h
 ·split at h
  ·cases h
  ·simp only at h
   split at h
   ·cases h
   ·simp only [Option.some.injEq] at h
    subst h
    refine small_rLists ?_
    cases hb:(rVar 100 (rByte (rByte (s,false)).2).2).2.2 with
    | true=>rw [rDocs_bad hb];intro d hd;simp at hd
    | false=>exact small_rDocs (by have:=rVar_good hb;omega)
end Go.ScT
namespace Go.ScT
def rOpen (s:Bs):Bs × Nat:=if 60000 < s.length then ([],2) else match pRead s with
 | some c=>(listing c,0)
 | none=>([],8)
theorem pRead_no_read {s:Bs} (h:rRead s=none):pRead s=none:=by
 cases hp:pRead s with
 | none=>rfl
 | some c =>
   obtain ⟨rfl,hv⟩:=pRead_iff.1 hp
   rw [rRead_ok hv] at h
   cases h
theorem pRead_docs {s:Bs} {l:List DocR} (h:rRead s=some l) {c:Cont} (hp:pRead s=some c):l=docsOf c∧VC c∧s=wrt c:=by
 obtain ⟨rfl,hv⟩:=pRead_iff.1 hp
 rw [rRead_ok hv] at h
 exact ⟨(Option.some.inj h).symm,hv,rfl⟩
theorem pRead_no_could {s:Bs} {l:List DocR} (h:rRead s=some l) (hc:¬ Could l):pRead s=none:=by
 cases hp:pRead s with
 | none=>rfl
 | some c =>
   obtain ⟨rfl,hv,_⟩:=pRead_docs h hp
   exact absurd (could_docsOf hv) hc
theorem pRead_no_same {s:Bs} {l:List DocR} (h:rRead s=some l) (hc:wrt (cont l)≠s):pRead s=none:=by
 cases hp:pRead s with
 | none=>rfl
 | some c =>
   obtain ⟨rfl,hv,he⟩:=pRead_docs h hp
   rw [cont_docsOf hv] at hc
   exact absurd he.symm hc
theorem pRead_same {s:Bs} {l:List DocR} (hc:Could l) (h:wrt (cont l)=s):pRead s=some (cont l):=pRead_iff.2 ⟨h.symm,vc_cont hc⟩
end Go.ScT
namespace Go.Proofs.YtaacjjhmojecnaaGreatDoor
open Go.RowKit Go.ScT Go.Proofs
set_option maxRecDepth 100000 in
theorem could_nil (w:World) (ao:Option Addr) (cap:Nat):Calls Tryz.prog 59 #[.slice ao 0 cap] w fun e w'=>e=.returned (.bool false)∧w'=w:=by
 go_enter Tryz.func59,Tryz.ntmps59
 go_wp2
 go_ret
 exact ⟨rfl,rfl⟩
set_option maxHeartbeats 1000000 in
set_option maxRecDepth 1000000 in
theorem openL_any (w:World) (S:Bs) (hs:S.length≤maxLen) :
 Calls Tryz.prog 35 #[lstV S] w fun e w'=>e=.returned (.tuple #[lstV (rOpen S).1,.int .i64 ((rOpen S).2:Int)])∧Below w.heap.size w w':=by
 unfold maxLen at hs
 by_cases h6:60000 < S.length
 ·have h6i:(60000:Int) < (S.length:Int):=by omega
  have HE:Hid (rOpen S=([],2)):=show _=_ by unfold rOpen;rw [if_pos h6]
  go_enter Tryz.func35,Tryz.ntmps35
  go_wp2
  go_ret2
  rw [HE.out]
  exact ⟨rfl,Below.refl _ _⟩
 ·have h6i:¬ ((60000:Int) < (S.length:Int)):=by omega
  have HE:Hid (rOpen S=match pRead S with | some c=>(listing c,0) | none=>([],8)):=show _=_ by unfold rOpen;rw [if_neg h6]
  have CR:=hid (fun w'=>read_any w' ⟨S.toArray⟩ (by simp [ByteArray.size];omega))
  go_enter Tryz.func35,Tryz.ntmps35
  go_wp2_with (fail)
  refine (CR.out _).mono ?_
  rintro e w1 ⟨v,tv,l,ok,rfl,hr,hD,hl,h40,hb⟩
  have HD:=hid hD
  have HB:=hid hb
  have HR:=hid hr
  obtain ⟨g,cap,ao,hve,_,hao⟩:=ownsRow_shape hD.row
  subst hve
  clear hD hb hr
  cases ok with
  | false =>
    have HF:Hid (rOpen S=([],8)):=show _=_ by rw [HE.out,pRead_no_read HR.out]
    go_wp2
    go_ret2
    rw [HF.out]
    exact ⟨rfl,HB.out⟩
  | true =>
    have hR:rRead S=some l:=HR.out
    have hsm:=small_rRead hR
    have HRR:=hid hR
    clear hR HR
    by_cases hl0:1≤l.length
    ·obtain rfl:=hao (by omega)
     have CC:=hid (could_any w1 (w.heap.size+1) g cap l.length l tv HD.out rfl hl0 hl hsm)
     go_wp2_with (fail)
     refine CC.out.mono ?_
     rintro e w2 ⟨v2,rfl,⟨c,rfl,hc⟩,hb2⟩
     have HD2:=hid (HD.out.below hb2)
     have HB2:=hid (HB.out.trans (hb2.mono HB.out.size))
     have HC:=hid hc
     clear hc hb2 HD HB
     cases c with
     | false =>
       have HF:Hid (rOpen S=([],8)):=show _=_ by rw [HE.out,pRead_no_could HRR.out (fun h=>by have:=HC.out.2 h;cases this)]
       go_wp2
       go_ret2
       rw [HF.out]
       exact ⟨rfl,HB2.out⟩
     | true =>
       have hcl:Could l:=HC.out.1 rfl
       have CS:=hid (fun w' (h:DocsAt w' (w.heap.size+1) (.slice (some ⟨g,0,none⟩) l.length cap) l tv)=>segmentR_any w' (w.heap.size+1) g cap l.length l tv h rfl hcl)
       have CT:=hid (fun w' (h:DocsAt w' (w.heap.size+1) (.slice (some ⟨g,0,none⟩) l.length cap) l tv)=>tellR_any w' (w.heap.size+1) g cap l.length l tv h rfl hl hsm)
       go_wp2_with (fail)
       refine (CS.out _ HD2.out).mono ?_
       rintro e w3 ⟨rfl,hb3⟩
       have HD3:=hid (HD2.out.below hb3)
       have HB3:=hid (HB2.out.trans (hb3.mono HB2.out.size))
       have HCL:=hid hcl
       clear hb3 HD2 HB2 hcl
       by_cases hw:wrt (cont l)=S
       ·have HF:Hid (rOpen S=(listing (cont l),0)):=show _=_ by rw [HE.out,pRead_same HCL.out hw]
        rw [hw]
        clear hw
        go_wp2_with (fail)
        refine (CT.out _ HD3.out).mono ?_
        rintro e w4 ⟨rfl,hb4⟩
        go_wp2
        go_ret2
        rw [HF.out]
        exact ⟨rfl,HB3.out.trans (hb4.mono HB3.out.size)⟩
       ·have HF:Hid (rOpen S=([],8)):=show _=_ by rw [HE.out,pRead_no_same HRR.out hw]
        have hne:(wrt (cont l) == S)=false:=beq_eq_false_iff_ne.2 hw
        go_wp2
        go_ret2
        rw [HF.out]
        exact ⟨rfl,HB3.out⟩
    ·obtain rfl:l=[]:=List.length_eq_zero_iff.1 (by omega)
     have HF:Hid (rOpen S=([],8)):=show _=_ by rw [HE.out,pRead_no_could HRR.out (fun h=>by have:=h.some_;simp at this)]
     have CC:=hid (could_nil w1 ao cap)
     go_wp2_with (fail)
     refine CC.out.mono ?_
     rintro e w2 ⟨rfl,rfl⟩
     go_wp2
     go_ret2
     rw [HF.out]
     exact ⟨rfl,HB.out⟩
end Go.Proofs.YtaacjjhmojecnaaGreatDoor
