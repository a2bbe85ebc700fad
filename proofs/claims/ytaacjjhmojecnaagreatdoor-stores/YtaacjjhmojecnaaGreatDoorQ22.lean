import Derived.Test.YtaacjjhmojecnaaGreatDoorQ21
import Derived.Deep.RegionHeld3
namespace Go.Proofs.YtaacjjhmojecnaaGreatDoor
open Go.RowKit Go.ScT Go.Proofs
def BodyEnds (w w':World) (b:Nat) (A:Nat→Addr) (s:ByteArray) (D L:Value) (e:Ending) (R:Option ((List Nat × List Nat) × Bs)):Prop :=
 ((∃ ss rr t v u,R=some ((ss,rr),t)∧e=.returned (.tuple #[v,u,.nilIface])∧PAt w' b s t D L∧TwoRows w' w.heap.size v u ss rr)∨(R=none∧∃ ev,e=.returned (.tuple #[.slice none 0 0,.slice none 0 0,ev])∧Chain w' A 0 ev))∧Turned (fun i=>i=b) w w'
set_option maxHeartbeats 1000000 in
set_option maxRecDepth 1000000 in
theorem readBody_few {w:World} {b base n:Nat} {A:Nat→Addr} {s:ByteArray} {r:Bs} {D L:Value} (h:PAt w b s r D L) (hS:Sent w A base) (hb:base≤b) (hs:s.size≤60000) (hn:n < 4) :
 Calls Tryz.prog 314 #[.pointer (some ⟨b,0,none⟩),.int .i64 (n:Int)] w fun e w'=>BodyEnds w w' b A s D L e (pBody n r):=by
 have C:Hid (Calls Tryz.prog 317 #[.pointer (some ⟨b,0,none⟩),.int .i64 (n:Int)] w fun e w'=>BodyEnds w w' b A s D L e (pPairs n r)):=readPairs_any h hS hb hs (by omega)
 have HE:Hid (pBody n r=pPairs n r):=show _=_ by unfold pBody;rw [if_pos hn]
 have hni:(n:Int) < 4:=by omega
 clear h hS
 go_enter Tryz.func314,Tryz.ntmps314
 go_wp2_with (fail)
 refine C.out.mono ?_
 rintro e w1 ⟨⟨ss,rr,t,v,u,h1,rfl,h2,h3⟩ | ⟨h1,ev,rfl,h2⟩,hT⟩
 ·have H1:=hid h1
  have H2:=hid h2
  have H3:=hid h3
  clear h1 h2 h3
  go_wp2
  go_ret3
  exact ⟨Or.inl ⟨ss,rr,t,_,_,by rw [HE.out,H1.out],rfl,H2.out,H3.out⟩,hT⟩
 ·have H1:=hid h1
  have HC:=hid h2
  obtain ⟨u,x,rfl⟩:=h2.iface
  clear h1 h2
  go_wp2
  go_ret3
  exact ⟨Or.inr ⟨by rw [HE.out,H1.out],_,rfl,HC.out⟩,hT⟩
theorem pWid_le {r t:Bs} {n:Nat} (h:pWid r=some (n,t)):n≤8:=by
 unfold pWid at h
 obtain ⟨x,_,h⟩:=Option.bind_eq_some_iff.1 h
 split at h
 ·cases h;assumption
 ·cases h
set_option maxHeartbeats 1000000 in
set_option maxRecDepth 1000000 in
theorem readBody_four {w:World} {b base:Nat} {A:Nat→Addr} {s:ByteArray} {r:Bs} {D L:Value} (h:PAt w b s r D L) (hS:Sent w A base) (hb:base≤b) (hs:s.size≤60000) :
 Calls Tryz.prog 314 #[.pointer (some ⟨b,0,none⟩),.int .i64 4] w fun e w'=>BodyEnds w w' b A s D L e (pBody 4 r):=by
 have hbl:=h.lt
 obtain ⟨R,hR⟩:∃ R,R=pBody 4 r:=⟨_,rfl⟩
 rw [← hR]
 have HR:Hid (R=(pWid r).bind fun a=>(pWid a.2).bind fun b=>(pPack a.1 b.2).bind fun x=>(pPack b.1 x.2).bind fun y=>some ((x.1,y.1),y.2)):=show _=_ by rw [hR];rfl
 clear hR
 have HS:=hid hS
 cases h1:pWid r with
 | none =>
   rw [h1] at HR
   have C1:=hid (width_no h hS hb hs h1)
   clear h1 h hS
   go_enter Tryz.func314,Tryz.ntmps314
   go_wp2_with (fail)
   refine C1.out.mono ?_
   rintro e w1 ⟨ev,rfl,hC,hT1⟩
   have HC:=hid hC
   obtain ⟨u,x,rfl⟩:=hC.iface
   clear hC
   go_wp2
   go_ret3
   exact ⟨Or.inr ⟨HR.out,_,rfl,HC.out⟩,hT1⟩
 | some p1 =>
   obtain ⟨a,t1⟩:=p1
   rw [h1] at HR
   simp only [Option.bind_some] at HR
   have ha:=pWid_le h1
   have C1:=hid (width_ok h hs h1)
   clear h1 h hS
   go_enter Tryz.func314,Tryz.ntmps314
   go_wp2_with (fail)
   refine C1.out.mono ?_
   rintro e w1 ⟨rfl,hP1,hT1⟩
   have HP1:=hid hP1
   have HT1:=hid hT1
   have HS1:=hid (HS.out.turned hT1 (fun i hi e=>by omega))
   clear C1 hP1 hT1
   cases h2:pWid t1 with
   | none =>
     rw [h2] at HR
     have C2:=hid (width_no HP1.out HS1.out hb hs h2)
     clear h2
     go_wp2_with (fail)
     refine C2.out.mono ?_
     rintro e w2 ⟨ev,rfl,hC,hT2⟩
     have HC:=hid hC
     obtain ⟨u,x,rfl⟩:=hC.iface
     clear hC
     go_wp2
     go_ret3
     exact ⟨Or.inr ⟨HR.out,_,rfl,HC.out⟩,HT1.out.trans hT2⟩
   | some p2 =>
     obtain ⟨c,t2⟩:=p2
     rw [h2] at HR
     simp only [Option.bind_some] at HR
     have hc:=pWid_le h2
     have C2:=hid (width_ok HP1.out hs h2)
     clear h2
     go_wp2_with (fail)
     refine C2.out.mono ?_
     rintro e w2 ⟨rfl,hP2,hT2⟩
     have HP2:=hid hP2
     have HT2:=hid (HT1.out.trans hT2)
     have HS2:=hid (HS1.out.turned hT2 (fun i hi e=>by omega))
     clear C2 hP2 hT2
     cases h3:pPack a t2 with
     | none =>
       rw [h3] at HR
       have C3:=hid (packed_no HP2.out HS2.out hb hs ha h3)
       clear h3
       go_wp2_with (fail)
       refine C3.out.mono ?_
       rintro e w3 ⟨ev,rfl,hC,hT3⟩
       have HC:=hid hC
       obtain ⟨u,x,rfl⟩:=hC.iface
       clear hC
       go_wp2
       go_ret3
       exact ⟨Or.inr ⟨HR.out,_,rfl,HC.out⟩,HT2.out.trans hT3⟩
     | some p3 =>
       obtain ⟨l1,t3⟩:=p3
       rw [h3] at HR
       simp only [Option.bind_some] at HR
       have C3:=hid (packed_ok HP2.out hs ha h3)
       clear h3
       go_wp2_with (fail)
       refine C3.out.mono ?_
       rintro e w3 ⟨g1,cap1,rfl,hO1,hP3,hT3⟩
       have HP3:=hid hP3
       have HT3:=hid (HT2.out.trans hT3)
       have HO1:=hid hO1
       have HS3:=hid (HS2.out.turned hT3 (fun i hi e=>by omega))
       have hsz2:=HT2.out.size
       have hsz3:=hT3.size
       clear C3 hP3 hT3 hO1
       cases h4:pPack c t3 with
       | none =>
         rw [h4] at HR
         have C4:=hid (packed_no HP3.out HS3.out hb hs hc h4)
         clear h4
         go_wp2_with (fail)
         refine C4.out.mono ?_
         rintro e w4 ⟨ev,rfl,hC,hT4⟩
         have HC:=hid hC
         obtain ⟨u,x,rfl⟩:=hC.iface
         clear hC
         go_wp2
         go_ret3
         exact ⟨Or.inr ⟨HR.out,_,rfl,HC.out⟩,HT3.out.trans hT4⟩
       | some p4 =>
         obtain ⟨l2,t4⟩:=p4
         rw [h4] at HR
         simp only [Option.bind_some] at HR
         have C4:=hid (packed_ok HP3.out hs hc h4)
         clear h4
         go_wp2_with (fail)
         refine C4.out.mono ?_
         rintro e w4 ⟨g2,cap2,rfl,hO2,hP4,hT4⟩
         have HP4:=hid hP4
         have HT4:=hid hT4
         have HO2:=hid hO2
         clear C4 hP4 hT4 hO2
         go_wp2
         go_ret3
         refine ⟨Or.inl ⟨l1,l2,t4,_,_,HR.out,rfl,HP4.out,?_⟩,HT3.out.trans HT4.out⟩
         have e1:l1.length=4:=by have:=HO1.out.1;simpa using this
         have e2:l2.length=4:=by have:=HO2.out.1;simpa using this
         refine ⟨?_,?_,?_⟩
         ·rw [e1]
          exact (ownsRow_turned HO1.out HT4.out (fun g hg e=>by have:=(HO1.out.lt g hg).1;omega)).mono hsz2
         ·rw [e2]
          exact HO2.out.mono (by omega)
         ·intro g h1 h2
          have:=(HO1.out.lt g h1).2
          have:=(HO2.out.lt g h2).1
          omega
theorem readBody_any {w:World} {b base n:Nat} {A:Nat→Addr} {s:ByteArray} {r:Bs} {D L:Value} (h:PAt w b s r D L) (hS:Sent w A base) (hb:base≤b) (hs:s.size≤60000) (hn:n≤4) :
 Calls Tryz.prog 314 #[.pointer (some ⟨b,0,none⟩),.int .i64 (n:Int)] w fun e w'=>BodyEnds w w' b A s D L e (pBody n r):=by
 by_cases h4:n < 4
 ·exact readBody_few h hS hb hs h4
 ·obtain rfl:n=4:=by omega
  exact readBody_four h hS hb hs
def plC:Pls→List Value
 | []=>[]
 | p :: r=>natV p.1 :: natV p.2 :: plC r
theorem plC_len:∀ ps:Pls,(plC ps).length=ps.length * 2
 | []=>rfl
 | p :: r=>by simp only [plC,List.length_cons,plC_len r];omega
theorem plC_app:∀ (ps qs:Pls),plC (ps++qs)=plC ps++plC qs
 | [],_=>rfl
 | e :: r,q=>by simp [plC,plC_app r q]
theorem plC_get:∀ {ps:Pls} {i:Nat} {p:Nat × Nat},ps[i]?=some p→(plC ps)[i * 2]?=some (natV p.1)∧(plC ps)[i * 2+1]?=some (natV p.2)
 | e :: r,0,p,h=>by simp at h;subst h;simp [plC]
 | e :: r,i+1,p,h=>by
   simp only [List.getElem?_cons_succ] at h
   have:=plC_get h
   rw [show (i+1) * 2=i * 2+2 by omega]
   simpa [plC] using this
abbrev PRow (w:World) (base:Nat) (v:Value) (ps:Pls):Prop:=w.ownsRow base 169 2 v ps.length (plC ps)
theorem Chain.turnT {w w':World} {A:Nat→Addr} {n g t:Nat} {v:Value} {c:Array Value} (h:Chain w A n v) (ht:Turned (fun i=>i=g) w w') (hg:w.heap[g]?=some (.cells c t (0,0))) (h1:253≠t) (h2:158≠t):Chain w' A n v:=by
 induction n generalizing v with
 | zero =>
   obtain ⟨_, _, _, h, hk, h0, rfl⟩ := h
   exact .at_ ((ht.block _ (lt_of_block h) (fun e=>tag_ne h hg h1 e)).trans h) hk h0
 | succ n ih =>
   obtain ⟨_, _, _, h, hu, rfl⟩ := h
   exact .in_ ((ht.block _ (lt_of_block h) (fun e=>tag_ne h hg h2 e)).trans h) (ih hu)
theorem Turned.drw {Z:Nat→Prop} (w:World):Turned Z w w.drew:=⟨rfl,rfl,rfl,Nat.le_refl _,fun _ _ _=>rfl⟩
theorem PAt.c2 {w:World} {b:Nat} {s:ByteArray} {r:Bs} {D L:Value} (h:PAt w b s r D L):w.cell? ⟨b,2,none⟩=some D:=by
 obtain ⟨at_,h',_⟩:=h
 exact (cell_par h').2.2.1
def NumEnds (w w':World) (b:Nat) (A:Nat→Addr) (s:ByteArray) (D L:Value) (e:Ending) (R:Option (Nat × Bs)):Prop :=
 ((∃ n t,R=some (n,t)∧e=.returned (.tuple #[.int .i64 (n:Int),.nilIface])∧PAt w' b s t D L)∨(R=none∧∃ ev,e=.returned (.tuple #[.int .i64 0,ev])∧Chain w' A 0 ev))∧Turned (fun i=>i=b) w w'
theorem number_any {w:World} {b base:Nat} {A:Nat→Addr} {s:ByteArray} {r:Bs} {D L:Value} {lo hi:Nat} (z1 z2:Int) (e1:(lo:Int)=z1) (e2:(hi:Int)=z2) (h:PAt w b s r D L) (hS:Sent w A base) (hb:base≤b) (hs:s.size≤60000) :
 Calls Tryz.prog 166 #[.pointer (some ⟨b,0,none⟩),.int .i64 z1,.int .i64 z2] w fun e w'=>NumEnds w w' b A s D L e (pNum lo hi r):=by
 cases h1:pNum lo hi r with
 | none=>exact (number_noz z1 z2 e1 e2 h hS hb hs h1).mono fun e w' ⟨ev,h1,h2,h3⟩=>⟨Or.inr ⟨rfl,ev,h1,h2⟩,h3⟩
 | some y=>exact (number_okz z1 z2 e1 e2 h hs h1).mono fun e w' ⟨h1,h2,h3⟩=>⟨Or.inl ⟨_,_,rfl,h1,h2⟩,h3⟩
def HeadEnds (w w':World) (b:Nat) (A:Nat→Addr) (s:ByteArray) (D L:Value) (e:Ending) (R:Option ((Nat × Nat × Nat) × Bs)):Prop :=
 ((∃ x y z t,R=some ((x,y,z),t)∧e=.returned (.tuple #[.agg #[natV x,natV y,natV z],.nilIface])∧PAt w' b s t D L)∨(R=none∧∃ ev,e=.returned (.tuple #[.agg #[.int .i64 0,.int .i64 0,.int .i64 0],ev])∧Chain w' A 0 ev))∧Turned (fun i=>i=b) w w'
abbrev hd0:Obj:=.cells #[.int .i64 0,.int .i64 0,.int .i64 0] 295
set_option maxHeartbeats 1000000 in
set_option maxRecDepth 1000000 in
theorem readHead_any {w:World} {b base n cD:Nat} {ao:Option Addr} {A:Nat→Addr} {s:ByteArray} {r:Bs} {L:Value} (h:PAt w b s r (.slice ao n cD) L) (hS:Sent w A base) (hb:base≤b) (hs:s.size≤60000) (hn1:1≤n) (hn:n≤1000) :
 Calls Tryz.prog 303 #[.pointer (some ⟨b,0,none⟩)] w fun e w'=>HeadEnds w w' b A s (.slice ao n cD) L e (pHead n r):=by
 have hbl:=h.lt
 obtain ⟨D,hD⟩:∃ D,D=Value.slice ao n cD:=⟨_,rfl⟩
 have HT0:=hid (Turned.ofAlloc (Z:=fun i=>i=b) w hd0)
 have HP0:=hid (h.turned (Turned.ofAlloc (Z:=fun _=>False) w hd0) (fun e=>e))
 have HS0:=hid (hS.below ((Below.refl w.heap.size w).alloc (Nat.le_refl _) hd0))
 have HN:=hid (heap_alloc_new w hd0)
 have c2:(w.alloc hd0).cell? ⟨b,2,none⟩=some (.slice ao n cD):=HP0.out.c2
 have hzz:IntKind.i64.wrap ((n:Int) - 1)=((n - 1:Nat):Int):=by rw [IntKind.wrap_i64];omega
 have HD0:Hid (Turned (fun i=>i=b) (w.alloc hd0) (w.alloc hd0).drew∧PAt (w.alloc hd0).drew b s r (.slice ao n cD) L∧Sent (w.alloc hd0).drew A base) :=
  ⟨Turned.drw _,HP0.out.turned (Turned.drw (Z:=fun _=>False) _) (fun e=>e),HS0.out.turned (Turned.drw (Z:=fun _=>False) _) (fun _ _ e=>e)⟩
 obtain ⟨R,hR⟩:∃ R,R=pHead n r:=⟨_,rfl⟩
 rw [← hR]
 have HR:Hid (R=(pNum 0 (n - 1) r).bind fun a=>(pNum 1 40 a.2).bind fun b=>(pNum 1 40 b.2).bind fun c=>some ((a.1,b.1,c.1),c.2)):=hR
 clear hR h hS
 cases h1:pNum 0 (n - 1) r with
 | none =>
   rw [h1] at HR
   have C1:Hid (∀ z,z=((n - 1:Nat):Int)→Calls Tryz.prog 166 #[.pointer (some ⟨b,0,none⟩),.int .i64 0,.int .i64 z] (w.alloc hd0).drew fun e w''=>∃ ev,e=.returned (.tuple #[.int .i64 0,ev])∧Chain w'' A 0 ev∧Turned (fun i=>i=b) (w.alloc hd0) w''):=fun z hz =>
    (number_noz 0 z rfl hz.symm HD0.out.2.1 HD0.out.2.2 hb hs h1).mono fun e w' ⟨ev,h1,h2,h3⟩=>⟨ev,h1,h2,HD0.out.1.trans h3⟩
   clear h1
   go_enter Tryz.func303,Tryz.ntmps303
   go_wp2_with (fail)
   generalize w.alloc hd0=w0 at *
   go_region_with (first | (go_at_call 166;refine (C1.out _ (by first | exact hzz | rfl)).mono ?_;rintro e w1 ⟨ev,rfl,hC,hT1⟩;have HC:=hid hC;obtain ⟨u,x,rfl⟩:=hC.iface;clear hC))
   have HN1:=hid (kept_new hT1 HN.out (by omega))
   obtain ⟨k0,k1,k2,kf⟩:=cell_three HN1.out
   have f0:=kf 0
   have f1:=kf 1
   have f2:=kf 2
   have HT1:=hid hT1
   clear kf C1 hT1
   go_wp2
   have hTS:=turned_set3 w1 w.heap.size (.int .i64 0) (.int .i64 0) (.int .i64 0)
   refine bodyPost_ret (v:=.tuple #[.agg #[.int .i64 0,.int .i64 0,.int .i64 0],.iface u x]) (by simp [results,Tryz.results303,go_sem,k0,k1,k2]) rfl ⟨Or.inr ⟨HR.out,_,rfl,HC.out.turnT hTS HN1.out (by decide) (by decide)⟩,Turned.over (HT0.out.trans HT1.out) hTS (fun i hi e=>by omega)⟩
 | some y =>
   obtain ⟨n1,r1⟩:=y
   rw [h1] at HR
   simp only [Option.bind_some] at HR
   have C1:Hid (∀ z,z=((n - 1:Nat):Int)→Calls Tryz.prog 166 #[.pointer (some ⟨b,0,none⟩),.int .i64 0,.int .i64 z] (w.alloc hd0).drew fun e w''=>e=.returned (.tuple #[.int .i64 (n1:Int),.nilIface])∧PAt w'' b s r1 (.slice ao n cD) L∧Turned (fun i=>i=b) (w.alloc hd0) w''):=fun z hz =>
    (number_okz 0 z rfl hz.symm HD0.out.2.1 hs h1).mono fun e w' ⟨h1,h2,h3⟩=>⟨h1,h2,HD0.out.1.trans h3⟩
   clear h1
   go_enter Tryz.func303,Tryz.ntmps303
   go_wp2_with (fail)
   generalize w.alloc hd0=w0 at *
   go_region_with (first | (go_at_call 166;refine (C1.out _ (by first | exact hzz | rfl)).mono ?_;rintro e w1 ⟨rfl,hP1,hT1⟩))
   have HN1:=hid (kept_new hT1 HN.out (by omega))
   have HS1:=hid (HS0.out.turned hT1 (fun i hi e=>by omega))
   have HT1:=hid (HT0.out.trans hT1)
   have C2:=hid (number_any 1 40 rfl rfl hP1 HS1.out hb hs)
   clear C1 hT1 hP1 HD0 HP0 HN HS0 HT0
   go_wp2_with (fail)
   refine C2.out.mono ?_
   rintro e w2 ⟨⟨n2,r2,h2,rfl,hP2⟩ | ⟨h2,ev,rfl,hC⟩,hT2⟩
   ·rw [h2] at HR
    simp only [Option.bind_some] at HR
    have HN2:=hid (kept_new hT2 HN1.out (by omega))
    have HS2:=hid (HS1.out.turned hT2 (fun i hi e=>by omega))
    have HT2:=hid (HT1.out.trans hT2)
    have C3:=hid (number_any 1 40 rfl rfl hP2 HS2.out hb hs)
    clear C2 hT2 hP2 HN1 HS1 HT1 h2
    go_wp2_with (fail)
    refine C3.out.mono ?_
    rintro e w3 ⟨⟨n3,r3,h3,rfl,hP3⟩ | ⟨h3,ev,rfl,hC⟩,hT3⟩
    ·rw [h3] at HR
     simp only [Option.bind_some] at HR
     have HN3:=hid (kept_new hT3 HN2.out (by omega))
     have HT3:=hid (HT2.out.trans hT3)
     have HP3:=hid hP3
     obtain ⟨k0,k1,k2,kf⟩:=cell_three HN3.out
     have f0:=kf 0
     have f1:=kf 1
     have f2:=kf 2
     clear C3 hT3 hP3 kf h3 HN2 HS2 HT2
     go_wp2
     have hTS:=turned_set3 w3 w.heap.size (natV n1) (natV n2) (natV n3)
     refine bodyPost_ret (v:=.tuple #[.agg #[natV n1,natV n2,natV n3],.nilIface]) (by simp [results,Tryz.results303,go_sem,k0,k1,k2]) rfl ⟨Or.inl ⟨n1,n2,n3,r3,HR.out,rfl,HP3.out.turned hTS (by omega)⟩,Turned.over HT3.out hTS (fun i hi e=>by omega)⟩
    ·rw [h3] at HR
     have HC:=hid hC
     obtain ⟨u,x,rfl⟩:=hC.iface
     have HN1:=hid (kept_new hT3 HN2.out (by omega))
     obtain ⟨k0,k1,k2,kf⟩:=cell_three HN1.out
     have f0:=kf 0
     have f1:=kf 1
     have f2:=kf 2
     have HT1:=hid (HT2.out.trans hT3)
     clear kf C3 hT3 hC h3
     go_wp2
     have hTS:=turned_set3 w3 w.heap.size (.int .i64 0) (.int .i64 0) (.int .i64 0)
     refine bodyPost_ret (v:=.tuple #[.agg #[.int .i64 0,.int .i64 0,.int .i64 0],.iface u x]) (by simp [results,Tryz.results303,go_sem,k0,k1,k2]) rfl ⟨Or.inr ⟨HR.out,_,rfl,HC.out.turnT hTS HN1.out (by decide) (by decide)⟩,Turned.over HT1.out hTS (fun i hi e=>by omega)⟩
   ·rw [h2] at HR
    have HC:=hid hC
    obtain ⟨u,x,rfl⟩:=hC.iface
    have HN2:=hid (kept_new hT2 HN1.out (by omega))
    obtain ⟨k0,k1,k2,kf⟩:=cell_three HN2.out
    have f0:=kf 0
    have f1:=kf 1
    have f2:=kf 2
    have HT2:=hid (HT1.out.trans hT2)
    clear kf C2 hT2 hC h2
    go_wp2
    have hTS:=turned_set3 w2 w.heap.size (.int .i64 0) (.int .i64 0) (.int .i64 0)
    refine bodyPost_ret (v:=.tuple #[.agg #[.int .i64 0,.int .i64 0,.int .i64 0],.iface u x]) (by simp [results,Tryz.results303,go_sem,k0,k1,k2]) rfl ⟨Or.inr ⟨HR.out,_,rfl,HC.out.turnT hTS HN2.out (by decide) (by decide)⟩,Turned.over HT2.out hTS (fun i hi e=>by omega)⟩
end Go.Proofs.YtaacjjhmojecnaaGreatDoor
namespace Go.ScT
def hdF (lens:List Nat):Nat × Nat × Nat→Pls→Nat × Nat × Nat
 | x,[]=>x
 | x,p :: r=>hdF lens (p.1,max x.2.1 p.2,min x.2.2 (lens.getD p.1 0)) r
theorem hdF_any (lens:List Nat):∀ (ps:Pls) (a b c:Nat),c≤40→hdF lens (a,b,c) ps=(if ps=[] then a else lastO ps,max b (mxC ps),min c (mnL lens ps))
 | [],a,b,c,h=>by simp [hdF,mxC,mnL,mx];omega
 | p :: r,a,b,c,h=>by
   have hh:=hdF_any lens r p.1 (max b p.2) (min c (lens.getD p.1 0)) (by omega)
   rw [show hdF lens (a,b,c) (p :: r)=hdF lens (p.1,max b p.2,min c (lens.getD p.1 0)) r from rfl,hh]
   have e1:mxC (p :: r)=max p.2 (mxC r):=by simp [mxC,mx]
   have e2:mnL lens (p :: r)=min (lens.getD p.1 0) (mnL lens r):=by simp [mnL]
   rw [e1,e2,if_neg (show ¬ p :: r=[] by simp)]
   refine Prod.ext ?_ (Prod.ext ?_ ?_)
   ·cases r with
    | nil=>simp [lastO]
    | cons q r=>simp [lastO]
   ·simp only;omega
   ·simp only;omega
theorem hdF_all (lens:List Nat) (ps:Pls):hdF lens (0,0,40) ps=(lastO ps,mxC ps,mnL lens ps):=by
 rw [hdF_any lens ps 0 0 40 (by omega)]
 have:=mnL_le lens ps
 refine Prod.ext ?_ (Prod.ext ?_ ?_)
 ·by_cases h:ps=[]
  ·subst h;rfl
  ·simp [h]
 ·simp
 ·simp only;omega
end Go.ScT
namespace Go.Proofs.YtaacjjhmojecnaaGreatDoor
open Go.RowKit Go.ScT Go.Proofs
theorem cell_of_block2 {w:World} {y:Nat} {cs:Array Value} {t:TypeId} (h:w.heap[y]?=some (.cells cs t (0,0))) {j:Nat}:w.cell? ⟨y,j,none⟩=cs[j]?:=by
 simp [World.cell?,h]
theorem below_turned {n:Nat} {w w1 w2:World} {Z:Nat→Prop} (h:Below n w w1) (ht:Turned Z w1 w2) (hn:n≤w1.heap.size) (hz:∀ i,i < n→¬ Z i):Below n w w2 :=
 ⟨ht.os.trans h.os,ht.tape.trans h.tape,ht.output.trans h.output,Nat.le_trans h.size ht.size,fun i hi=>(ht.block i (by omega) (hz i hi)).trans (h.block i hi)⟩
theorem drop_at {α:Type} {l:List α} {i:Nat} {x:α} (h:l[i]?=some x):l.drop i=x :: l.drop (i+1):=by
 obtain ⟨hi,rfl⟩:=List.getElem?_eq_some_iff.1 h
 exact List.drop_eq_getElem_cons hi
set_option maxHeartbeats 1000000 in
set_option maxRecDepth 1000000 in
theorem headOf_any {w:World} {base cap capD g o gD:Nat} {ps:Pls} {ds:List DocP} (hD:DRow w base (.slice (some ⟨gD,0,none⟩) ds.length capD) ds)
 (hv:∀ i p,ps[i]?=some p→w.cell? ⟨g,o+i * 2,none⟩=some (natV p.1)∧w.cell? ⟨g,o+i * 2+1,none⟩=some (natV p.2)) (hg:g < w.heap.size) (hps:∀ p∈ps,p.1 < ds.length) (hl:ps.length≤1000) (hdl:ds.length≤1000) (hx:∀ d∈ds,d.2.2≤1000) (hx2:∀ p∈ps,p.2≤1000) :
 Calls Tryz.prog 206 #[.slice (some ⟨g,o,none⟩) ps.length cap,.slice (some ⟨gD,0,none⟩) ds.length capD] w fun e w'=>e=.returned (.agg #[natV (lastO ps),natV (mxC ps),natV (mnL (lensOf ds) ps)])∧Below w.heap.size w w':=by
 obtain ⟨n,hn⟩:∃ n,n=ps.length:=⟨_,rfl⟩
 obtain ⟨m,hm⟩:∃ m,m=ds.length:=⟨_,rfl⟩
 have HF:Hid (hdF (lensOf ds) (0,0,40) (ps.drop 0)=(lastO ps,mxC ps,mnL (lensOf ds) ps)):=show _=_ by rw [List.drop_zero];exact hdF_all _ _
 have HV:=hid hv
 rw [← hm] at hD hdl
 rw [← hn] at hl
 have HD:=hid hD
 have HX:=hid hx
 have HX2:=hid hx2
 have HPS:=hid hps
 rw [← hn,← hm]
 have HN:=hid hn
 have HM:=hid hm
 have HB0:=hid (((Below.refl w.heap.size w).alloc (Nat.le_refl _) (.cells #[.int .i64 0,.int .i64 0,.int .i64 0] 295)).alloc (by simp) (.cells #[.int .i64 0,.int .i64 0,.int .i64 40] 295))
 clear hv hD hx hx2 hps hn hm
 go_enter Tryz.func206,Tryz.ntmps206
 go_wp2_with (fail)
 have HH1:Hid (((w.alloc (.cells #[.int .i64 0,.int .i64 0,.int .i64 0] 295)).alloc (.cells #[.int .i64 0,.int .i64 0,.int .i64 40] 295)).heap[w.heap.size]?=some (.cells #[.int .i64 0,.int .i64 0,.int .i64 0] 295 (0,0))):=by
  have:=(((Below.refl _ (w.alloc (.cells #[.int .i64 0,.int .i64 0,.int .i64 0] 295))).alloc (Nat.le_refl _) (.cells #[.int .i64 0,.int .i64 0,.int .i64 40] 295)).block w.heap.size (by simp)).trans (heap_alloc_new w _)
  exact this
 have HH2:Hid (((w.alloc (.cells #[.int .i64 0,.int .i64 0,.int .i64 0] 295)).alloc (.cells #[.int .i64 0,.int .i64 0,.int .i64 40] 295)).heap[w.heap.size+1]?=some (.cells #[natV 0,natV 0,natV 40] 295 (0,0))):=by
  have:=heap_alloc_new (w.alloc (.cells #[.int .i64 0,.int .i64 0,.int .i64 0] 295)) (.cells #[.int .i64 0,.int .i64 0,.int .i64 40] 295)
  rw [show (w.alloc (.cells #[.int .i64 0,.int .i64 0,.int .i64 0] 295)).heap.size=w.heap.size+1 by simp] at this
  exact this
 generalize (w.alloc (.cells #[.int .i64 0,.int .i64 0,.int .i64 0] 295)).alloc (.cells #[.int .i64 0,.int .i64 0,.int .i64 40] 295)=w0 at *
 go_loopw [11] (fun s11 wr=>∃ (i a b c:Nat),s11=.int .i64 (i:Int)∧i≤n∧a≤1000∧b≤1000∧c≤40∧Hid (wr.heap[w.heap.size]?=some (.cells #[.int .i64 0,.int .i64 0,.int .i64 0] 295 (0,0)))∧Hid (wr.heap[w.heap.size+1]?=some (.cells #[natV a,natV b,natV c] 295 (0,0)))∧Hid (Below w.heap.size w wr)∧Hid (hdF (lensOf ds) (a,b,c) (ps.drop i)=(lastO ps,mxC ps,mnL (lensOf ds) ps))) (fun s11 _=>n - (intOf s11).toNat)
 case atStart=>exact ⟨0,0,0,40,rfl,by omega,by omega,by omega,by omega,HH1,HH2,HB0,HF⟩
 case round =>
  obtain ⟨i,a,b,c,rfl,hi,ha,hb,hc,HA,HH,HB,HE⟩:=hrel
  by_cases hlt:i < n
  ·have hlti:(i:Int) < (n:Int):=by omega
   obtain ⟨p,hp⟩:∃ p,ps[i]?=some p:=⟨_,List.getElem?_eq_getElem (by rw [← HN.out];exact hlt)⟩
   have hpm:=List.mem_of_getElem? hp
   have hp1:=HPS.out p hpm
   have hp2:=HX2.out p hpm
   rw [← HM.out] at hp1
   obtain ⟨d,hd⟩:∃ d,ds[p.1]?=some d:=⟨_,List.getElem?_eq_getElem (by rw [← HM.out];exact hp1)⟩
   have hdl2:=HX.out d (List.mem_of_getElem? hd)
   obtain ⟨q0,q1⟩:=HV.out i p hp
   rw [← HB.out.cell hg] at q0 q1
   obtain ⟨_,_,q2⟩:=HD.out.cells hd
   have hgD:gD < w.heap.size:=(HD.out.lt gD rfl).2
   rw [← HB.out.cell hgD] at q2
   obtain ⟨k0,k1,k2,kf⟩:=cell_three HH.out
   have f0:=kf 0
   have f1:=kf 1
   have f2:=kf 2
   have hG:=lt_of_block HH.out
   have HE2:Hid (hdF (lensOf ds) (p.1,max b p.2,min c d.2.2) (ps.drop (i+1))=(lastO ps,mxC ps,mnL (lensOf ds) ps)):=show _=_ by
    have hlen:(lensOf ds).getD p.1 0=d.2.2:=by simp [lensOf,hd]
    rw [← HE.out,drop_at hp,hdF,hlen]
   obtain ⟨x,y⟩:=p
   obtain ⟨d1,d2,z⟩:=d
   simp only at hp1 hp2 hdl2 q0 q1 q2 HE2
   have hne:¬ wr.heap.size=w.heap.size+1:=by omega
   have hne2:¬ w.heap.size+1=wr.heap.size:=by omega
   have hng:¬ g=wr.heap.size:=by omega
   have hng2:¬ g=w.heap.size+1:=by omega
   have hngD:¬ gD=wr.heap.size:=by omega
   have hngD2:¬ gD=w.heap.size+1:=by omega
   have hmi:(x:Int) < (m:Int):=by omega
   clear hp hpm hd kf HE
   go_wp2_with (fail)
   have hmxn:(max (b:Int) (y:Int))=((max b y:Nat):Int):=by omega
   obtain ⟨W,hW⟩:∃ W,W=((wr.setCell ⟨w.heap.size+1,0,none⟩ (.int .i64 (x:Int))).setCell ⟨w.heap.size+1,1,none⟩ (.int .i64 (max (b:Int) (y:Int)))).alloc (.cells #[.int .i64 (x:Int),.int .i64 (y:Int)] 169):=⟨_,rfl⟩
   have hT:Turned (fun j=>j=w.heap.size+1) wr W:=by
    rw [hW]
    exact ((Turned.ofSet (Z:=fun j=>j=w.heap.size+1) _ _ _ rfl).trans (Turned.ofSet _ _ _ rfl)).trans (Turned.ofAlloc _ _)
   have hTw:Hid (Below w.heap.size w W):=below_turned HB.out hT (by omega) (fun j hj=>by omega)
   have HA2:Hid (W.heap[w.heap.size]?=some (.cells #[.int .i64 0,.int .i64 0,.int .i64 0] 295 (0,0))):=(hT.block _ (lt_of_block HA.out) (by omega)).trans HA.out
   have HH3:Hid (W.heap[w.heap.size+1]?=some (.cells #[.int .i64 (x:Int),.int .i64 ((max b y:Nat):Int),natV c] 295 (0,0))):=by
    have e1:=heap_setCell_same wr (w.heap.size+1) 0 _ 295 (.int .i64 (x:Int)) HH.out
    have e2:=heap_setCell_same _ (w.heap.size+1) 1 _ 295 (.int .i64 (max (b:Int) (y:Int))) e1
    have e3:=((Turned.ofAlloc (Z:=fun _=>False) ((wr.setCell ⟨w.heap.size+1,0,none⟩ (.int .i64 (x:Int))).setCell ⟨w.heap.size+1,1,none⟩ (.int .i64 (max (b:Int) (y:Int)))) (.cells #[.int .i64 (x:Int),.int .i64 (y:Int)] 169)).block _ (lt_of_block e2) (fun e=>e)).trans e2
    rw [hW,← hmxn]
    exact e3
   have v1:W.cell? ⟨wr.heap.size,0,none⟩=some (.int .i64 (x:Int)):=by
    have e1:=heap_alloc_new ((wr.setCell ⟨w.heap.size+1,0,none⟩ (.int .i64 (x:Int))).setCell ⟨w.heap.size+1,1,none⟩ (.int .i64 (max (b:Int) (y:Int)))) (.cells #[.int .i64 (x:Int),.int .i64 (y:Int)] 169)
    rw [show ((wr.setCell ⟨w.heap.size+1,0,none⟩ (.int .i64 (x:Int))).setCell ⟨w.heap.size+1,1,none⟩ (.int .i64 (max (b:Int) (y:Int)))).heap.size=wr.heap.size by simp [World.setCell]] at e1
    rw [hW,cell_of_block2 e1]
    rfl
   have v2:W.cell? ⟨gD,x * 3+2,none⟩=some (natV z):=by
    rw [World.cell?_of_block (hT.block gD (by omega) hngD2)];exact q2
   rw [← hW]
   clear hW hT k0 k1 k2 f0 f1 f2 q0 q1 q2
   obtain ⟨k0,k1,k2,kf⟩:=cell_three HH3.out
   have f2:=kf 2
   clear kf HA HH HB
   go_region
   have hmnn:(min (c:Int) (z:Int))=((min c z:Nat):Int):=by omega
   have hT2:Turned (fun j=>j=w.heap.size+1) W (W.setCell ⟨w.heap.size+1,2,none⟩ (.int .i64 (min (c:Int) (z:Int)))).drew:=(Turned.ofSet (Z:=fun j=>j=w.heap.size+1) _ _ _ rfl).trans (Turned.drw _)
   have hWs:=hTw.out.size
   have hWl:=lt_of_block HH3.out
   have HB4:Hid (Below w.heap.size w (W.setCell ⟨w.heap.size+1,2,none⟩ (.int .i64 (min (c:Int) (z:Int)))).drew):=below_turned hTw.out hT2 hWs (fun j hj=>by omega)
   have HA4:Hid ((W.setCell ⟨w.heap.size+1,2,none⟩ (.int .i64 (min (c:Int) (z:Int)))).drew.heap[w.heap.size]?=some (.cells #[.int .i64 0,.int .i64 0,.int .i64 0] 295 (0,0))):=(hT2.block _ (lt_of_block HA2.out) (by omega)).trans HA2.out
   have HH4:Hid ((W.setCell ⟨w.heap.size+1,2,none⟩ (.int .i64 (min (c:Int) (z:Int)))).drew.heap[w.heap.size+1]?=some (.cells #[natV x,natV (max b y),natV (min c z)] 295 (0,0))):=by
    have e1:=heap_setCell_same W (w.heap.size+1) 2 _ 295 (.int .i64 (min (c:Int) (z:Int))) HH3.out
    rw [hmnn] at e1 ⊢
    exact e1
   generalize (W.setCell ⟨w.heap.size+1,2,none⟩ (.int .i64 (min (c:Int) (z:Int)))).drew=W4 at *
   go_wp2_with (fail)
   go_roundw
   case rel=>exact ⟨i+1,x,max b y,min c z,by go_num,by omega,by omega,by omega,by omega,HA4,HH4,HB4,HE2⟩
   case measure=>simp [intOf];omega
  ·have hlti:¬ ((i:Int) < (n:Int)):=by omega
   obtain rfl:i=n:=by omega
   have HE2:Hid ((a,b,c)=(lastO ps,mxC ps,mnL (lensOf ds) ps)):=show _=_ by
    rw [← HE.out,HN.out,List.drop_length,hdF]
   obtain ⟨k0,k1,k2,kf⟩:=cell_three HH.out
   obtain ⟨j0,j1,j2,jf⟩:=cell_three HA.out
   have f0:=jf 0
   have f1:=jf 1
   have f2:=jf 2
   clear kf jf
   go_wp2
   have hTS:=turned_set3 wr w.heap.size (natV a) (natV b) (natV c)
   have e0:=HE2.out
   simp only [Prod.mk.injEq] at e0
   have hsz:=HB.out.size
   refine bodyPost_ret (v:=.agg #[natV a,natV b,natV c]) (by simp [results,Tryz.results206,go_sem,j0,j1,j2]) rfl ⟨by rw [e0.1,e0.2.1,e0.2.2],below_turned HB.out hTS hsz (fun j hj=>by omega)⟩
end Go.Proofs.YtaacjjhmojecnaaGreatDoor
