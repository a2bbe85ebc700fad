import Derived.Test.YtaacjjhmojecnaaGreatDoorErrAs
import Derived.Test.YtaacjjhmojecnaaGreatDoorRdV
import Derived.Lib.AppendStr
namespace Go.Proofs.YtaacjjhmojecnaaGreatDoor
open Go.RowKit Go.Extern.Stop Go.Stop Go.Extern Go.Proofs Go.ScT
theorem belowA (w:World) (o:Obj):Below w.heap.size w (w.alloc o):=(Below.refl _ w).alloc (Nat.le_refl _) o
theorem cell_two {w:World} {y:Nat} {v1 v2:Value} {t:TypeId} (h:w.heap[y]?=some (.cells #[v1,v2] t (0,0))):w.cell? ⟨y,1,none⟩=some v2:=by
 simp [World.cell?,h]
theorem is_chain {w:World} {A:Nat→Addr} {base n:Nat} {v:Value} (hS:Sent w A base) (h:Chain w A n v) (hn:n≤3) :
 Calls Tryz.prog 72 #[v,.iface 404 (.pointer (some (A 0)))] w fun e w'=>e=.returned (.bool false)∧w'=w:=by
 obtain ⟨_,cb,tb,hb⟩:=hS.obj 0 (by simp)
 rcases h.two with ⟨_, _, _, rfl, hq, hk, h0, rfl⟩ | ⟨_, _, _, _, rfl, h1, hv1, rfl⟩
 · obtain ⟨_,ca,ta,ha⟩:=hS.obj _ hk
   exact is_chain0 _ _ _ ca cb ta tb w (cell_two hq) (hS.ne _ hk h0) ha hb
 · rcases hv1.two with ⟨_, _, _, rfl, hq, hk, h0, rfl⟩ | ⟨_, _, _, _, rfl, h2, hv2, rfl⟩
   · obtain ⟨_,ca,ta,ha⟩:=hS.obj _ hk
     exact is_chain1 _ _ _ _ ca cb ta tb w (cell_two h1) (cell_two hq) (hS.ne _ hk h0) ha hb
   · rcases hv2.two with ⟨_, _, _, rfl, hq, hk, h0, rfl⟩ | ⟨_, _, _, _, rfl, h3, hv3, rfl⟩
     · obtain ⟨_,ca,ta,ha⟩:=hS.obj _ hk
       exact is_chain2 _ _ _ _ _ ca cb ta tb w (cell_two h1) (cell_two h2) (cell_two hq) (hS.ne _ hk h0) ha hb
     · rcases hv3.two with ⟨_, _, _, rfl, hq, hk, h0, rfl⟩ | ⟨_, _, _, _, rfl, h4, hv4, rfl⟩
       · obtain ⟨_,ca,ta,ha⟩:=hS.obj _ hk
         exact is_chain3 _ _ _ _ _ _ ca cb ta tb w (cell_two h1) (cell_two h2) (cell_two h3) (cell_two hq) (hS.ne _ hk h0) ha hb
       · omega
theorem as_turned {w:World} {t:Addr} {o1 o2 o3 o4:Obj} {v:Value}:Turned (fun i=>i=t.block) w (((((w.alloc o1).alloc o2).alloc o3).alloc o4).setCell t v) :=
 ((((Turned.ofAlloc _ _).trans (Turned.ofAlloc _ _)).trans (Turned.ofAlloc _ _)).trans (Turned.ofAlloc _ _)).trans (Turned.ofSet _ _ _ rfl)
theorem as_chain {w:World} {A:Nat→Addr} {base n:Nat} {v old:Value} {t:Addr} (hS:Sent w A base) (h:Chain w A n v) (hn:n≤3) (ht:w.cell? t=some old) (hf:w.frozen? t=false) :
 Calls Tryz.prog 73 #[v,.iface 119 (.pointer (some t))] w fun e w'=>e=.returned (.bool true)∧Turned (fun i=>i=t.block) w w':=by
 have hg:=hS.ety
 rcases h.two with ⟨_, _, _, rfl, hq, hk, h0, rfl⟩ | ⟨_, _, _, _, rfl, h1, hv1, rfl⟩
 · exact (as_chain0 _ t old w hg ht hf).mono fun e w' h=>⟨h.1,h.2 ▸ as_turned⟩
 · rcases hv1.two with ⟨_, _, _, rfl, hq, hk, h0, rfl⟩ | ⟨_, _, _, _, rfl, h2, hv2, rfl⟩
   · exact (as_chain1 _ _ t old w (cell_two h1) hg ht hf).mono fun e w' h=>⟨h.1,h.2 ▸ as_turned⟩
   · rcases hv2.two with ⟨_, _, _, rfl, hq, hk, h0, rfl⟩ | ⟨_, _, _, _, rfl, h3, hv3, rfl⟩
     · exact (as_chain2 _ _ _ t old w (cell_two h1) (cell_two h2) hg ht hf).mono fun e w' h=>⟨h.1,h.2 ▸ as_turned⟩
     · rcases hv3.two with ⟨_, _, _, rfl, hq, hk, h0, rfl⟩ | ⟨_, _, _, _, rfl, h4, hv4, rfl⟩
       · exact (as_chain3 _ _ _ _ t old w (cell_two h1) (cell_two h2) (cell_two h3) hg ht hf).mono fun e w' h=>⟨h.1,h.2 ▸ as_turned⟩
       · omega
set_option maxHeartbeats 1000000 in
set_option maxRecDepth 1000000 in
theorem errno_nil {w:World} {A:Nat→Addr} {base:Nat} (hS:Sent w A base) :
 Calls Tryz.prog 42 #[.nilIface] w fun e w'=>e=.returned (.int .i64 0)∧Turned (fun _=>False) w w':=by
 have g0:=hS.cell 0 (by simp)
 have hS1:=hS.below (belowA w (.cells #[.pointer none] 116))
 have g1:=hS1.cell 0 (by simp)
 have C1:=hid (is_nil (A 0) (w.alloc (.cells #[.pointer none] 116)))
 have C2:=hid (as_nil (.iface 119 (.pointer (some ⟨w.heap.size,0,none⟩))) (w.alloc (.cells #[.pointer none] 116)))
 clear hS hS1
 go_enter Tryz.func42,Tryz.ntmps42
 go_wp2_with (first | (go_at_call 72;refine C1.out.mono ?_;rintro e w1 ⟨rfl,rfl⟩) | (go_at_call 73;refine C2.out.mono ?_;rintro e w1 ⟨rfl,rfl⟩))
 go_ret
 exact ⟨rfl,Turned.ofAlloc w _⟩
set_option maxHeartbeats 1000000 in
set_option maxRecDepth 1000000 in
theorem errno_long {w:World} {A:Nat→Addr} {base:Nat} (hS:Sent w A base) :
 Calls Tryz.prog 42 #[.iface 404 (.pointer (some (A 0)))] w fun e w'=>e=.returned (.int .i64 2)∧Turned (fun _=>False) w w':=by
 have hS1:=hS.below (belowA w (.cells #[.pointer none] 116))
 have g1:=hS1.cell 0 (by simp)
 have C1:=hid (is_same (A 0) (w.alloc (.cells #[.pointer none] 116)))
 clear hS hS1
 go_enter Tryz.func42,Tryz.ntmps42
 go_wp2_with (first | (go_at_call 72;refine C1.out.mono ?_;rintro e w1 ⟨rfl,rfl⟩))
 go_ret
 exact ⟨rfl,Turned.ofAlloc w _⟩
set_option maxHeartbeats 1000000 in
set_option maxRecDepth 1000000 in
theorem errno_chain {w:World} {A:Nat→Addr} {base n:Nat} {v:Value} (hS:Sent w A base) (h:Chain w A n v) (hn:n≤3) :
 Calls Tryz.prog 42 #[v] w fun e w'=>e=.returned (.int .i64 8)∧Turned (fun _=>False) w w':=by
 have hB:=belowA w (.cells #[.pointer none] 116)
 have hS1:=hS.below hB
 have g1:=hS1.cell 0 (by simp)
 have C1:=hid (is_chain hS1 (h.kept hB) hn)
 have C2:=hid (as_chain (t:=⟨w.heap.size,0,none⟩) (old:=.pointer none) hS1 (h.kept hB) hn (by simp) (by simp only [World.frozen?,heap_alloc_new];rfl))
 obtain ⟨u,x,rfl⟩:=h.iface
 clear hS hS1 h
 go_enter Tryz.func42,Tryz.ntmps42
 go_wp2_with (first | (go_at_call 72;refine C1.out.mono ?_;rintro e w1 ⟨rfl,rfl⟩) | (go_at_call 73;refine C2.out.mono ?_;rintro e w1 ⟨rfl,hT⟩))
 go_ret
 refine ⟨rfl,?_⟩
 exact ((Turned.ofAlloc (Z:=fun i=>i=w.heap.size) w _).trans hT).mono (fun i hi (e:i=w.heap.size)=>by omega)
end Go.Proofs.YtaacjjhmojecnaaGreatDoor
namespace Go.Proofs.YtaacjjhmojecnaaGreatDoor
open Go.RowKit Go.ScT Go.Proofs
theorem okDocs_all:∀ {ds:List DocP} {b:Nat} {seen:List Bs},OkDocs b seen ds→∀ d∈ds,d.1≤100∧d.2.1.length≤8∧d.2.2≤40
 | [],_,_,_,d,h=>by simp at h
 | e :: r,b,seen,h,d,hd=>by
   rcases List.mem_cons.1 hd with rfl | hd
   ·exact ⟨h.2.1,(keyOk_len h.2.2.2.1).2,h.2.2.1⟩
   ·exact okDocs_all h.2.2.2.2.2 d hd
theorem okLists_tok {lens:List Nat}:∀ {ls:List Lst} {b:Bs},OkLists lens b ls→∀ l∈ls,l.1.length≤20
 | [],_,_,l,h=>by simp at h
 | e :: r,b,h,l,hl=>by
   rcases List.mem_cons.1 hl with rfl | hl
   ·exact (isTok_len h.1).2
   ·exact okLists_tok h.2.2.2.2.2 l hl
theorem VC.tellable {ds:List DocP} {ls:List Lst} (h:VC (ds,ls)):Tellable ds ls := {
 docs:=h.most
 lists:=h.few
 doc:=okDocs_all h.docs
 list:=fun l hl=>by
  have h1:=okLists_all h.lists l hl
  have h2:=lensOf_len ds
  have h3:ds.length≤100:=h.most
  refine ⟨okLists_tok h.lists l hl,by have:=h1.1;simp only at this;omega,fun p hp=>?_⟩
  have:=h1.2.mem p hp
  simp only at this
  omega }
set_option maxHeartbeats 1000000 in
set_option maxRecDepth 1000000 in
theorem progRead_long {w:World} {base:Nat} {A:Nat→Addr} {s:ByteArray} (hS:Sent w A base) (hs:60000 < s.size) (hm:s.size≤maxLen) :
 Calls Tryz.prog 48 #[.string s] w fun e w'=>e=.returned (.tuple #[.agg #[.slice none 0 0,.slice none 0 0],.iface 404 (.pointer (some (A 0)))])∧Below w.heap.size w w':=by
 unfold maxLen at hm
 have hsi:(60000:Int) < (s.size:Int):=by omega
 have hlow:=hS.low
 have hsz:=hS.size
 have HS0:=hS.below ((Below.refl w.heap.size w).alloc (Nat.le_refl _) ct0)
 have g0:=HS0.cell 0 (by simp)
 have HN:=hid (heap_alloc_new w ct0)
 have HB:=hid ((Below.refl w.heap.size w).alloc (Nat.le_refl _) ct0)
 have hn0:¬ w.heap.size=0:=by omega
 have hn0':¬ 0=w.heap.size:=by omega
 clear hS HS0
 go_enter Tryz.func48,Tryz.ntmps48
 go_wp2_with (fail)
 generalize w.alloc ct0=w0 at *
 obtain ⟨l0,l1,lf⟩:=cell_two2 HN.out
 have f0:=lf 0
 have f1:=lf 1
 clear lf
 go_region
 go_wp2
 have hTS:=turned_set2 w0 w.heap.size (.slice none 0 0) (.slice none 0 0)
 have e1:=heap_setCell_same w0 w.heap.size 0 _ 91 (.slice none 0 0) HN.out
 have e2:=heap_setCell_same _ w.heap.size 1 _ 91 (.slice none 0 0) e1
 obtain ⟨m0,m1,_⟩:=cell_two2 e2
 have hTf:=below_turned HB.out hTS HB.out.size (fun i hi=>by omega)
 refine bodyPost_ret (v:=.tuple #[.agg #[.slice none 0 0,.slice none 0 0],.iface 404 (.pointer (some (A 0)))]) (by simp [results,Tryz.results48,go_sem,m0,m1]) rfl ⟨rfl,⟨hTf.os,hTf.tape,hTf.output,hTf.size,hTf.block⟩⟩
set_option maxHeartbeats 1000000 in
set_option maxRecDepth 1000000 in
theorem progOpen {w:World} {base:Nat} {A:Nat→Addr} {S:Bs} (hS:Sent w A base) (hs:S.length≤maxLen) :
 Calls Tryz.prog 26 #[lstV S] w fun e w'=>e=.returned (.tuple #[lstV (rOpen S).1,.int .i64 ((rOpen S).2:Int)])∧Below w.heap.size w w':=by
 have hsz:(⟨S.toArray⟩:ByteArray).size=S.length:=by simp [ByteArray.size]
 have hdl:(⟨S.toArray⟩:ByteArray).data.toList=S:=by simp
 by_cases h6:60000 < S.length
 ·have HE:Hid (rOpen S=([],2)):=show _=_ by unfold rOpen;rw [if_pos h6]
  have C1:=hid (progRead_long hS (by rw [hsz];exact h6) (by rw [hsz];exact hs))
  have HS:=hid hS
  clear hS hsz hdl
  go_enter Tryz.func26,Tryz.ntmps26
  go_wp2_with (fail)
  refine C1.out.mono ?_
  rintro e w1 ⟨rfl,hB1⟩
  have hBa:=hB1.trans (((Below.refl w1.heap.size w1).alloc (Nat.le_refl _) ct0).mono hB1.size)
  have C2:=hid (errno_long (HS.out.below hBa))
  have HBa:=hid hBa
  clear C1 hB1 hBa
  go_wp2_with (fail)
  refine C2.out.mono ?_
  rintro e w2 ⟨rfl,hT2⟩
  go_wp2
  go_ret2
  rw [HE.out]
  exact ⟨rfl,below_turned HBa.out hT2 HBa.out.size (fun _ _ e=>e)⟩
 ·have HE:Hid (rOpen S=match pRead S with | some c=>(listing c,0) | none=>([],8)):=show _=_ by
   unfold rOpen
   rw [if_neg h6]
   cases pRead S <;> rfl
  have C1:=hid (progRead_any (s:=⟨S.toArray⟩) hS (by rw [hsz];omega))
  rw [hdl] at C1
  have HS:=hid hS
  clear hS hsz hdl
  go_enter Tryz.func26,Tryz.ntmps26
  go_wp2_with (fail)
  refine C1.out.mono ?_
  rintro e w1 ⟨⟨ds,ls,D,L,h1,rfl,hg,hgl,hD,hL⟩ | ⟨h1,n,ev,hn,rfl,hC⟩,hB1⟩
  ·have hv:=(pRead_iff.1 h1).2
   rw [h1] at HE
   have HV:=hid (VC.tellable hv)
   obtain ⟨gD,cD,aoD,hDe,_,_⟩:=ownsRow_shape hD
   obtain ⟨xs,hx1,hx2,hx3⟩:=hL
   obtain ⟨gL,cL,aoL,hLe,_,_⟩:=ownsRow_shape hx2
   have HL:Hid (ListsAt w1 w.heap.size (lensOf ds) L ls):=⟨xs,hx1,hx2,hx3⟩
   obtain ⟨dl,hdl⟩:∃ k,k=ds.length:=⟨_,rfl⟩
   obtain ⟨xl,hxl⟩:∃ k,k=xs.length:=⟨_,rfl⟩
   rw [← hdl] at hDe
   rw [← hxl] at hLe
   subst hDe hLe
   have hBq:=((Below.refl w1.heap.size w1).alloc (Nat.le_refl _) (.cells #[.slice aoD dl cD,.slice aoL xl cL] 91))
   have hTq:=Turned.ofBelow (Z:=fun _=>False) hBq
   have HBa:=hid (hB1.trans (hBq.mono hB1.size))
   have HDa:=hid (ownsRow_turned hD hTq (fun _ _ e=>e))
   have HLa:=hid (HL.out.turned hTq (fun _ _ e=>e))
   have C2:=hid (errno_nil (HS.out.below HBa.out))
   have HNq:=hid (heap_alloc_new w1 (.cells #[.slice aoD dl cD,.slice aoL xl cL] 91))
   clear C1 hB1 hD hx1 hx2 hx3 hg hgl hv h1 hdl hxl hTq hBq HL
   go_wp2_with (fail)
   refine C2.out.mono ?_
   generalize w1.alloc (.cells #[.slice aoD dl cD,.slice aoL xl cL] 91)=wa at *
   rintro e w2 ⟨rfl,hT2⟩
   have HB2:=hid (below_turned HBa.out hT2 HBa.out.size (fun _ _ e=>e))
   have C3:=hid (progListing (ownsRow_turned HDa.out hT2 (fun _ _ e=>e)) (HLa.out.turned hT2 (fun _ _ e=>e)) (HS.out.below HB2.out) HV.out)
   obtain ⟨k0,k1,_⟩:=cell_two2 ((hT2.block _ (lt_of_block' HNq.out) (fun e=>e)).trans HNq.out)
   clear C2 hT2
   go_wp2_with (fail)
   refine C3.out.mono ?_
   rintro e w3 ⟨rfl,hB3⟩
   go_wp2
   go_ret2
   rw [HE.out]
   exact ⟨rfl,HB2.out.trans (hB3.mono HB2.out.size)⟩
  ·rw [h1] at HE
   have HC:=hid hC
   obtain ⟨u,x,rfl⟩:=hC.iface
   have hBq:=((Below.refl w1.heap.size w1).alloc (Nat.le_refl _) ct0)
   have HBa:=hid (hB1.trans (hBq.mono hB1.size))
   have C2:=hid (errno_chain (HS.out.below HBa.out) (HC.out.kept hBq) hn)
   clear C1 hB1 hC h1 hBq
   go_wp2_with (fail)
   refine C2.out.mono ?_
   rintro e w2 ⟨rfl,hT2⟩
   go_wp2
   go_ret2
   rw [HE.out]
   exact ⟨rfl,below_turned HBa.out hT2 HBa.out.size (fun _ _ e=>e)⟩
abbrev BRow (w:World) (base:Nat) (v:Value) (l:Bs):Prop:=w.ownsRow base 5 1 v l.length (Lib.byteCells l)
def Z5 (w:World) (base i:Nat):Prop:=base≤i∧∃ c f,w.heap[i]?=some (.cells c 5 f)
abbrev Grew (base:Nat) (w w':World):Prop:=Turned (Z5 w base) w w'
theorem Grew.trans {base:Nat} {a b c:World} (h:Grew base a b) (k:Grew base b c):Grew base a c :=
 ⟨k.os.trans h.os,k.tape.trans h.tape,k.output.trans h.output,Nat.le_trans h.size k.size,fun i hi hz=>by
  have e:=h.block i hi hz
  refine (k.block i (Nat.lt_of_lt_of_le hi h.size) (fun hz'=>hz ⟨hz'.1,?_⟩)).trans e
  obtain ⟨c,f,hc⟩:=hz'.2
  exact ⟨c,f,e ▸ hc⟩⟩
theorem Grew.below {base:Nat} {w w':World} (h:Grew base w w') (hb:base≤w.heap.size):Below base w w':=⟨h.os,h.tape,h.output,h.size,fun k hk=>h.block k (by omega) (fun hz=>by have:=hz.1;omega)⟩
theorem Grew.ofAlloc {base:Nat} (w:World) (o:Obj):Grew base w (w.alloc o):=Turned.ofAlloc w o
theorem Grew.row {base b2 e size n:Nat} {w w':World} {v:Value} {xs:List Value} (h:Grew base w w') (hr:w.ownsRow b2 e size v n xs) (he:e≠5):w'.ownsRow b2 e size v n xs :=
 ownsRow_turned hr h (fun g hg hz=>by
  obtain ⟨c1,h1⟩:=ownsRow_block hr hg
  obtain ⟨c2,f2,h2⟩:=hz.2
  exact tag_ne h1 h2 he rfl)
theorem grew_of {w w5:World} {base:Nat} {v:Value} {l:Bs} (h:BRow w base v l) (hg:w.grownBy w5 v.ownBlock):Grew base w w5 :=
 Turned.ofGrown hg (fun j hj _=>by
  obtain ⟨c,hc⟩:=ownsRow_block h hj
  exact ⟨(h.lt j hj).1,c,_,hc⟩)
theorem byte_one (k:Nat) (h:k < 256):Lib.byteCells [byt k]=[.int .u8 (k:Int)]:=by
 show [Value.int .u8 ((byt k).toNat:Int)]=_
 rw [byt_lt k h]
theorem grew_one {w w5:World} {base g cap k:Nat} {v:Value} {l:Bs} {o:Obj} (h:BRow w base v l) (hk:k < 256) (hown:w5.ownsRow base 5 1 (.slice (some ⟨g,0,none⟩) (l.length+1) cap) (l.length+1) (Lib.byteCells l++[.int .u8 (k:Int)])) (hg:(w.alloc o).grownBy w5 v.ownBlock) :
 BRow w5 base (.slice (some ⟨g,0,none⟩) (l.length+1) cap) (l++[byt k])∧Grew base w w5:=by
 refine ⟨?_,(Grew.ofAlloc w o).trans (grew_of (l:=l) (h.alloc o) hg)⟩
 unfold BRow
 rw [Lib.byteCells_append,byte_one k hk]
 simpa using hown
theorem info5:(Tryz.prog.info? 5).map (fun i=>(i.zero,i.size,i.bytes))=some (some (.int .u8 0),1,1):=by kernel_rfl
theorem or_top (a:Nat) (ha:a < 128):bits .or .i64 (a:Int) 128=((a+128:Nat):Int):=by
 have:=or_join a 1 ha (by omega)
 simpa using this
theorem vi_big {n:Nat} (h:¬ n < 128) (h2:n < 16384):vi n=[byt (n % 128+128)]++vi (n / 128):=by
 unfold vi
 rw [if_neg h,if_pos (by omega)]
 rfl
set_option maxHeartbeats 1000000 in
set_option maxRecDepth 1000000 in
theorem appendVarint_any {w:World} {base n:Nat} {v:Value} {l:Bs} (h:BRow w base v l) (hb:base≤w.heap.size) (hn:n < 16384) (hl:l.length≤30000000) :
 Calls Tryz.prog 173 #[v,.int .i64 (n:Int)] w fun e w'=>∃ v',e=.returned v'∧BRow w' base v' (l++vi n)∧Grew base w w':=by
 obtain ⟨i5,hi1,ha0,ha1,ha2⟩:=info_parts info5
 have HR:=hid h
 clear h
 go_enter Tryz.func173,Tryz.ntmps173
 go_wp2_with (fail)
 go_loopw [0,1] (fun s0 s1 wr=>∃ (m:Nat) (l2:Bs),s1=.int .i64 (m:Int)∧m≤n∧Hid (l2.length≤l.length+(n - m))∧Hid (BRow wr base s0 l2)∧Hid (Grew base w wr)∧Hid (l2++vi m=l++vi n)) (fun _ s1 _=>(intOf s1).toNat)
 case atStart=>exact ⟨n,l,rfl,by omega,by simp [Hid],HR,Turned.refl _ _,rfl⟩
 case round =>
  obtain ⟨m,l2,rfl,hm,HL,HB,HG,HE⟩:=hrel
  obtain ⟨gv,cv,ao,hv,_,_⟩:=ownsRow_shape HB.out
  obtain ⟨ll,hll⟩:∃ ll,ll=l2.length:=⟨_,rfl⟩
  rw [← hll] at hv
  have HLL:=hid hll
  have hl2:ll≤30100000:=by have:=HL.out;omega
  have hszr:=HG.out.size
  subst hv
  clear hll
  by_cases h1:m < 128
  ·have h1i:¬ ((128:Int)≤(m:Int)):=by omega
   have HV:Hid (vi m=[byt m]):=show _=_ by unfold vi;rw [if_pos h1]
   go_wp2_with (at_builtin;refine wpList_append_lies _ rfl _ _ 51 rfl base 5 i5 _ 1 1 Tryz.underlying51 hi1 ha0 ha1 ha2 rfl (by decide) _ _ _ rfl (HB.out.alloc _) ⟨wr.heap.size,0,none⟩ 1 1 [.int .u8 (m:Int)] rfl rfl (World.news_of_block (heap_alloc_new wr _)) (fun x hx=>by simp at hx;subst hx;rfl) (by omega) (by rw [← HLL.out];unfold maxLen;omega) (by rw [← HLL.out];omega) (by simp;omega) (wr.heap.size+1) (by simp) ?_;intro gA capA w5 hownA hgrowA hatA hltA)
   have hq:=grew_one (l:=l2) HB.out (by omega) hownA hgrowA
   go_ret
   refine ⟨_,rfl,?_,HG.out.trans hq.2⟩
   rw [← HE.out,HV.out]
   exact hq.1
  ·have h1i:(128:Int)≤(m:Int):=by omega
   have b1:=and_high m
   obtain ⟨a,ha⟩:∃ a,a=m % 128:=⟨_,rfl⟩
   obtain ⟨c,hc⟩:∃ c,c=m / 128:=⟨_,rfl⟩
   have HV:Hid (vi m=[byt (a+128)]++vi c):=show _=_ by rw [ha,hc];exact vi_big h1 (by omega)
   have hal:a < 128:=by omega
   have hcl:c < m:=by omega
   have hcm:c+1≤m:=by omega
   rw [← ha] at b1
   have b2:=or_top a hal
   have HA:=hid ha
   have HC:=hid hc
   clear ha hc
   obtain ⟨k,hk⟩:∃ k,k=a+128:=⟨_,rfl⟩
   rw [← hk] at b2 HV
   have hk256:k < 256:=by omega
   clear hk
   go_wp2_with (at_builtin;refine wpList_append_lies _ rfl _ _ 51 rfl base 5 i5 _ 1 1 Tryz.underlying51 hi1 ha0 ha1 ha2 rfl (by decide) _ _ _ rfl (HB.out.alloc _) ⟨wr.heap.size,0,none⟩ 1 1 [.int .u8 (k:Int)] rfl rfl (World.news_of_block (heap_alloc_new wr _)) (fun x hx=>by simp at hx;subst hx;rfl) (by omega) (by rw [← HLL.out];unfold maxLen;omega) (by rw [← HLL.out];omega) (by simp;omega) (wr.heap.size+1) (by simp) ?_;intro gA capA w5 hownA hgrowA hatA hltA)
   have hq:=grew_one (l:=l2) HB.out hk256 hownA hgrowA
   have hci:(m:Int) / 128=(c:Int):=by have:=HC.out;omega
   rw [hci]
   refine ⟨⟨c,l2++[byt k],rfl,by omega,?_,hq.1,HG.out.trans hq.2,?_⟩,by simp [intOf];omega⟩
   ·have:=HL.out
    show _≤_
    simp
    omega
   ·show _=_
    rw [← HE.out,HV.out,List.append_assoc]
theorem byteCells_str (k:Bs):Lib.strCells ⟨k.toArray⟩=Lib.byteCells k:=rfl
set_option maxHeartbeats 1000000 in
set_option maxRecDepth 1000000 in
theorem appendName_any {w:World} {base:Nat} {v:Value} {l k:Bs} (h:BRow w base v l) (hb:base≤w.heap.size) (hk:k.length < 256) (hl:l.length≤30000000) :
 Calls Tryz.prog 240 #[v,lstV k] w fun e w'=>∃ v',e=.returned v'∧BRow w' base v' (l++nm k)∧Grew base w w':=by
 obtain ⟨i5,hi1,ha0,ha1,ha2⟩:=info_parts info5
 obtain ⟨gv,cv,ao,hv,_,_⟩:=ownsRow_shape h
 obtain ⟨ll,hll⟩:∃ ll,ll=l.length:=⟨_,rfl⟩
 rw [← hll] at hv
 have HLL:=hid hll
 rw [← hll] at hl
 have HB:=hid h
 subst hv
 clear hll h
 have hki:(k.length:Int) < 256:=by omega
 have hsz:(⟨k.toArray⟩:ByteArray).size=k.length:=by simp [ByteArray.size]
 have HSZ:=hid hsz
 clear hsz
 go_enter Tryz.func240,Tryz.ntmps240
 go_wp2_with (first
  | (at_builtin;refine wpList_append_lies _ rfl _ _ 51 rfl base 5 i5 _ 1 1 Tryz.underlying51 hi1 ha0 ha1 ha2 rfl (by decide) _ _ _ rfl (HB.out.alloc _) ⟨w.heap.size,0,none⟩ 1 1 [.int .u8 (k.length:Int)] rfl rfl (World.news_of_block (heap_alloc_new w _)) (fun x hx=>by simp at hx;subst hx;rfl) (by omega) (by rw [← HLL.out];unfold maxLen;omega) (by rw [← HLL.out];omega) (by simp;omega) (w.heap.size+1) (by simp) ?_;intro gA capA w5 hownA hgrowA hatA hltA;have hq:=hid (grew_one (l:=l) HB.out hk hownA hgrowA))
  | (at_builtin;refine Lib.wpList_append_own_string _ rfl _ _ 51 9 rfl base 5 i5 Tryz.underlying51 Tryz.underlying9 hi1 ha0 ha1 ha2 _ _ _ rfl hq.out.1 ⟨k.toArray⟩ rfl (by rw [HSZ.out];simp;rw [← HLL.out];unfold maxLen;omega) (by rw [HSZ.out];simp;rw [← HLL.out];omega) (Nat.le_trans hb hq.out.2.size) ?_;intro vB w6 hownB hgrowB hnilB))
 go_ret
 refine ⟨vB,rfl,?_,hq.out.2.trans (grew_of (l:=l++[byt k.length]) hq.out.1 hgrowB)⟩
 have e:l++nm k=(l++[byt k.length])++k:=by simp [nm]
 rw [e]
 unfold BRow
 rw [Lib.byteCells_append,List.length_append,← byteCells_str k,← HSZ.out]
 exact hownB
set_option maxHeartbeats 1000000 in
set_option maxRecDepth 1000000 in
theorem appendHead_any {w:World} {base x y z:Nat} {v:Value} {l:Bs} (h:BRow w base v l) (hb:base≤w.heap.size) (hx:x < 16384) (hy:y < 16384) (hz:z < 16384) (hl:l.length≤27000000) :
 Calls Tryz.prog 241 #[v,.agg #[natV x,natV y,natV z]] w fun e w'=>∃ v',e=.returned v'∧BRow w' base v' (l++vi x++vi y++vi z)∧Grew base w w':=by
 have h0:=h.alloc (.cells #[natV x,natV y,natV z] 295)
 have HN:=hid (heap_alloc_new w (.cells #[natV x,natV y,natV z] 295))
 have C1:=hid (appendVarint_any (n:=x) h0 (by simp;omega) hx (by omega))
 have HG0:=hid (Grew.ofAlloc (base:=base) w (.cells #[natV x,natV y,natV z] 295))
 obtain ⟨gv,cv,ao,hv,_,_⟩:=ownsRow_shape h
 obtain ⟨ll,hll⟩:∃ ll,ll=l.length:=⟨_,rfl⟩
 rw [← hll] at hv
 have hvx:=vi_le x
 have hvy:=vi_le y
 subst hv
 clear h h0
 have hlt:w.heap.size < (w.alloc (.cells #[natV x,natV y,natV z] 295)).heap.size:=by simp
 have HLT:=hid hlt
 have HLLQ:=hid hll
 clear hll hlt
 go_enter Tryz.func241,Tryz.ntmps241
 go_wp2_with (fail)
 refine C1.out.mono ?_
 generalize w.alloc (.cells #[natV x,natV y,natV z] 295)=w0 at *
 rintro e w1 ⟨v1,rfl,hB1,hG1⟩
 have hN1:=(hG1.block _ HLT.out (fun hz=>by obtain ⟨_,c,f,h2⟩:=hz;exact tag_ne HN.out h2 (by decide) rfl)).trans HN.out
 obtain ⟨k0,k1,k2,_⟩:=cell_three hN1
 have HG1:=hid (HG0.out.trans hG1)
 have C2:=hid (appendVarint_any (n:=y) hB1 (Nat.le_trans hb HG1.out.size) hy (by simp;omega))
 have hw1:=HG1.out.size
 have HN1:=hid hN1
 obtain ⟨g1,c1,a1,hv1,_,_⟩:=ownsRow_shape hB1
 obtain ⟨l1,hl1⟩:∃ ll,ll=(l++vi x).length:=⟨_,rfl⟩
 rw [← hl1] at hv1
 have hlt1:w.heap.size < w1.heap.size:=lt_of_block' hN1
 clear hl1 C1 hG1 hB1 hN1
 subst hv1
 go_wp2_with (fail)
 refine C2.out.mono ?_
 rintro e w2 ⟨v2,rfl,hB2,hG2⟩
 have hN2:=(hG2.block _ hlt1 (fun hz=>by obtain ⟨_,c,f,h2⟩:=hz;exact tag_ne HN1.out h2 (by decide) rfl)).trans HN1.out
 obtain ⟨j0,j1,j2,_⟩:=cell_three hN2
 have HG2:=hid (HG1.out.trans hG2)
 have C3:=hid (appendVarint_any (n:=z) hB2 (Nat.le_trans hb HG2.out.size) hz (by simp;omega))
 obtain ⟨g2,c2,a2,hv2,_,_⟩:=ownsRow_shape hB2
 obtain ⟨l3,hl3⟩:∃ ll,ll=(l++vi x++vi y).length:=⟨_,rfl⟩
 rw [← hl3] at hv2
 clear hl3 C2 hG2 hB2 hN2
 subst hv2
 go_wp2_with (fail)
 refine C3.out.mono ?_
 rintro e w3 ⟨v3,rfl,hB3,hG3⟩
 obtain ⟨g3,c3,a3,hv3,_,_⟩:=ownsRow_shape hB3
 obtain ⟨l4,hl4⟩:∃ ll,ll=(l++vi x++vi y++vi z).length:=⟨_,rfl⟩
 rw [← hl4] at hv3
 have HB3:=hid hB3
 clear hl4 C3 hB3
 subst hv3
 go_wp2
 go_ret
 exact ⟨_,rfl,HB3.out,HG2.out.trans hG3⟩
theorem pairB_at {ss rr:List Nat} {i x q:Nat} (h1:ss[i]?=some x) (h2:rr[i]?=some q):pairB (ss.drop i) (rr.drop i)=vi x++vi q++pairB (ss.drop (i+1)) (rr.drop (i+1)):=by
 rw [drop_at h1,drop_at h2];simp [pairB]
set_option maxHeartbeats 1000000 in
set_option maxRecDepth 1000000 in
theorem appendPairs_any {w:World} {base b2:Nat} {v vs vr:Value} {l:Bs} {ss rr:List Nat} (h:BRow w base v l) (hb:base≤w.heap.size) (hR:TwoRows w b2 vs vr ss rr) (hlr:rr.length=ss.length) (h4:ss.length≤4) (hs:∀ x∈ss,x < 16384) (hr:∀ x∈rr,x < 16384) (hl:l.length≤27000000) :
 Calls Tryz.prog 280 #[v,vs,vr] w fun e w'=>∃ v',e=.returned v'∧BRow w' base v' (l++pairB ss rr)∧Grew base w w':=by
 obtain ⟨gs,cs,ao1,hvs,_,hao1⟩:=ownsRow_shape hR.one
 obtain ⟨gr,cr,ao2,hvr,_,hao2⟩:=ownsRow_shape hR.two
 obtain ⟨k,hk⟩:∃ k,k=ss.length:=⟨_,rfl⟩
 rw [hlr] at hvr hao2
 rw [← hk] at hvs hvr hao1 hao2 h4
 have HR:=hid hR
 have HB:=hid h
 have HK:=hid hk
 have HLR:=hid (show rr.length=k by omega)
 have HS:=hid hs
 have HRR:=hid hr
 subst hvs hvr
 obtain ⟨gv,cv,ao,hv,_,_⟩:=ownsRow_shape h
 obtain ⟨ll,hll⟩:∃ ll,ll=l.length:=⟨_,rfl⟩
 rw [← hll] at hv
 subst hv
 clear h hR hk hs hr hlr hll
 go_enter Tryz.func280,Tryz.ntmps280
 go_wp2_with (fail)
 go_loopw [0,10] (fun s0 s10 wr=>∃ (u:Nat) (l2:Bs),s10=.int .i64 (u:Int)∧u≤k∧Hid (l2.length≤l.length+u * 4)∧Hid (BRow wr base s0 l2)∧Hid (Grew base w wr)∧Hid (l2++pairB (ss.drop u) (rr.drop u)=l++pairB ss rr)) (fun _ s10 _=>k - (intOf s10).toNat)
 case atStart=>exact ⟨0,l,rfl,by omega,by simp [Hid],HB,Turned.refl _ _,rfl⟩
 case round =>
  obtain ⟨u,l2,rfl,hu,HL,HBr,HG,HE⟩:=hrel
  obtain ⟨g3,c3,ao3,hv3,_,_⟩:=ownsRow_shape HBr.out
  obtain ⟨l3,hl3⟩:∃ ll,ll=l2.length:=⟨_,rfl⟩
  rw [← hl3] at hv3
  have hl2:=HL.out
  rw [← hl3] at hl2
  have HL3:=hid hl3
  subst hv3
  clear hl3
  have hszr:=HG.out.size
  by_cases hlt:u < k
  ·have hlti:(u:Int) < (k:Int):=by omega
   obtain rfl:=hao1 (by omega)
   obtain rfl:=hao2 (by omega)
   obtain ⟨x,hx⟩:∃ x,ss[u]?=some x:=⟨_,List.getElem?_eq_getElem (by rw [← HK.out];exact hlt)⟩
   obtain ⟨q,hq⟩:∃ q,rr[u]?=some q:=⟨_,List.getElem?_eq_getElem (by rw [HLR.out];exact hlt)⟩
   have hxl:=HS.out x (List.mem_of_getElem? hx)
   have hql:=HRR.out q (List.mem_of_getElem? hq)
   have r1:wr.ownsRow b2 3 1 (.slice (some ⟨gs,0,none⟩) k cs) k (ss.map natV):=by
    have:=HG.out.row HR.out.one (by decide)
    rw [← HK.out] at this
    exact this
   have r2:wr.ownsRow b2 3 1 (.slice (some ⟨gr,0,none⟩) k cr) k (rr.map natV):=by
    have:=HG.out.row HR.out.two (by decide)
    rw [HLR.out] at this
    exact this
   have d1:wr.cell? ⟨gs,u,none⟩=some (natV x):=by rw [r1.cellAt u (by omega)];simp [hx]
   have HE2:Hid (l2++vi x++vi q++pairB (ss.drop (u+1)) (rr.drop (u+1))=l++pairB ss rr):=show _=_ by
    rw [← HE.out,pairB_at hx hq];simp
   have R2:=hid r2
   have HQ:=hid hq
   have C1:=hid (appendVarint_any (n:=x) HBr.out (by omega) hxl (by rw [← HL3.out];omega))
   have hvx:=vi_le x
   have hvq:=vi_le q
   clear hx hq r1 r2
   go_wp2_with (fail)
   refine C1.out.mono ?_
   rintro e w1 ⟨v1,rfl,hB1,hG1⟩
   have HG1:=hid (HG.out.trans hG1)
   have d2:w1.cell? ⟨gr,u,none⟩=some (natV q):=by rw [(hG1.row R2.out (by decide)).cellAt u (by omega)];simp [HQ.out]
   have C2:=hid (appendVarint_any (n:=q) hB1 (Nat.le_trans hb HG1.out.size) hql (by simp;rw [← HL3.out];omega))
   obtain ⟨g4,c4,a4,hv4,_,_⟩:=ownsRow_shape hB1
   obtain ⟨l4,hl4⟩:∃ ll,ll=(l2++vi x).length:=⟨_,rfl⟩
   rw [← hl4] at hv4
   clear hl4 C1 hB1 hG1 d1
   subst hv4
   go_wp2_with (fail)
   refine C2.out.mono ?_
   rintro e w2 ⟨v2,rfl,hB2,hG2⟩
   have HG2:=hid (HG1.out.trans hG2)
   have HB2:=hid hB2
   obtain ⟨g5,c5,a5,hv5,_,_⟩:=ownsRow_shape hB2
   obtain ⟨l5,hl5⟩:∃ ll,ll=(l2++vi x++vi q).length:=⟨_,rfl⟩
   rw [← hl5] at hv5
   clear hl5 C2 hB2 hG2 d2
   subst hv5
   go_wp2_with (fail)
   go_roundw
   case rel =>
    refine ⟨u+1,l2++vi x++vi q,by go_num,by omega,?_,HB2,HG2,HE2⟩
    show _≤_
    simp
    rw [← HL3.out]
    omega
   case measure=>simp [intOf];omega
  ·have hlti:¬ ((u:Int) < (k:Int)):=by omega
   have HE2:Hid (l2=l++pairB ss rr):=show _=_ by
    rw [← HE.out,List.drop_eq_nil_of_le (by rw [← HK.out];omega)];simp [pairB]
   go_wp2
   go_ret
   refine ⟨_,rfl,?_,HG.out⟩
   rw [← HE2.out]
   exact HBr.out
end Go.Proofs.YtaacjjhmojecnaaGreatDoor
namespace Go.ScT
theorem wrd_snoc (w:Nat):∀ (a:List Nat) (n:Nat),wrd w (a++[n])=wrd w a+2 ^ (w * a.length) * n
 | [],n=>by simp [wrd]
 | x :: r,n=>by
   simp only [List.cons_append,wrd,wrd_snoc w r n,List.length_cons,Nat.mul_add,Nat.mul_succ,Nat.pow_add]
   rw [Nat.add_assoc,Nat.mul_left_comm,Nat.mul_assoc]
end Go.ScT
namespace Go.Proofs.YtaacjjhmojecnaaGreatDoor
open Go.RowKit Go.ScT Go.Proofs
theorem or_num (W n p:Nat) (hp:p≤24) (wid:Nat) (hw:wid≤8) (hn:n < 2 ^ wid) (hW:W < 2 ^ p):bits .or .u32 (W:Int) ((n:Int) * 2 ^ p % 4294967296)=((W+2 ^ p * n:Nat):Int)∧W+2 ^ p * n < 4294967296:=by
 have hw2:2 ^ wid≤256:=by have:=Nat.pow_le_pow_right (n:=2) (by omega) hw;omega
 have hp2:2 ^ p≤16777216:=by have:=Nat.pow_le_pow_right (n:=2) (by omega) hp;omega
 have hcp:n * 2 ^ p≤255 * 2 ^ p:=Nat.mul_le_mul_right _ (by omega)
 have hlt:W+2 ^ p * n < 4294967296:=by rw [Nat.mul_comm];omega
 refine ⟨?_,hlt⟩
 have e1:(n:Int) * 2 ^ p % 4294967296=((n * 2 ^ p:Nat):Int):=by
  have:((n * 2 ^ p:Nat):Int)=(n:Int) * 2 ^ p:=by simp
  rw [← this]
  omega
 rw [e1,u32_or_nat W (n * 2 ^ p) (by omega) (by omega),Nat.or_comm,nat_join p (n * 2 ^ p) W (Nat.mul_mod_left _ _) hW,Nat.mul_comm,Nat.add_comm]
theorem leB_step (k x:Nat) (hk:0 < k):leB k x=[byt (x % 256)]++leB (k - 1) (x / 256):=by
 obtain ⟨k,rfl⟩:∃ k',k=k'+1:=⟨k - 1,by omega⟩
 have:byt x=byt (x % 256):=by
  apply UInt8.toNat_inj.1
  rw [byt_toNat,byt_toNat];omega
 simp [leB,this]
set_option maxHeartbeats 1000000 in
set_option maxRecDepth 1000000 in
theorem appendPacked_any {w:World} {base b2 wid:Nat} {v vs:Value} {l:Bs} {ns:List Nat} (h:BRow w base v l) (hb:base≤w.heap.size) (hR:w.ownsRow b2 3 1 vs ns.length (ns.map natV)) (h4:ns.length=4) (hs:∀ x∈ns,x < 2 ^ wid) (hw:wid≤8) (hl:l.length≤27000000) :
 Calls Tryz.prog 282 #[v,vs,.int .i64 (wid:Int)] w fun e w'=>∃ v',e=.returned v'∧BRow w' base v' (l++pk wid ns)∧Grew base w w':=by
 obtain ⟨i5,hi1,ha0,ha1,ha2⟩:=info_parts info5
 obtain ⟨gs,cs,ao1,hvs,_,hao1⟩:=ownsRow_shape hR
 rw [h4] at hvs hao1 hR
 obtain rfl:=hao1 (by omega)
 subst hvs
 have HR:=hid hR
 have HB:=hid h
 have HS:=hid hs
 have H4:=hid h4
 obtain ⟨gv,cv,ao,hv,_,_⟩:=ownsRow_shape h
 obtain ⟨ll,hll⟩:∃ ll,ll=l.length:=⟨_,rfl⟩
 rw [← hll] at hv
 subst hv
 clear h hR h4 hs hao1 hll
 go_enter Tryz.func282,Tryz.ntmps282
 go_wp2_with (fail)
 go_loopw [7,12] (fun s7 s12 wr=>∃ (u W:Nat),s12=.int .i64 (u:Int)∧s7=.int .u32 (W:Int)∧u≤4∧W < 4294967296∧w=wr∧Hid (wrd wid (ns.take u)=W)) (fun _ s12 _=>4 - (intOf s12).toNat)
 case atStart=>exact ⟨0,0,rfl,rfl,by omega,by omega,rfl,hid (by simp [wrd])⟩
 case round =>
  obtain ⟨u,W,rfl,rfl,hu,hW,rfl,HW⟩:=hrel
  by_cases hlt:u < 4
  ·have hlti:(u:Int) < 4:=by omega
   obtain ⟨x,hx⟩:∃ x,ns[u]?=some x:=⟨_,List.getElem?_eq_getElem (by rw [H4.out];exact hlt)⟩
   have hxl:=HS.out x (List.mem_of_getElem? hx)
   have d1:w.cell? ⟨gs,u,none⟩=some (natV x):=by rw [HR.out.cellAt u (by omega)];simp [hx]
   have hum:u * wid≤24:=by
    have:u * wid≤3 * 8:=Nat.mul_le_mul (by omega) hw
    omega
   have hWp:W < 2 ^ (u * wid):=by
    rw [← HW.out]
    have:=wrd_lt wid (ns.take u) (fun n hn=>HS.out n (List.mem_of_mem_take hn))
    rw [List.length_take,H4.out,show min u 4=u by omega,Nat.mul_comm] at this
    exact this
   have hob:=or_num W x (u * wid) hum wid hw hxl hWp
   have hx256:x < 256:=by
    have:=Nat.pow_le_pow_right (n:=2) (by omega) hw
    omega
   have HV:Hid (wrd wid (ns.take (u+1))=W+2 ^ (u * wid) * x):=show _=_ by
    rw [List.take_add_one,hx]
    show wrd wid (ns.take u++[x])=_
    rw [wrd_snoc,HW.out,List.length_take,H4.out,show min u 4=u by omega,Nat.mul_comm wid u]
   clear hx
   go_wp2_with (fail)
   refine ⟨⟨u+1,W+2 ^ (u * wid) * x,by go_num,by simp,by omega,hob.2,trivial,HV⟩,by simp [intOf];omega⟩
  ·have hlti:¬ ((u:Int) < 4):=by omega
   obtain rfl:u=4:=by omega
   have HX:Hid (wrd wid ns=W):=show _=_ by rw [← HW.out,List.take_of_length_le (by rw [H4.out];omega)]
   have CP:=hid (fun w'=>packedSize_any wid (by omega) w')
   have hpz:=psz_le wid hw
   have HPK:Hid (pk wid ns=leB (psz wid) W):=show _=_ by unfold pk;rw [HX.out]
   generalize psz wid=K at *
   go_wp2_with (go_at_call 306;refine (CP.out _).mono ?_;rintro e w1 ⟨rfl,hh⟩;rw [hh];clear hh w1)
   go_loopw [0,7,28] (fun s0 s7 s28 wr=>∃ (j V:Nat) (l2:Bs),s28=.int .i64 (j:Int)∧s7=.int .u32 (V:Int)∧j≤K∧V < 4294967296∧Hid (l2.length=l.length+j)∧Hid (BRow wr base s0 l2)∧Hid (Grew base w wr)∧Hid (l2++leB (K - j) V=l++leB K W)) (fun _ _ s28 _=>K - (intOf s28).toNat)
   case atStart=>exact ⟨0,W,l,rfl,rfl,by omega,hW,rfl,HB,Turned.refl _ _,rfl⟩
   case round =>
    obtain ⟨j,V,l2,rfl,rfl,hj,hV,HL,HBr,HG,HE⟩:=hrel
    obtain ⟨g3,c3,ao3,hv3,_,_⟩:=ownsRow_shape HBr.out
    obtain ⟨l3,hl3⟩:∃ ll,ll=l2.length:=⟨_,rfl⟩
    rw [← hl3] at hv3
    have hl2:=HL.out
    rw [← hl3] at hl2
    have HL3:=hid hl3
    have HL2:=hid hl2
    have hl3b:l3≤27000010:=by omega
    subst hv3
    clear hl3 hl2
    have hszr:=HG.out.size
    by_cases hlt:j < K
    ·have hlti:(j:Int) < (K:Int):=by omega
     obtain ⟨m,hm⟩:∃ m,m=V % 256:=⟨_,rfl⟩
     have hm256:m < 256:=by omega
     have hmi:(V:Int) % 256=(m:Int):=by omega
     have HE2:Hid (l2++[byt m]++leB (K - (j+1)) (V / 256)=l++leB K W):=show _=_ by
      rw [← HE.out,leB_step (K - j) V (by omega),hm,Nat.sub_sub,List.append_assoc]
     clear hm
     go_wp2_with (at_builtin;refine wpList_append_lies _ rfl _ _ 51 rfl base 5 i5 _ 1 1 Tryz.underlying51 hi1 ha0 ha1 ha2 rfl (by decide) _ _ _ rfl (HBr.out.alloc _) ⟨wr.heap.size,0,none⟩ 1 1 [.int .u8 (m:Int)] rfl rfl (World.news_of_block (heap_alloc_new wr _)) (fun x hx=>by simp at hx;subst hx;rfl) (by omega) (by rw [← HL3.out];unfold maxLen;omega) (by rw [← HL3.out];omega) (by simp;omega) (wr.heap.size+1) (by simp) ?_;intro gA capA w5 hownA hgrowA hatA hltA)
     have hq:=grew_one (l:=l2) HBr.out hm256 hownA hgrowA
     refine ⟨⟨j+1,V / 256,l2++[byt m],by go_num,by simp,by omega,by omega,?_,hq.1,HG.out.trans hq.2,HE2⟩,by simp [intOf];omega⟩
     show _=_
     rw [List.length_append,← HL3.out,HL2.out]
     simp
     omega
    ·have hlti:¬ ((j:Int) < (K:Int)):=by omega
     have HE2:Hid (l2=l++pk wid ns):=show _=_ by
      rw [HPK.out,← HE.out,show K - j=0 by omega];simp [leB]
     go_wp2
     go_ret
     refine ⟨_,rfl,?_,HG.out⟩
     rw [← HE2.out]
     exact HBr.out
end Go.Proofs.YtaacjjhmojecnaaGreatDoor
