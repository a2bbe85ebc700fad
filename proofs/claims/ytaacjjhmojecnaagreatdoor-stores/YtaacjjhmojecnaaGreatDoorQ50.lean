import Derived.Test.YtaacjjhmojecnaaGreatDoorQ49
import Derived.Test.YtaacjjhmojecnaaGreatDoorP04
import Derived.BigQuiet
import Derived.Deep.QuietTactic
import Derived.Test.YtaacjjhmojecnaaGreatDoorQ37
namespace Go.Proofs.YtaacjjhmojecnaaGreatDoor
open Go.RowKit Go.ScT Go.Proofs
set_option maxHeartbeats 1000000 in
theorem pick256 (c:Int) (h1:-9223372036854775808≤c) (h2:c≤9223372036854775807):∃ i:Nat,i < 256∧∀ w,Calls Tryz.prog 64 #[.int .i64 c,.int .i64 256] w fun e w'=>e=.returned (.int .i64 (i:Int))∧w'=w:=by
 have fin:∀ x:Int,0≤x→∃ i:Nat,x.tmod 256=(i:Int)∧i < 256:=fun x hx=>by
  obtain ⟨m,rfl⟩:=Int.eq_ofNat_of_zero_le hx
  exact ⟨m % 256,(Int.ofNat_tmod m 256).symm,Nat.mod_lt _ (by decide)⟩
 by_cases hc:c < 0
 ·obtain ⟨i,hi1,hi2⟩:=fin (-(c+1)) (by omega)
  rw [Int.neg_tmod] at hi1
  refine ⟨i,hi2,fun w=>?_⟩
  go_enter Tryz.func64,Tryz.ntmps64
  go_wp2
  go_ret
  exact ⟨by rw [← hi1];rfl,rfl⟩
 ·obtain ⟨i,hi1,hi2⟩:=fin c (by omega)
  refine ⟨i,hi2,fun w=>?_⟩
  go_enter Tryz.func64,Tryz.ntmps64
  go_wp2
  go_ret
  exact ⟨by rw [← hi1];rfl,rfl⟩
set_option maxHeartbeats 2000000 in
set_option maxRecDepth 1000000 in
theorem turned_any (s:ByteArray) (a c:Int) (w:World) (hs:s.size≤60000) (h1:-9223372036854775808≤c) (h2:c≤9223372036854775807) :
 Calls Tryz.prog 117 #[.string s,.int .i64 a,.int .i64 c] w fun e w'=>∃ u:ByteArray,e=.returned (.string u)∧u.size≤maxLen∧Below w.heap.size w w':=by
 by_cases ha:a < 0
 ·go_enter Tryz.func117,Tryz.ntmps117
  go_wp2
  go_ret
  exact ⟨s,rfl,by unfold maxLen;omega,Below.refl _ _⟩
 by_cases hb:(s.size:Int)≤a
 ·go_enter Tryz.func117,Tryz.ntmps117
  go_wp2
  go_ret
  exact ⟨s,rfl,by unfold maxLen;omega,Below.refl _ _⟩
 obtain ⟨k,rfl⟩:=Int.eq_ofNat_of_zero_le (by omega:0≤a)
 have hk:k < s.size:=by omega
 obtain ⟨i,hi,CP⟩:=pick256 c h1 h2
 have HCP:=hid CP
 have hx:s[k].toNat < 256:=UInt8.toNat_lt s[k]
 clear CP ha hb h1 h2
 go_enter Tryz.func117,Tryz.ntmps117
 go_wp2_with (fail)
 go_quiet ((go_at_call 64;exact Calls.quiet_of_same (HCP.out _)))
 go_wp2_with (fail)
 obtain ⟨x,hz⟩:∃ x:UInt8,(x.toNat:Int)=((s[k].toNat:Int)+(i:Int)) % 256:=⟨UInt8.ofNat (s[k].toNat+i),by simp⟩
 generalize ((s[k].toNat:Int)+(i:Int)) % 256=z at hz ⊢
 have hk':k≤s.size:=by omega
 have hk2:k+1≤s.size:=by omega
 have hbel:Below w.heap.size w (w.drewN nq):=by
  have:=(Turned.refl (fun _=>False) w).ofDrew nq
  exact ⟨this.os,this.tape,this.output,this.size,fun b hb=>this.block b hb (fun h=>h)⟩
 have HB:=hid hbel
 clear HCP hbel hx hi
 generalize (w.drewN nq)=w1 at *
 have hcv:(convert 51 9 (.slice (some ⟨w1.heap.size,0,none⟩) 1 1)).run Tryz.prog (w1.alloc (.cells #[.int .u8 z] 5)).drew=.ok (.string ⟨#[x]⟩) (w1.alloc (.cells #[.int .u8 z] 5)).drew:=conv_one z x hz w1.drew
 go_region
 all_goals
  go_wp2
  go_ret
  refine ⟨_,rfl,?_,(HB.out.alloc (by have:=HB.out.size;omega) _).drew⟩
  have e1:(⟨#[x]⟩:ByteArray).size=1:=rfl
  rw [ByteArray.size_append,ByteArray.size_append,ByteArray.size_extract,ByteArray.size_extract,e1]
  unfold maxLen
  omega
theorem dump_len {ss:List Bs} (h:∀ s∈ss,s.length≤60000) (n:Int):(dumpRes ss n).1.length≤60000:=by
 unfold dumpRes
 split
 ·simp
 ·split
  ·rename_i s hs
   exact h s (List.mem_of_getElem? hs)
  ·simp
theorem boxes_op {w w3:World} {p:Pr} {k a b c:Int} {K S:List UInt8} (t:Below ((w.alloc (prBox p)).alloc (opBox k (.int .i64 a) (.int .i64 b) (.int .i64 c) K S)).heap.size ((w.alloc (prBox p)).alloc (opBox k (.int .i64 a) (.int .i64 b) (.int .i64 c) K S)) w3) :
 w3.cell? ⟨w.heap.size,1,none⟩=some (.pointer (some ⟨p.y,0,none⟩))∧w3.cell? ⟨w.heap.size+1,1,none⟩=some (.int .i64 a)∧w3.cell? ⟨w.heap.size+1,2,none⟩=some (.int .i64 b)∧w3.cell? ⟨w.heap.size+1,3,none⟩=some (.int .i64 c):=by
 have n1:=heap_alloc_new w (prBox p)
 have n2:=heap_alloc_new (w.alloc (prBox p)) (opBox k (.int .i64 a) (.int .i64 b) (.int .i64 c) K S)
 rw [show (w.alloc (prBox p)).heap.size=w.heap.size+1 by simp] at n2
 have n1':((w.alloc (prBox p)).alloc (opBox k (.int .i64 a) (.int .i64 b) (.int .i64 c) K S)).heap[w.heap.size]?=some (prBox p):=by
  rw [Below.heap_alloc _ _ _ (by simp)];exact n1
 have e1:=t.block w.heap.size (by simp;omega)
 have e2:=t.block (w.heap.size+1) (by simp)
 refine ⟨?_,?_,?_,?_⟩
 ·rw [World.cell?_of_block (a:=⟨w.heap.size,1,none⟩) e1];exact cell_of_row _ _ _ _ _ _ n1'
 ·rw [World.cell?_of_block (a:=⟨w.heap.size+1,1,none⟩) e2];exact cell_of_row _ _ _ _ _ _ n2
 ·rw [World.cell?_of_block (a:=⟨w.heap.size+1,2,none⟩) e2];exact cell_of_row _ _ _ _ _ _ n2
 ·rw [World.cell?_of_block (a:=⟨w.heap.size+1,3,none⟩) e2];exact cell_of_row _ _ _ _ _ _ n2
theorem pair_below {w w4:World} {B:Nat} {p:Pr} (h:PairOk w B p) (hb:Below w.heap.size w w4):KeptDone w B p (.returned (.bool true)) w4 :=
 ⟨rfl,⟨p,rfl,rfl,h.turned (Turned.ofBelow (Z:=fun _=>False) hb) (fun _ _ hf=>hf),fun _ hb=>Or.inl hb⟩,Turned.ofBelow hb⟩
set_option maxHeartbeats 1000000 in
set_option maxRecDepth 1000000 in
theorem told_dump (a b c:Int) (K S:List UInt8) (w:World) (B:Nat) (p:Pr) (h:PairOk w B p) :
 Calls Tryz.prog 65 #[.agg #[.pointer (some ⟨p.x,0,none⟩),.pointer (some ⟨p.y,0,none⟩)],.agg #[.int .i64 10,.int .i64 a,.int .i64 b,.int .i64 c,.string ⟨K.toArray⟩,.string ⟨S.toArray⟩]] w (KeptDone w B p):=by
 have hbb:=boxes_below w p 10 (.int .i64 a) (.int .i64 b) (.int .i64 c) K S
 have h2:=h.turned (Turned.ofBelow (Z:=fun _=>False) hbb) (fun _ _ hf=>hf)
 have hfew:=h.inv.few
 have hbl:(bytesOf p.E p.Ws).length≤1000:=by simp [bytesOf];omega
 have C25:Hid (Calls Tryz.prog 25 #[.pointer (some ⟨p.x,0,none⟩),.int .i64 b] ((w.alloc (prBox p)).alloc (opBox 10 (.int .i64 a) (.int .i64 b) (.int .i64 c) K S)) fun en w'=>en=.returned (.tuple #[lstV (dumpRes (bytesOf p.E p.Ws) b).1,.int .i64 (dumpRes (bytesOf p.E p.Ws) b).2])∧w'=((w.alloc (prBox p)).alloc (opBox 10 (.int .i64 a) (.int .i64 b) (.int .i64 c) K S))):=dumpX_any h2.eng b hbl
 have C116:Hid (Calls Tryz.prog 116 #[.pointer (some ⟨p.y,0,none⟩),.int .i64 b] ((w.alloc (prBox p)).alloc (opBox 10 (.int .i64 a) (.int .i64 b) (.int .i64 c) K S)) fun en w'=>en=.returned (.tuple #[lstV (dumpRes (bytesOf p.E p.Ws) b).1,.int .i64 (dumpRes (bytesOf p.E p.Ws) b).2])∧Below ((w.alloc (prBox p)).alloc (opBox 10 (.int .i64 a) (.int .i64 b) (.int .i64 c) K S)).heap.size ((w.alloc (prBox p)).alloc (opBox 10 (.int .i64 a) (.int .i64 b) (.int .i64 c) K S)) w'):=refDumpE_any h2.ref h2.inv.most (by omega) b h2.inv.good
 have CN:Hid (∀ (x:Int) (w:World),Calls Tryz.prog 34 #[.int .i64 x] w fun e w'=>e=.returned (.int .i64 x)∧w'=w):=num_any
 have HH:Hid (PairOk w B p):=h
 have HBB:=hid hbb
 generalize (dumpRes (bytesOf p.E p.Ws) b).1=T at C25 C116
 generalize (dumpRes (bytesOf p.E p.Ws) b).2=R at C25 C116
 have hRR:(R == R)=true:=by simp
 clear h h2 hfew hbl hbb
 go_enter Tryz.func65,Tryz.ntmps65
 go_wp2_with (first
  | (go_at_call 25;refine C25.out.mono ?_;rintro en w3 ⟨rfl,hw3⟩;rw [hw3];clear hw3 w3)
  | (go_at_call 116;refine C116.out.mono ?_;rintro en w4 ⟨rfl,hb4⟩)
  | (go_at_call 34;refine (CN.out _ _).mono ?_;rintro en w5 ⟨rfl,hw5⟩;rw [hw5];clear hw5 w5))
 go_ret
 exact pair_below HH.out (HBB.out.trans (hb4.mono HBB.out.size))
set_option maxHeartbeats 1000000 in
set_option maxRecDepth 1000000 in
theorem told_reopen (a b c:Int) (K S:List UInt8) (w:World) (B:Nat) (A:Nat→Addr) (p:Pr) (hS:Sent w A B) (h:PairOk w B p) (ha1:-9223372036854775808≤a) (ha2:a≤9223372036854775807) :
 Calls Tryz.prog 65 #[.agg #[.pointer (some ⟨p.x,0,none⟩),.pointer (some ⟨p.y,0,none⟩)],.agg #[.int .i64 11,.int .i64 a,.int .i64 b,.int .i64 c,.string ⟨K.toArray⟩,.string ⟨S.toArray⟩]] w (KeptDone w B p):=by
 have hbb:=boxes_below w p 11 (.int .i64 a) (.int .i64 b) (.int .i64 c) K S
 have h2:=h.turned (Turned.ofBelow (Z:=fun _=>False) hbb) (fun _ _ hf=>hf)
 have hfew:=h.inv.few
 have hbl:(bytesOf p.E p.Ws).length≤1000:=by simp [bytesOf];omega
 have hdl:(dumpRes (bytesOf p.E p.Ws) b).1.length≤60000:=dump_len (fun s hs=>by
  rw [bytesOf_map] at hs
  obtain ⟨l,hl,rfl⟩:=List.mem_map.1 hs
  exact (h.inv.fits l hl).2) b
 have C25:Hid (Calls Tryz.prog 25 #[.pointer (some ⟨p.x,0,none⟩),.int .i64 b] ((w.alloc (prBox p)).alloc (opBox 11 (.int .i64 a) (.int .i64 b) (.int .i64 c) K S)) fun en w'=>en=.returned (.tuple #[lstV (dumpRes (bytesOf p.E p.Ws) b).1,.int .i64 (dumpRes (bytesOf p.E p.Ws) b).2])∧w'=((w.alloc (prBox p)).alloc (opBox 11 (.int .i64 a) (.int .i64 b) (.int .i64 c) K S))):=dumpX_any h2.eng b hbl
 have C117:Hid (Calls Tryz.prog 117 #[lstV (dumpRes (bytesOf p.E p.Ws) b).1,.int .i64 c,.int .i64 a] ((w.alloc (prBox p)).alloc (opBox 11 (.int .i64 a) (.int .i64 b) (.int .i64 c) K S)) fun e w'=>∃ u:ByteArray,e=.returned (.string u)∧u.size≤maxLen∧Below ((w.alloc (prBox p)).alloc (opBox 11 (.int .i64 a) (.int .i64 b) (.int .i64 c) K S)).heap.size ((w.alloc (prBox p)).alloc (opBox 11 (.int .i64 a) (.int .i64 b) (.int .i64 c) K S)) w'):=turned_any _ c a _ (by simpa [ByteArray.size] using hdl) ha1 ha2
 have CP:Hid (∀ w' l,l.length≤maxLen→Sent w' A B→Calls Tryz.prog 26 #[lstV l] w' fun e w''=>e=.returned (.tuple #[lstV (rOpen l).1,.int .i64 ((rOpen l).2:Int)])∧Below w'.heap.size w' w''):=fun w' l hl h=>progOpen h hl
 have CR:Hid (∀ w' l,l.length≤maxLen→Calls Tryz.prog 35 #[lstV l] w' fun e w''=>e=.returned (.tuple #[lstV (rOpen l).1,.int .i64 ((rOpen l).2:Int)])∧Below w'.heap.size w' w''):=fun w' l hl=>openL_any w' l hl
 have CN:Hid (∀ (x:Int) (w:World),Calls Tryz.prog 34 #[.int .i64 x] w fun e w'=>e=.returned (.int .i64 x)∧w'=w):=num_any
 have HH:Hid (PairOk w B p):=h
 have HS2:=hid (hS.below hbb)
 have HBB:=hid hbb
 generalize (dumpRes (bytesOf p.E p.Ws) b).1=T at C25 C117
 generalize (dumpRes (bytesOf p.E p.Ws) b).2=R at C25
 clear h h2 hfew hbl hbb hS hdl ha1 ha2
 go_enter Tryz.func65,Tryz.ntmps65
 go_wp2_with (first
  | (go_at_call 25;refine C25.out.mono ?_;rintro en w3 ⟨rfl,hw3⟩;rw [hw3];clear hw3 w3)
  | (go_at_call 117;refine C117.out.mono ?_;rintro en w4 ⟨u,rfl,hu,hb4⟩;obtain ⟨l,hl⟩:∃ l:Bs,u=⟨l.toArray⟩:=⟨u.data.toList,by simp⟩;subst hl;have hll:l.length≤maxLen:=(by simpa [ByteArray.size] using hu);have HU:=hid hll;clear hu hll)
  | (go_at_call 26;refine (CP.out _ _ HU.out (HS2.out.below hb4)).mono ?_;rintro en w5 ⟨rfl,hb5⟩)
  | (go_at_call 35;refine (CR.out _ _ HU.out).mono ?_;rintro en w6 ⟨rfl,hb6⟩)
  | (go_at_call 34;refine (CN.out _ _).mono ?_;rintro en w7 ⟨rfl,hw7⟩;rw [hw7];clear hw7 w7))
 go_ret
 have h4:=HBB.out.trans (hb4.mono HBB.out.size)
 have h5:=h4.trans (hb5.mono h4.size)
 exact pair_below HH.out (h5.trans (hb6.mono h5.size))
set_option maxHeartbeats 1000000 in
set_option maxRecDepth 1000000 in
theorem textsOpen {base:Nat} {A:Nat→Addr} (a b c:Value) (K S:ByteArray) (w:World) (hS:Sent w A base) (hm:S.size≤maxLen) :
 Calls Tryz.prog 14 #[.agg #[.int .i64 6,a,b,c,.string K,.string S]] w fun e w'=>e=.returned (.bool true)∧Below w.heap.size w w':=by
 obtain ⟨l,hl⟩:∃ l,S=⟨l.toArray⟩:=⟨S.data.toList,by simp⟩
 subst hl
 have hll:l.length≤maxLen:=by simpa [ByteArray.size] using hm
 have HS:=hid hS
 have CP:Hid (∀ w',Sent w' A base→Calls Tryz.prog 26 #[lstV l] w' fun e w''=>e=.returned (.tuple #[lstV (rOpen l).1,.int .i64 ((rOpen l).2:Int)])∧Below w'.heap.size w' w''):=fun w' h=>progOpen h hll
 have CR:Hid (∀ w',Calls Tryz.prog 35 #[lstV l] w' fun e w''=>e=.returned (.tuple #[lstV (rOpen l).1,.int .i64 ((rOpen l).2:Int)])∧Below w'.heap.size w' w''):=fun w'=>openL_any w' l hll
 generalize (rOpen l).1=t at *
 generalize ((rOpen l).2:Int)=n at *
 have hB0:=(Below.refl w.heap.size w).alloc (Nat.le_refl _) (.cells #[.int .i64 6,a,b,c,.string K,.string ⟨l.toArray⟩] 24)
 have HS0:=hid (HS.out.below hB0)
 have HB0:=hid hB0
 clear hm hll hS hB0
 go_enter Tryz.func14,Tryz.ntmps14
 go_wp2_with (fail)
 refine (CP.out _ HS0.out).mono ?_
 rintro e w1 ⟨rfl,hb1⟩
 have hc5:=hb1.cell (p:=⟨w.heap.size,5,none⟩) (by simp)
 simp at hc5
 go_wp2_with (fail)
 refine (CR.out _).mono ?_
 rintro e w2 ⟨rfl,hb2⟩
 go_wp2
 go_ret
 exact ⟨rfl,(HB0.out.trans (hb1.mono (by simp))).trans (hb2.mono (Nat.le_trans (by simp) hb1.size))⟩
end Go.Proofs.YtaacjjhmojecnaaGreatDoor
namespace Go.Proofs.YtaacjjhmojecnaaGreatDoor
open Go.RowKit Go.ScT Go.Proofs Go.Shelf
theorem pairCells_set:∀ (ps:List Pr) (i:Nat) (p p':Pr),ps[i]?=some p→p'.x=p.x→p'.y=p.y→pairCells (ps.set i p')=pairCells ps
 | [],i,p,p',h,_,_=>by simp at h
 | q :: r,0,p,p',h,hx,hy=>by
   simp at h
   subst h
   simp [pairCells,hx,hy]
 | q :: r,i+1,p,p',h,hx,hy=>by
   have ih:=pairCells_set r i p p' (by simpa using h) hx hy
   simp only [pairCells,List.set_cons_succ,List.flatMap_cons] at ih ⊢
   rw [ih]
theorem law_kept {w w':World} {B L:Nat} {v:Value} {ps:List Pr} {i:Nat} {p:Pr} {en:Ending} (h:LawOk w B L v ps) (hp:ps[i]?=some p) (hd:KeptDone w B p en w') :
 en=.returned (.bool true)∧(∃ v' ps',LawOk w' B L v' ps'∧ps'.length≤ps.length+1)∧Below B w w':=by
 obtain ⟨he,⟨p',hx,hy,hP',hz'⟩,ht⟩:=hd
 have hLl:=lt_of_block h.cell
 have hil:=(List.getElem?_eq_some_iff.1 hp).1
 have vlt:∀ g,v.ownBlock=some g→g < w.heap.size:=fun g hg=>by
  obtain ⟨cu,bq⟩:=ownsRow_block h.own hg
  exact lt_of_block bq
 have getp:∀ (j:Nat) (q:Pr),(ps.set i p')[j]?=some q→(i=j∧q=p')∨(i≠j∧ps[j]?=some q):=by
  intro j q hq
  by_cases e:i=j
  ·subst e
   rw [List.getElem?_set_self hil] at hq
   cases hq
   exact Or.inl ⟨rfl,rfl⟩
  ·rw [List.getElem?_set_ne e] at hq
   exact Or.inr ⟨e,hq⟩
 refine ⟨he,⟨v,ps.set i p',⟨(ht.block L hLl (h.zL i p hp)).trans h.cell,h.lB,?_,?_,?_,?_,?_⟩,by simp⟩,?_⟩
 ·rw [pairCells_set ps i p p' hp hx hy,List.length_set]
  exact ownsRow_turned h.own ht (fun g hg=>h.zv i p g hp hg)
 ·intro j q hq
  rcases getp j q hq with ⟨_,rfl⟩ | ⟨e,hq⟩
  ·exact hP'
  ·exact (h.each j q hq).turned ht (fun b hb hb'=>h.apart j i q p hq hp (Ne.symm e) b hb hb')
 ·intro j k q r hq hr hjk b hb hb'
  rcases getp j q hq with ⟨ej,eq⟩ | ⟨ej,hq2⟩ <;> rcases getp k r hr with ⟨ek,er⟩ | ⟨ek,hr2⟩
  ·omega
  ·rw [eq] at hb
   rcases hz' b hb with hb | hb
   ·exact h.apart i k p r hp hr2 ek b hb hb'
   ·have:=((h.each k r hr2).lt b hb').2
    omega
  ·rw [er] at hb'
   rcases hz' b hb' with hb' | hb'
   ·exact h.apart j i q p hq2 hp (Ne.symm ej) b hb hb'
   ·have:=((h.each j q hq2).lt b hb).2
    omega
  ·exact h.apart j k q r hq2 hr2 hjk b hb hb'
 ·intro j q hq hz
  rcases getp j q hq with ⟨_,rfl⟩ | ⟨_,hq⟩
  ·rcases hz' L hz with hz | hz
   ·exact h.zL i p hp hz
   ·omega
  ·exact h.zL j q hq hz
 ·intro j q g hq hg hz
  rcases getp j q hq with ⟨_,rfl⟩ | ⟨_,hq⟩
  ·rcases hz' g hz with hz | hz
   ·exact h.zv i p g hp hg hz
   ·have:=vlt g hg
    omega
  ·exact h.zv j q g hq hg hz
 ·exact ⟨ht.os,ht.tape,ht.output,ht.size,fun b hb=>by
   by_cases hbl:b < w.heap.size
   ·exact ht.block b hbl (fun hz=>by have:=((h.each i p hp).lt b hz).1;omega)
   ·have hlB:=h.lB
    omega⟩
def StepDone (B L n:Nat) (w:World) (en:Ending) (w':World):Prop:=en=.returned (.bool true)∧(∃ v' ps',LawOk w' B L v' ps'∧ps'.length≤n+1)∧Below B w w'
abbrev opV (k c:Int) (y z:Value) (K S:List UInt8):Value:=.agg #[.int .i64 k,.int .i64 c,y,z,.string ⟨K.toArray⟩,.string ⟨S.toArray⟩]
theorem LawOk.below {w w':World} {B L:Nat} {v:Value} {ps:List Pr} (h:LawOk w B L v ps) (hb:Below w.heap.size w w'):LawOk w' B L v ps :=
 h.turned (Turned.ofBelow (Z:=fun _=>False) hb) (fun h=>h) (fun _ _ h=>h) (fun _ _ _ _ _ h=>h)
set_option maxHeartbeats 1000000 in
set_option maxRecDepth 1000000 in
theorem step_tokens (c:Int) (y z:Value) (K S:List UInt8) (w:World) (B L:Nat) (v:Value) (ps:List Pr) (h:LawOk w B L v ps) (hBw:B≤w.heap.size) (hS:S.length≤maxLen) :
 Calls Tryz.prog 37 #[.pointer (some ⟨L,0,none⟩),opV 1 c y z K S] w (StepDone B L ps.length w):=by
 have CT:Hid (Calls Tryz.prog 14 #[opV 1 c y z K S] (w.alloc (.cells #[.int .i64 1,.int .i64 c,y,z,.string ⟨K.toArray⟩,.string ⟨S.toArray⟩] 24)) fun e w'=>e=.returned (.bool true)∧Below (w.alloc (.cells #[.int .i64 1,.int .i64 c,y,z,.string ⟨K.toArray⟩,.string ⟨S.toArray⟩] 24)).heap.size (w.alloc (.cells #[.int .i64 1,.int .i64 c,y,z,.string ⟨K.toArray⟩,.string ⟨S.toArray⟩] 24)) w'):=texts_any _ y z ⟨K.toArray⟩ ⟨S.toArray⟩ _ (by show S.toArray.size≤maxLen;simpa using hS)
 have H:Hid (LawOk w B L v ps):=h
 clear h
 go_enter Tryz.func37,Tryz.ntmps37
 go_wp2_with (go_at_call 14;refine CT.out.mono ?_;rintro en w2 ⟨rfl,hb2⟩)
 go_ret
 have hb:Below w.heap.size w w2:=((Below.refl _ w).alloc (Nat.le_refl _) _).trans (hb2.mono (by simp))
 exact ⟨rfl,⟨v,ps,H.out.below hb,by omega⟩,hb.mono hBw⟩
set_option maxHeartbeats 1000000 in
set_option maxRecDepth 1000000 in
theorem step_new (c:Int) (y z:Value) (K S:List UInt8) (w:World) (B L:Nat) (v:Value) (ps:List Pr) (h:LawOk w B L v ps) (hBw:B≤w.heap.size) (hl:(ps.length+1) * 16≤140737488355328) :
 Calls Tryz.prog 37 #[.pointer (some ⟨L,0,none⟩),opV 2 c y z K S] w (StepDone B L ps.length w):=by
 have hb:Below w.heap.size w (w.alloc (.cells #[.int .i64 2,.int .i64 c,y,z,.string ⟨K.toArray⟩,.string ⟨S.toArray⟩] 24)):=(Below.refl _ w).alloc (Nat.le_refl _) _
 have CM:Hid (Calls Tryz.prog 36 #[.pointer (some ⟨L,0,none⟩)] (w.alloc (.cells #[.int .i64 2,.int .i64 c,y,z,.string ⟨K.toArray⟩,.string ⟨S.toArray⟩] 24)) fun en w'=>en=.returned (.bool true)∧(∃ v' ps',LawOk w' B L v' ps'∧ps'.length=ps.length+1)∧Below B (w.alloc (.cells #[.int .i64 2,.int .i64 c,y,z,.string ⟨K.toArray⟩,.string ⟨S.toArray⟩] 24)) w'):=made_any _ B L v ps (h.below hb) (by simp;omega) hl
 clear h
 go_enter Tryz.func37,Tryz.ntmps37
 go_wp2_with (go_at_call 36;refine CM.out.mono ?_;rintro en w2 ⟨rfl,hL2,hb2⟩)
 go_ret
 obtain ⟨v',ps',h1,h2⟩:=hL2
 exact ⟨rfl,⟨v',ps',h1,by omega⟩,(hb.mono hBw).trans hb2⟩
set_option maxHeartbeats 1000000 in
set_option maxRecDepth 1000000 in
theorem step_none (k c:Int) (y z:Value) (K S:List UInt8) (w:World) (B L:Nat) (v:Value) (ps:List Pr) (h:LawOk w B L v ps) (hBw:B≤w.heap.size) (hk6:k≠6) (hk1:k≠1) (hk2:k≠2) (hn:ps.length=0∨k < 2) :
 Calls Tryz.prog 37 #[.pointer (some ⟨L,0,none⟩),opV k c y z K S] w (StepDone B L ps.length w):=by
 have hb:Below w.heap.size w (w.alloc (.cells #[.int .i64 k,.int .i64 c,y,z,.string ⟨K.toArray⟩,.string ⟨S.toArray⟩] 24)):=(Below.refl _ w).alloc (Nat.le_refl _) _
 obtain ⟨gv,capv,aov,rfl,_,_⟩:=ownsRow_shape h.own
 have c0:(w.alloc (.cells #[.int .i64 k,.int .i64 c,y,z,.string ⟨K.toArray⟩,.string ⟨S.toArray⟩] 24)).cell? ⟨L,0,none⟩=some (.slice aov ps.length capv):=by
  rw [cell_of_row _ _ _ _ _ _ (h.below hb).cell];rfl
 have H:Hid (LawOk (w.alloc (.cells #[.int .i64 k,.int .i64 c,y,z,.string ⟨K.toArray⟩,.string ⟨S.toArray⟩] 24)) B L (.slice aov ps.length capv) ps):=h.below hb
 have b1:(k == 1)=false:=beq_eq_false_iff_ne.2 hk1
 have b2:(k == 2)=false:=beq_eq_false_iff_ne.2 hk2
 have b6:(k == 6)=false:=beq_eq_false_iff_ne.2 hk6
 clear h hk1 hk2
 by_cases hl:ps.length=0
 ·have hl0:=slice_eq_zero hl
  clear hn
  go_enter Tryz.func37,Tryz.ntmps37
  go_wp2
  go_ret
  exact ⟨rfl,⟨_,ps,H.out,by omega⟩,hb.mono hBw⟩
 ·have hl0:=slice_ne_zero hl
  have hk:k < 2:=hn.resolve_left hl
  go_enter Tryz.func37,Tryz.ntmps37
  go_wp2
  go_ret
  exact ⟨rfl,⟨_,ps,H.out,by omega⟩,hb.mono hBw⟩
theorem Sent.belowB {w w':World} {A:Nat→Addr} {B:Nat} (h:Sent w A B) (hb:Below B w w'):Sent w' A B :=
 h.turned (Z:=fun b=>B≤b) ⟨hb.os,hb.tape,hb.output,hb.size,fun b _ hz=>hb.block b (by omega)⟩ (fun i hi hz=>by omega)
set_option maxHeartbeats 1000000 in
set_option maxRecDepth 1000000 in
theorem step_open (c:Int) (y z:Value) (K S:List UInt8) (w:World) (B L:Nat) (A:Nat→Addr) (v:Value) (ps:List Pr) (hSe:Sent w A B) (h:LawOk w B L v ps) (hBw:B≤w.heap.size) (hS:S.length≤maxLen) :
 Calls Tryz.prog 37 #[.pointer (some ⟨L,0,none⟩),opV 6 c y z K S] w (StepDone B L ps.length w):=by
 have hb0:Below w.heap.size w (w.alloc (.cells #[.int .i64 6,.int .i64 c,y,z,.string ⟨K.toArray⟩,.string ⟨S.toArray⟩] 24)):=(Below.refl _ w).alloc (Nat.le_refl _) _
 have CT:Hid (Calls Tryz.prog 14 #[opV 6 c y z K S] (w.alloc (.cells #[.int .i64 6,.int .i64 c,y,z,.string ⟨K.toArray⟩,.string ⟨S.toArray⟩] 24)) fun e w'=>e=.returned (.bool true)∧Below (w.alloc (.cells #[.int .i64 6,.int .i64 c,y,z,.string ⟨K.toArray⟩,.string ⟨S.toArray⟩] 24)).heap.size (w.alloc (.cells #[.int .i64 6,.int .i64 c,y,z,.string ⟨K.toArray⟩,.string ⟨S.toArray⟩] 24)) w'):=textsOpen _ y z ⟨K.toArray⟩ ⟨S.toArray⟩ _ (hSe.below hb0) (by show S.toArray.size≤maxLen;simpa using hS)
 have H:Hid (LawOk w B L v ps):=h
 clear h hSe hb0
 go_enter Tryz.func37,Tryz.ntmps37
 go_wp2_with (go_at_call 14;refine CT.out.mono ?_;rintro en w2 ⟨rfl,hb2⟩)
 go_ret
 have hb:Below w.heap.size w w2:=((Below.refl _ w).alloc (Nat.le_refl _) _).trans (hb2.mono (by simp))
 exact ⟨rfl,⟨v,ps,H.out.below hb,by omega⟩,hb.mono hBw⟩
end Go.Proofs.YtaacjjhmojecnaaGreatDoor
