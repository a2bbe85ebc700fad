import Derived.Test.YtaacjjhmojecnaaGreatDoorQ48
import Derived.Deep.QuietTactic
import Derived.Test.YtaacjjhmojecnaaGreatDoorQ37
namespace Go.Proofs.YtaacjjhmojecnaaGreatDoor
open Go.RowKit Go.ScT Go.Proofs
set_option maxHeartbeats 400000 in
theorem num_any (x:Int) (w:World):Calls Tryz.prog 34 #[.int .i64 x] w fun e w'=>e=.returned (.int .i64 x)∧w'=w:=by
 go_enter Tryz.func34,Tryz.ntmps34
 go_wp2
 go_ret
 exact ⟨rfl,rfl⟩
set_option maxHeartbeats 1000000 in
theorem texts_ok (a b c:Value) (K S:ByteArray) (w:World) (hS:S.size≤200) :
 Calls Tryz.prog 14 #[.agg #[.int .i64 1,a,b,c,.string K,.string S]] w fun e w'=>e=.returned (.bool true)∧Below w.heap.size w w':=by
 obtain ⟨t,ht⟩:∃ t,told S.data.toList=t:=⟨_,rfl⟩
 have cP:∀ w,Calls Tryz.prog 31 #[.string S] w fun e w'=>e=.returned (.tuple #[.string ⟨t.toArray⟩,.int .i64 0])∧Below w.heap.size w w':=fun w=>ht ▸ tokens_ok S w hS
 have cR:∀ w,Calls Tryz.prog 33 #[.string S] w fun e w'=>e=.returned (.tuple #[.string ⟨t.toArray⟩,.int .i64 0])∧Below w.heap.size w w':=fun w=>ht ▸ refTokens_ok S w hS
 have CP:Hid (∀ w,Calls Tryz.prog 31 #[.string S] w fun e w'=>e=.returned (.tuple #[.string ⟨t.toArray⟩,.int .i64 0])∧Below w.heap.size w w'):=cP
 have CR:Hid (∀ w,Calls Tryz.prog 33 #[.string S] w fun e w'=>e=.returned (.tuple #[.string ⟨t.toArray⟩,.int .i64 0])∧Below w.heap.size w w'):=cR
 clear cP cR ht
 go_enter Tryz.func14,Tryz.ntmps14
 go_wp2_with fail
 refine (CP.out _).mono ?_
 rintro e w1 ⟨rfl,hb1⟩
 have hc5:=hb1.cell (p:=⟨w.heap.size,5,none⟩) (by simp)
 simp at hc5
 go_wp2_with fail
 refine (CR.out _).mono ?_
 rintro e w2 ⟨rfl,hb2⟩
 go_wp2
 go_ret
 exact ⟨rfl,(((Below.refl _ _).alloc (Nat.le_refl _) _).trans (hb1.mono (by simp))).trans (hb2.mono (Nat.le_trans (by simp) hb1.size))⟩
set_option maxHeartbeats 1000000 in
theorem texts_long (a b c:Value) (K S:ByteArray) (w:World) (hS:200 < S.size) (hm:S.size≤maxLen) :
 Calls Tryz.prog 14 #[.agg #[.int .i64 1,a,b,c,.string K,.string S]] w fun e w'=>e=.returned (.bool true)∧Below w.heap.size w w':=by
 have CP:Hid (∀ w,Calls Tryz.prog 31 #[.string S] w fun e w'=>e=.returned (.tuple #[.string ⟨#[]⟩,.int .i64 2])∧w'=w):=fun w=>tokens_long S w hS hm
 have CR:Hid (∀ w,Calls Tryz.prog 33 #[.string S] w fun e w'=>e=.returned (.tuple #[.string ⟨#[]⟩,.int .i64 2])∧w'=w):=fun w=>refTokens_long S w hS hm
 go_enter Tryz.func14,Tryz.ntmps14
 go_wp2_with fail
 refine (CP.out _).mono ?_
 rintro e w1 ⟨rfl,hw1⟩
 rw [hw1]
 clear hw1 w1
 go_wp2_with fail
 refine (CR.out _).mono ?_
 rintro e w2 ⟨rfl,hw2⟩
 rw [hw2]
 clear hw2 w2
 go_wp2
 go_ret
 exact ⟨rfl,(Below.refl _ _).alloc (Nat.le_refl _) _⟩
theorem texts_any (a b c:Value) (K S:ByteArray) (w:World) (hm:S.size≤maxLen) :
 Calls Tryz.prog 14 #[.agg #[.int .i64 1,a,b,c,.string K,.string S]] w fun e w'=>e=.returned (.bool true)∧Below w.heap.size w w':=by
 by_cases h:S.size≤200
 ·exact texts_ok a b c K S w h
 ·exact texts_long a b c K S w (by omega) hm
end Go.Proofs.YtaacjjhmojecnaaGreatDoor
namespace Go.Proofs.YtaacjjhmojecnaaGreatDoor
open Go.RowKit Go.ScT Go.Proofs Go.Shelf
structure Pr where
 x:Nat
 y:Nat
 E:List EDoc
 Ws:List (List Nat)
 zx:Nat→Prop
 zy:Nat→Prop
def Pr.z (p:Pr) (b:Nat):Prop:=p.zx b∨p.zy b
structure PairOk (w:World) (B:Nat) (p:Pr):Prop where
 eng:EngXOk w p.zx p.x p.E (bytesOf p.E p.Ws)
 ref:RefXOk w p.zy p.y p.E p.Ws
 inv:Inv p.E p.Ws
 apart:∀ b,p.zx b→¬ p.zy b
 lt:∀ b,p.z b→B≤b∧b < w.heap.size
theorem PairOk.turned {w w':World} {B:Nat} {p:Pr} {Z:Nat→Prop} (h:PairOk w B p) (ht:Turned Z w w') (hz:∀ b,p.z b→¬ Z b):PairOk w' B p:=by
 exact ⟨h.eng.turned ht (fun g hg=>hz g (Or.inl hg)),h.ref.turned ht (fun g hg=>hz g (Or.inr hg)),h.inv,h.apart,fun b hb=>⟨(h.lt b hb).1,Nat.lt_of_lt_of_le (h.lt b hb).2 ht.size⟩⟩
def pairCells (ps:List Pr):List Value:=ps.flatMap fun p=>[.pointer (some ⟨p.x,0,none⟩),.pointer (some ⟨p.y,0,none⟩)]
theorem pairCells_snoc (ps:List Pr) (p:Pr):pairCells (ps++[p])=pairCells ps++[.pointer (some ⟨p.x,0,none⟩),.pointer (some ⟨p.y,0,none⟩)]:=by simp [pairCells]
theorem pairCells_at:∀ (ps:List Pr) (i:Nat) (p:Pr),ps[i]?=some p→(pairCells ps)[i * 2]?=some (.pointer (some ⟨p.x,0,none⟩))∧(pairCells ps)[i * 2+1]?=some (.pointer (some ⟨p.y,0,none⟩))
 | [],i,p,h=>by simp at h
 | q :: r,0,p,h=>by
   simp at h
   subst h
   simp [pairCells]
 | q :: r,i+1,p,h=>by
   have:=pairCells_at r i p (by simpa using h)
   have e:pairCells (q :: r)=.pointer (some ⟨q.x,0,none⟩) :: .pointer (some ⟨q.y,0,none⟩) :: pairCells r:=by simp [pairCells]
   rw [e,show (i+1) * 2=i * 2+1+1 by omega]
   simpa using this
structure LawOk (w:World) (B L:Nat) (v:Value) (ps:List Pr):Prop where
 cell:w.heap[L]?=some (.cells #[v] 61 (0,0))
 lB:B≤L
 own:w.ownsRow B 108 2 v ps.length (pairCells ps)
 each:∀ (i:Nat) (p:Pr),ps[i]?=some p→PairOk w B p
 apart:∀ (i j:Nat) (p q:Pr),ps[i]?=some p→ps[j]?=some q→i≠j→∀ b,p.z b→¬ q.z b
 zL:∀ (i:Nat) (p:Pr),ps[i]?=some p→¬ p.z L
 zv:∀ (i:Nat) (p:Pr) (g:Nat),ps[i]?=some p→v.ownBlock=some g→¬ p.z g
theorem LawOk.turned {w w':World} {B L:Nat} {v:Value} {ps:List Pr} {Z:Nat→Prop} (h:LawOk w B L v ps) (ht:Turned Z w w') (hL:¬ Z L) (hv:∀ g,v.ownBlock=some g→¬ Z g) (hz:∀ (i:Nat) (p:Pr),ps[i]?=some p→∀ b,p.z b→¬ Z b):LawOk w' B L v ps :=
 ⟨(ht.block L (lt_of_block h.cell) hL).trans h.cell,h.lB,ownsRow_turned h.own ht hv,fun i p hp=>(h.each i p hp).turned ht (hz i p hp),h.apart,h.zL,h.zv⟩
theorem info67:(Tryz.prog.info? 108).map (fun i=>(i.zero,i.size,i.bytes))=some (some (.agg #[.pointer none,.pointer none]),2,16):=by kernel_rfl
theorem snoc_at (ps:List Pr) (p:Pr) (i:Nat) (q:Pr):(ps++[p])[i]?=some q ↔ ps[i]?=some q∨(i=ps.length∧q=p):=by
 rw [List.getElem?_append]
 split
 ·rename_i hl
  exact ⟨Or.inl,fun h=>h.elim id (fun h=>by omega)⟩
 ·rename_i hl
  rw [List.getElem?_eq_none (l:=ps) (by omega)]
  constructor
  ·intro h
   have h0:=(List.getElem?_eq_some_iff.1 h).1
   simp at h0
   have:i - ps.length=0:=by omega
   rw [this] at h
   simp at h
   exact Or.inr ⟨by omega,h.symm⟩
  ·rintro (h | ⟨rfl,rfl⟩)
   ·cases h
   ·simp
theorem made_done {w w1 w3:World} {B L e' gA cA:Nat} {v:Value} {ps:List Pr} {o:Obj} (h:LawOk w B L v ps) (hBw:B≤w.heap.size) (hE:EngXOk w1 (fun b=>w.heap.size≤b∧b < w1.heap.size) e' [] []) (hb1:Below w.heap.size w w1)
 (hgr:((w1.alloc (.cells #[.slice none 0 0,.slice none 0 0,.slice none 0 0,.slice none 0 0] 193)).alloc o).grownBy w3 v.ownBlock)
 (hown:w3.ownsRow B 108 2 (.slice (some ⟨gA,0,none⟩) (ps.length+1) cA) (ps.length+1) (pairCells ps++[.pointer (some ⟨e',0,none⟩),.pointer (some ⟨w1.heap.size,0,none⟩)]))
 (hat:v.ownBlock=some gA∨gA=w1.heap.size+1+1) :
 (∃ v' ps',LawOk (w3.setCell ⟨L,0,none⟩ (.slice (some ⟨gA,0,none⟩) (ps.length+1) cA)) B L v' ps'∧ps'.length=ps.length+1)∧Below B w (w3.setCell ⟨L,0,none⟩ (.slice (some ⟨gA,0,none⟩) (ps.length+1) cA)):=by
 have hL:=lt_of_block h.cell
 have hs1:=hb1.size
 have t2:Turned (fun _=>False) w1 ((w1.alloc (.cells #[.slice none 0 0,.slice none 0 0,.slice none 0 0,.slice none 0 0] 193)).alloc o):=(Turned.ofAlloc w1 _).trans (Turned.ofAlloc _ o)
 have t3:Turned (fun b=>v.ownBlock=some b) ((w1.alloc (.cells #[.slice none 0 0,.slice none 0 0,.slice none 0 0,.slice none 0 0] 193)).alloc o) w3:=Turned.ofGrown hgr (fun k hk _=>hk)
 have t4:Turned (fun b=>b=L) w3 (w3.setCell ⟨L,0,none⟩ (.slice (some ⟨gA,0,none⟩) (ps.length+1) cA)):=Turned.ofSet w3 _ _ rfl
 have hs3:w1.heap.size+2≤w3.heap.size:=by have:=hgr.size;simp at this;omega
 have vlt:∀ g,v.ownBlock=some g→g < w.heap.size:=fun g hg=>by
  obtain ⟨cu,bq⟩:=ownsRow_block h.own hg
  exact lt_of_block bq
 have vge:∀ g,v.ownBlock=some g→B≤g:=fun g hg=>ownsRow_base h.own hg
 have vL:v.ownBlock≠some L:=fun hg=>by
  obtain ⟨cu,bq⟩:=ownsRow_block h.own hg
  exact tag_ne h.cell bq (by decide) rfl
 have T13:Turned (fun b=>v.ownBlock=some b∨b=L) w1 (w3.setCell ⟨L,0,none⟩ (.slice (some ⟨gA,0,none⟩) (ps.length+1) cA)) :=
  ((t2.mono (fun _ _ hf=>hf.elim)).trans (t3.mono (fun _ _ hb=>Or.inl hb))).trans (t4.mono (fun _ _ hb=>Or.inr hb))
 have T:Turned (fun b=>v.ownBlock=some b∨b=L) w (w3.setCell ⟨L,0,none⟩ (.slice (some ⟨gA,0,none⟩) (ps.length+1) cA)):=(Turned.ofBelow hb1).trans T13
 have E3:w3.heap[L]?=some (.cells #[v] 61 (0,0)):=by
  rw [t3.block L (by simp;omega) vL,t2.block L (by omega) (fun h=>h),hb1.block L hL]
  exact h.cell
 have gAL:gA≠L:=fun e=>by
  rcases hat with hg | hg
  ·exact vL (e ▸ hg)
  ·omega
 have hsf:(w3.setCell ⟨L,0,none⟩ (.slice (some ⟨gA,0,none⟩) (ps.length+1) cA)).heap.size=w3.heap.size:=by simp [World.setCell]
 refine ⟨⟨_,ps++[⟨e',w1.heap.size,[],[],fun b=>w.heap.size≤b∧b < w1.heap.size,fun b=>b=w1.heap.size⟩],⟨heap_setCell_same w3 L 0 #[v] 61 _ E3,h.lB,?_,?_,?_,?_,?_⟩,by simp⟩,?_⟩
 ·have:=ownsRow_turned hown t4 (fun g hg e=>gAL (by simp [Value.ownBlock] at hg;rw [hg];exact e))
  rw [pairCells_snoc]
  simpa using this
 ·intro i p hp
  rcases (snoc_at _ _ _ _).1 hp with hp | ⟨_,rfl⟩
  ·refine (h.each i p hp).turned T ?_
   rintro b hb (hg | hg)
   ·exact h.zv i p b hp hg hb
   ·exact h.zL i p hp (hg ▸ hb)
  ·refine ⟨hE.turned T13 ?_,(refNewE w1).turned (Z':=fun b=>v.ownBlock=some b∨b=L) ?_ ?_,inv_new,?_,?_⟩
   ·rintro g ⟨hg1,hg2⟩ (hg | hg)
    ·have:=vlt g hg;omega
    ·omega
   ·exact (((Turned.ofAlloc _ o).mono (fun _ _ hf=>(hf:False).elim)).trans (t3.mono (fun _ _ hb=>Or.inl hb))).trans (t4.mono (fun _ _ hb=>Or.inr hb))
   ·rintro g rfl (hg | hg)
    ·have:=vlt _ hg;omega
    ·omega
   ·rintro b ⟨_,hb2⟩ hb3
    have:b=w1.heap.size:=hb3
    omega
   ·rintro b (⟨hb1',hb2⟩ | hb3)
    ·exact ⟨by omega,by omega⟩
    ·have:b=w1.heap.size:=hb3
     exact ⟨by omega,by omega⟩
 ·intro i j p q hp hq hij b hb hb'
  rcases (snoc_at _ _ _ _).1 hp with hp | ⟨ei,rfl⟩ <;> rcases (snoc_at _ _ _ _).1 hq with hq | ⟨ej,rfl⟩
  ·exact h.apart i j p q hp hq hij b hb hb'
  ·have:=((h.each i p hp).lt b hb).2
   rcases hb' with ⟨h1,h2⟩ | h3
   ·omega
   ·have:b=w1.heap.size:=h3
    omega
  ·have:=((h.each j q hq).lt b hb').2
   rcases hb with ⟨h1,h2⟩ | h3
   ·omega
   ·have:b=w1.heap.size:=h3
    omega
  ·omega
 ·intro i p hp
  rcases (snoc_at _ _ _ _).1 hp with hp | ⟨_,rfl⟩
  ·exact h.zL i p hp
  ·rintro (⟨h1,h2⟩ | h3)
   ·omega
   ·have:L=w1.heap.size:=h3
    omega
 ·intro i p g hp hg hz
  simp [Value.ownBlock] at hg
  subst hg
  rcases (snoc_at _ _ _ _).1 hp with hp | ⟨_,rfl⟩
  ·rcases hat with hg | hg
   ·exact h.zv i p _ hp hg hz
   ·have:=((h.each i p hp).lt _ hz).2
    omega
  ·rcases hat with hg | hg
   ·have:=vlt _ hg
    rcases hz with ⟨h1,h2⟩ | h3
    ·omega
    ·have:gA=w1.heap.size:=h3
     omega
   ·rcases hz with ⟨h1,h2⟩ | h3
    ·omega
    ·have:gA=w1.heap.size:=h3
     omega
 ·have hlB:=h.lB
  exact ⟨T.os,T.tape,T.output,T.size,fun b hb=>T.block b (by omega) (by
   rintro (hg | hg)
   ·have:=vge b hg;omega
   ·omega)⟩
set_option maxHeartbeats 1000000 in
set_option maxRecDepth 1000000 in
theorem made_any (w:World) (B L:Nat) (v:Value) (ps:List Pr) (h:LawOk w B L v ps) (hBw:B≤w.heap.size) (hl:(ps.length+1) * 16≤140737488355328) :
 Calls Tryz.prog 36 #[.pointer (some ⟨L,0,none⟩)] w fun en w'=>en=.returned (.bool true)∧(∃ v' ps',LawOk w' B L v' ps'∧ps'.length=ps.length+1)∧Below B w w':=by
 obtain ⟨i67,hi,hz0,hz1,hz2⟩:=info_parts info67
 obtain ⟨gv,capv,aov,rfl,_,_⟩:=ownsRow_shape h.own
 have H:Hid (LawOk w B L (.slice aov ps.length capv) ps):=h
 have HL:=lt_of_block h.cell
 have C29:Hid (Calls Tryz.prog 62 #[] w fun en w'=>∃ e',en=.returned (.pointer (some ⟨e',0,none⟩))∧EngXOk w' (fun b=>w.heap.size≤b∧b < w'.heap.size) e' [] []∧Below w.heap.size w w'):=newX_any w
 have C30:Hid (∀ w,Calls Tryz.prog 63 #[] w fun e w'=>e=.returned (.pointer (some ⟨w.heap.size,0,none⟩))∧w'=w.alloc (.cells #[.slice none 0 0,.slice none 0 0,.slice none 0 0,.slice none 0 0] 193)):=refNew_any
 have hne:(Value.slice aov ps.length capv).ownBlock≠some L:=fun hg=>by
  obtain ⟨cu,bq⟩:=ownsRow_block h.own hg
  exact tag_ne h.cell bq (by decide) rfl
 have HC:Hid (∀ w1,Below w.heap.size w w1→∀ o o',((w1.alloc o).alloc o').cell? ⟨L,0,none⟩=some (.slice aov ps.length capv)∧(w1.alloc o).cell? ⟨L,0,none⟩=some (.slice aov ps.length capv)∧((w1.alloc o).alloc o').frozen? ⟨L,0,none⟩=false):=fun w1 hb1 o o'=>by
  have hs:=hb1.size
  have e1:(w1.alloc o).heap[L]?=some (.cells #[.slice aov ps.length capv] 61 (0,0)):=by
   rw [Below.heap_alloc _ _ _ (by omega),hb1.block L HL];exact h.cell
  have e2:((w1.alloc o).alloc o').heap[L]?=some (.cells #[.slice aov ps.length capv] 61 (0,0)):=by
   rw [Below.heap_alloc _ _ _ (by simp;omega)];exact e1
  exact ⟨by simp [World.cell?,e2],by simp [World.cell?,e1],by simp [World.frozen?,e2]⟩
 have HOW:Hid (∀ w1,Below w.heap.size w w1→∀ o o',((w1.alloc o).alloc o').ownsRow B 108 2 (.slice aov ps.length capv) ps.length (pairCells ps)):=fun w1 hb1 o o' =>
  ownsRow_turned h.own (((Turned.ofBelow (Z:=fun _=>False) hb1).trans (Turned.ofAlloc w1 o)).trans (Turned.ofAlloc _ o')) (fun _ _ hf=>hf)
 have HNB:Hid (∀ (w1:World) (o:Obj) (x y:Value),((w1.alloc o).alloc (.cells #[x,y] 108)).heap[w1.heap.size+1]?=some (.cells #[x,y] 108 (0,0))):=fun w1 o x y=>by
  have:=heap_alloc_new (w1.alloc o) (.cells #[x,y] 108)
  rw [show (w1.alloc o).heap.size=w1.heap.size+1 by simp] at this
  exact this
 have HFA:Hid (∀ (w1:World) (o o':Obj) (w3:World),Below w.heap.size w w1→((w1.alloc o).alloc o').grownBy w3 (Value.slice aov ps.length capv).ownBlock→w3.cell? ⟨L,0,none⟩=some (.slice aov ps.length capv)∧w3.frozen? ⟨L,0,none⟩=false):=fun w1 o o' w3 hb1 hg=>by
  have hs:=hb1.size
  have hc:=HC.out w1 hb1 o o'
  have hb:=hg.block L (by simp;omega) (Ne.symm hne)
  exact ⟨(World.cell?_of_block hb).trans hc.1,(World.frozen?_of_block hb).trans hc.2.2⟩
 have HS:Hid (∀ w1,Below w.heap.size w w1→∀ o o',B≤((w1.alloc o).alloc o').heap.size):=fun w1 hb1 o o'=>by
  have:=hb1.size
  simp
  omega
 clear h
 go_enter Tryz.func36,Tryz.ntmps36
 go_wp2_with (first
  | (go_at_call 62;refine C29.out.mono ?_;rintro en w1 ⟨e',rfl,hE1,hb1⟩;have hs1:=hb1.size;have HE1:Hid (EngXOk w1 (fun b=>w.heap.size≤b∧b < w1.heap.size) e' [] []):=hE1;clear hE1;have HB1:Hid (Below w.heap.size w w1):=hb1;clear hb1)
  | (go_at_call 63;refine (C30.out _).mono ?_;rintro en w2 ⟨rfl,hw2⟩;rw [hw2];clear hw2 w2;have k0:=(HC.out w1 HB1.out (.cells #[.slice none 0 0,.slice none 0 0,.slice none 0 0,.slice none 0 0] 193) (.map #[] 0)).2.1)
  | (at_builtin;refine wpList_append_lies _ rfl _ _ 59 rfl B 108 i67 _ 2 16 Tryz.underlying59 hi hz0 hz1 hz2 rfl (by omega) (.slice aov ps.length capv) ps.length (pairCells ps) rfl (HOW.out w1 HB1.out _ _) ⟨w1.heap.size+1,0,none⟩ 1 1 [.pointer (some ⟨e',0,none⟩),.pointer (some ⟨w1.heap.size,0,none⟩)] rfl rfl (World.news_of_block (HNB.out w1 _ _ _)) (fun x hx=>by simp at hx;rcases hx with rfl | rfl <;> rfl) (by omega) (by unfold maxLen;omega) (by omega) (HS.out w1 HB1.out _ _) (w1.heap.size+1+1) (by simp) ?_;intro gA capA w3 hownA hgrowA hatA hltA;have FA:=HFA.out w1 _ _ w3 HB1.out hgrowA;have k1:=FA.1;have k2:=FA.2;have HD:Hid _:=made_done H.out hBw HE1.out HB1.out hgrowA hownA hatA;clear FA))
 go_ret
 exact ⟨rfl,HD.out.1,HD.out.2⟩
def KeptDone (w:World) (B:Nat) (p:Pr) (en:Ending) (w':World):Prop :=
 en=.returned (.bool true)∧(∃ p':Pr,p'.x=p.x∧p'.y=p.y∧PairOk w' B p'∧∀ b,p'.z b→p.z b∨w.heap.size≤b)∧Turned p.z w w'
theorem pair_step {w w2 w3 w4:World} {B:Nat} {p:Pr} {E':List EDoc} {Ws':List (List Nat)} (h:PairOk w B p) (hBw:B≤w.heap.size) (hb2:Below w.heap.size w w2) (hE:EngXOk w3 (grow p.zx w2 w3) p.x E' (bytesOf E' Ws')) (t3:Turned p.zx w2 w3) (hR:RefXOk w4 (grow p.zy w3 w4) p.y E' Ws') (t4:Turned p.zy w3 w4) (hl:Inv E' Ws') :
 KeptDone w B p (.returned (.bool true)) w4:=by
 have s2:=hb2.size
 have s3:=t3.size
 have s4:=t4.size
 refine ⟨rfl,⟨⟨p.x,p.y,E',Ws',grow p.zx w2 w3,grow p.zy w3 w4⟩,rfl,rfl,⟨hE.turned t4 ?_,hR,hl,?_,?_⟩,?_⟩,?_⟩
 ·rintro g (hg | ⟨hg1,hg2⟩) hy
  ·exact h.apart g hg hy
  ·have:=(h.lt g (Or.inr hy)).2
   omega
 ·rintro b (hx | ⟨hx1,hx2⟩) (hy | ⟨hy1,hy2⟩)
  ·exact h.apart b hx hy
  ·have:=(h.lt b (Or.inl hx)).2
   omega
  ·have:=(h.lt b (Or.inr hy)).2
   omega
  ·omega
 ·rintro b ((hx | ⟨hx1,hx2⟩) | (hy | ⟨hy1,hy2⟩))
  ·have:=h.lt b (Or.inl hx)
   exact ⟨this.1,by omega⟩
  ·exact ⟨by omega,by omega⟩
  ·have:=h.lt b (Or.inr hy)
   exact ⟨this.1,by omega⟩
  ·exact ⟨by omega,by omega⟩
 ·rintro b ((hx | ⟨hx1,hx2⟩) | (hy | ⟨hy1,hy2⟩))
  ·exact Or.inl (Or.inl hx)
  ·exact Or.inr (by omega)
  ·exact Or.inl (Or.inr hy)
  ·exact Or.inr (by omega)
 ·exact ((Turned.ofBelow hb2).trans (t3.mono (fun _ _ hx=>Or.inl hx))).trans (t4.mono (fun _ _ hy=>Or.inr hy))
abbrev opBox (k:Int) (a b c:Value) (K S:List UInt8):Obj:=.cells #[.int .i64 k,a,b,c,.string ⟨K.toArray⟩,.string ⟨S.toArray⟩] 24
abbrev prBox (p:Pr):Obj:=.cells #[.pointer (some ⟨p.x,0,none⟩),.pointer (some ⟨p.y,0,none⟩)] 108
theorem boxes_below (w:World) (p:Pr) (k:Int) (a b c:Value) (K S:List UInt8):Below w.heap.size w ((w.alloc (prBox p)).alloc (opBox k a b c K S)):=((Below.refl _ w).alloc (Nat.le_refl _) _).alloc (by simp) _
theorem boxes_cells {w w3:World} {p:Pr} {k:Int} {a b c:Value} {K S:List UInt8} {Z:Nat→Prop} (hz:∀ b,Z b→b < w.heap.size) (t:Turned Z ((w.alloc (prBox p)).alloc (opBox k a b c K S)) w3) :
 w3.cell? ⟨w.heap.size,1,none⟩=some (.pointer (some ⟨p.y,0,none⟩))∧w3.cell? ⟨w.heap.size+1,4,none⟩=some (.string ⟨K.toArray⟩)∧w3.cell? ⟨w.heap.size+1,5,none⟩=some (.string ⟨S.toArray⟩):=by
 have e1:=t.block w.heap.size (by simp;omega) (fun h=>by have:=hz _ h;omega)
 have e2:=t.block (w.heap.size+1) (by simp) (fun h=>by have:=hz _ h;omega)
 have n1:=heap_alloc_new w (prBox p)
 have n2:=heap_alloc_new (w.alloc (prBox p)) (opBox k a b c K S)
 rw [show (w.alloc (prBox p)).heap.size=w.heap.size+1 by simp] at n2
 have n1':((w.alloc (prBox p)).alloc (opBox k a b c K S)).heap[w.heap.size]?=some (prBox p):=by
  rw [Below.heap_alloc _ _ _ (by simp)];exact n1
 refine ⟨?_,?_,?_⟩
 ·rw [World.cell?_of_block (a:=⟨w.heap.size,1,none⟩) e1];exact cell_of_row _ _ _ _ _ _ n1'
 ·rw [World.cell?_of_block (a:=⟨w.heap.size+1,4,none⟩) e2];exact cell_of_row _ _ _ _ _ _ n2
 ·rw [World.cell?_of_block (a:=⟨w.heap.size+1,5,none⟩) e2];exact cell_of_row _ _ _ _ _ _ n2
set_option maxHeartbeats 1000000 in
set_option maxRecDepth 1000000 in
theorem kept_add (a b c:Value) (K S:List UInt8) (w:World) (B:Nat) (p:Pr) (h:PairOk w B p) (hBw:B≤w.heap.size) (hK:K.length≤maxLen) (hS:S.length≤maxLen) :
 Calls Tryz.prog 66 #[.agg #[.pointer (some ⟨p.x,0,none⟩),.pointer (some ⟨p.y,0,none⟩)],.agg #[.int .i64 3,a,b,c,.string ⟨K.toArray⟩,.string ⟨S.toArray⟩]] w (KeptDone w B p):=by
 have hzx:∀ b,p.zx b→b < w.heap.size:=fun b hb=>(h.lt b (Or.inl hb)).2
 have hbb:=boxes_below w p 3 a b c K S
 have h2:=h.turned (Turned.ofBelow (Z:=fun _=>False) hbb) (fun _ _ hf=>hf)
 have C60:Hid (Calls Tryz.prog 30 #[.pointer (some ⟨p.x,0,none⟩),.string ⟨K.toArray⟩,.string ⟨S.toArray⟩] ((w.alloc (prBox p)).alloc (opBox 3 a b c K S)) fun en w'=>en=.returned (.int .i64 (addRes K S p.E.length))∧EngXOk w' (grow p.zx ((w.alloc (prBox p)).alloc (opBox 3 a b c K S)) w') p.x (addE p.E K S) (bytesOf p.E p.Ws)∧Turned p.zx ((w.alloc (prBox p)).alloc (opBox 3 a b c K S)) w') :=
  addX_all h2.eng (fun b hb=>(h2.lt b (Or.inl hb)).2) h2.inv.most (fun d hd=>(h2.inv.doc d hd).len) K S hK hS
 have C61:Hid (∀ w3,Turned p.zx ((w.alloc (prBox p)).alloc (opBox 3 a b c K S)) w3→Calls Tryz.prog 119 #[.pointer (some ⟨p.y,0,none⟩),.string ⟨K.toArray⟩,.string ⟨S.toArray⟩] w3 fun e w'=>e=.returned (.int .i64 (addRes K S p.E.length))∧RefXOk w' (grow p.zy w3 w') p.y (addE p.E K S) p.Ws∧Turned p.zy w3 w'):=fun w3 t3 =>
  refAddE_any (h2.ref.turned t3 (fun g hg hx=>h.apart g hx hg)) h.inv.most K S hK hS
 have CN:Hid (∀ (x:Int) (w:World),Calls Tryz.prog 34 #[.int .i64 x] w fun e w'=>e=.returned (.int .i64 x)∧w'=w):=num_any
 have HH:Hid (PairOk w B p):=h
 obtain ⟨R,hR⟩:∃ R,addRes K S p.E.length=R:=⟨_,rfl⟩
 rw [hR] at C60 C61
 have hRR:(R == R)=true:=by simp
 clear h h2 hK hS hR
 go_enter Tryz.func66,Tryz.ntmps66
 go_wp2_with (first
  | (go_at_call 30;refine C60.out.mono ?_;rintro en w3 ⟨rfl,hE3,ht3⟩;have k:=boxes_cells hzx ht3;have k1:=k.1;have k2:=k.2.1;have k3:=k.2.2;clear k)
  | (go_at_call 119;refine (C61.out w3 ht3).mono ?_;rintro en w4 ⟨rfl,hR4,ht4⟩)
  | (go_at_call 34;refine (CN.out _ _).mono ?_;rintro en w5 ⟨rfl,hw5⟩;rw [hw5];clear hw5 w5))
 go_ret
 exact pair_step HH.out hBw hbb (by rw [bytes_add HH.out.inv];exact hE3) ht3 hR4 ht4 (HH.out.inv.add K S)
theorem grow_in {Z:Nat→Prop} {w w':World}:∀ b,Z b→grow Z w w' b:=fun _ hb=>Or.inl hb
set_option maxHeartbeats 1000000 in
set_option maxRecDepth 1000000 in
theorem kept_del (a b c:Value) (K S:List UInt8) (w:World) (B:Nat) (p:Pr) (h:PairOk w B p) (hBw:B≤w.heap.size) (hK:K.length≤maxLen) :
 Calls Tryz.prog 66 #[.agg #[.pointer (some ⟨p.x,0,none⟩),.pointer (some ⟨p.y,0,none⟩)],.agg #[.int .i64 4,a,b,c,.string ⟨K.toArray⟩,.string ⟨S.toArray⟩]] w (KeptDone w B p):=by
 have hzx:∀ b,p.zx b→b < w.heap.size:=fun b hb=>(h.lt b (Or.inl hb)).2
 have hbb:=boxes_below w p 4 a b c K S
 have h2:=h.turned (Turned.ofBelow (Z:=fun _=>False) hbb) (fun _ _ hf=>hf)
 have C62:Hid (Calls Tryz.prog 22 #[.pointer (some ⟨p.x,0,none⟩),.string ⟨K.toArray⟩] ((w.alloc (prBox p)).alloc (opBox 4 a b c K S)) fun en w'=>en=.returned (.int .i64 (if keyOk K then (if (findK (keysE p.E) K).isSome then 0 else 5) else 1))∧EngXOk w' p.zx p.x (if keyOk K then retE p.E K else p.E) (bytesOf p.E p.Ws)∧Turned p.zx ((w.alloc (prBox p)).alloc (opBox 4 a b c K S)) w') :=
  deleteX_any h2.eng h2.inv.most (fun d hd=>(h2.inv.doc d hd).len) hK
 have C63:Hid (∀ w3,Turned p.zx ((w.alloc (prBox p)).alloc (opBox 4 a b c K S)) w3→Calls Tryz.prog 120 #[.pointer (some ⟨p.y,0,none⟩),.string ⟨K.toArray⟩] w3 fun e w'=>e=.returned (.int .i64 (if keyOk K then (if (findK (keysE p.E) K).isSome then 0 else 5) else 1))∧RefXOk w' p.zy p.y (if keyOk K then retE p.E K else p.E) p.Ws∧Turned p.zy w3 w'):=fun w3 t3 =>
  refDeleteE_any (h2.ref.turned t3 (fun g hg hx=>h.apart g hx hg)) h.inv.most hK
 have CN:Hid (∀ (x:Int) (w:World),Calls Tryz.prog 34 #[.int .i64 x] w fun e w'=>e=.returned (.int .i64 x)∧w'=w):=num_any
 have HH:Hid (PairOk w B p):=h
 have HLEN:Hid (Inv (if keyOk K then retE p.E K else p.E) p.Ws∧bytesOf (if keyOk K then retE p.E K else p.E) p.Ws=bytesOf p.E p.Ws):=show _∧_ by
  split
  ·exact ⟨h.inv.ret K,bytes_ret _ _ _⟩
  ·exact ⟨h.inv,rfl⟩
 generalize hR:(if keyOk K then (if (findK (keysE p.E) K).isSome then (0:Int) else 5) else 1)=R at C62 C63
 generalize (if keyOk K then retE p.E K else p.E)=D at C62 C63 HLEN
 have hRR:(R == R)=true:=by simp
 clear h h2 hK hR
 go_enter Tryz.func66,Tryz.ntmps66
 go_wp2_with (first
  | (go_at_call 22;refine C62.out.mono ?_;rintro en w3 ⟨rfl,hE3,ht3⟩;have k:=boxes_cells hzx ht3;have k1:=k.1;have k2:=k.2.1;have k3:=k.2.2;clear k)
  | (go_at_call 120;refine (C63.out w3 ht3).mono ?_;rintro en w4 ⟨rfl,hR4,ht4⟩)
  | (go_at_call 34;refine (CN.out _ _).mono ?_;rintro en w5 ⟨rfl,hw5⟩;rw [hw5];clear hw5 w5))
 go_ret
 exact pair_step HH.out hBw hbb (by rw [HLEN.out.2];exact hE3.zone grow_in) ht3 (hR4.zone grow_in) ht4 HLEN.out.1
set_option maxHeartbeats 1000000 in
set_option maxRecDepth 1000000 in
theorem kept_count (a b c:Value) (K S:List UInt8) (w:World) (B:Nat) (p:Pr) (h:PairOk w B p) (hBw:B≤w.heap.size) :
 Calls Tryz.prog 66 #[.agg #[.pointer (some ⟨p.x,0,none⟩),.pointer (some ⟨p.y,0,none⟩)],.agg #[.int .i64 5,a,b,c,.string ⟨K.toArray⟩,.string ⟨S.toArray⟩]] w (KeptDone w B p):=by
 have hbb:=boxes_below w p 5 a b c K S
 have h2:=h.turned (Turned.ofBelow (Z:=fun _=>False) hbb) (fun _ _ hf=>hf)
 have C64:Hid (Calls Tryz.prog 19 #[.pointer (some ⟨p.x,0,none⟩)] ((w.alloc (prBox p)).alloc (opBox 5 a b c K S)) fun en w'=>en=.returned (.int .i64 (liveN (keysE p.E):Int))∧w'=((w.alloc (prBox p)).alloc (opBox 5 a b c K S))):=countX_any h2.eng
 have C65:Hid (Calls Tryz.prog 121 #[.pointer (some ⟨p.y,0,none⟩)] ((w.alloc (prBox p)).alloc (opBox 5 a b c K S)) fun e w'=>e=.returned (.int .i64 (liveN (keysE p.E):Int))∧∃ q,w'=((w.alloc (prBox p)).alloc (opBox 5 a b c K S)).drewN q):=refCountE_any h2.ref h2.inv.most
 have HH:Hid (PairOk w B p):=h
 have H2:Hid (PairOk ((w.alloc (prBox p)).alloc (opBox 5 a b c K S)) B p):=h2
 generalize hR:(liveN (keysE p.E):Int)=R at C64 C65
 have hRR:(R == R)=true:=by simp
 clear h h2 hR
 go_enter Tryz.func66,Tryz.ntmps66
 go_wp2_with (first
  | (go_at_call 19;refine C64.out.mono ?_;rintro en w3 ⟨rfl,hw3⟩;rw [hw3];clear hw3 w3)
  | (go_at_call 121;refine C65.out.mono ?_;rintro en w4 ⟨rfl,hq⟩;obtain ⟨q,hw4⟩:=hq;rw [hw4];clear hw4 w4))
 go_ret
 exact pair_step HH.out hBw hbb (H2.out.eng.zone grow_in) (Turned.refl _ _) ((H2.out.ref.turned (((Turned.refl (fun _=>False) _).ofDrew q)) (fun _ _ h=>h)).zone grow_in) ((Turned.refl _ _).ofDrew q) HH.out.inv
set_option maxHeartbeats 1000000 in
set_option maxRecDepth 1000000 in
theorem kept_segs (a b c:Value) (K S:List UInt8) (w:World) (B:Nat) (p:Pr) (h:PairOk w B p) (hBw:B≤w.heap.size) :
 Calls Tryz.prog 66 #[.agg #[.pointer (some ⟨p.x,0,none⟩),.pointer (some ⟨p.y,0,none⟩)],.agg #[.int .i64 9,a,b,c,.string ⟨K.toArray⟩,.string ⟨S.toArray⟩]] w (KeptDone w B p):=by
 have hbb:=boxes_below w p 9 a b c K S
 have h2:=h.turned (Turned.ofBelow (Z:=fun _=>False) hbb) (fun _ _ hf=>hf)
 have hbl:(bytesOf p.E p.Ws).length=p.Ws.length:=by simp [bytesOf]
 have C64:Hid (Calls Tryz.prog 24 #[.pointer (some ⟨p.x,0,none⟩)] ((w.alloc (prBox p)).alloc (opBox 9 a b c K S)) fun en w'=>en=.returned (.int .i64 (p.Ws.length:Int))∧w'=((w.alloc (prBox p)).alloc (opBox 9 a b c K S))):=hbl ▸ segmentsX_any h2.eng
 have C65:Hid (Calls Tryz.prog 122 #[.pointer (some ⟨p.y,0,none⟩)] ((w.alloc (prBox p)).alloc (opBox 9 a b c K S)) fun e w'=>e=.returned (.int .i64 (p.Ws.length:Int))∧w'=((w.alloc (prBox p)).alloc (opBox 9 a b c K S))):=refSegmentsE_any h2.ref
 have HH:Hid (PairOk w B p):=h
 have H2:Hid (PairOk ((w.alloc (prBox p)).alloc (opBox 9 a b c K S)) B p):=h2
 generalize hR:(p.Ws.length:Int)=R at C64 C65
 have hRR:(R == R)=true:=by simp
 clear h h2 hR hbl
 go_enter Tryz.func66,Tryz.ntmps66
 go_wp2_with (first
  | (go_at_call 24;refine C64.out.mono ?_;rintro en w3 ⟨rfl,hw3⟩;rw [hw3];clear hw3 w3)
  | (go_at_call 122;refine C65.out.mono ?_;rintro en w4 ⟨rfl,hw4⟩;rw [hw4];clear hw4 w4))
 go_ret
 exact pair_step HH.out hBw hbb (H2.out.eng.zone grow_in) (Turned.refl _ _) (H2.out.ref.zone grow_in) (Turned.refl _ _) HH.out.inv
set_option maxHeartbeats 1000000 in
set_option maxRecDepth 1000000 in
theorem kept_flush (a b c:Value) (K S:List UInt8) (w:World) (B:Nat) (p:Pr) (h:PairOk w B p) (hBw:B≤w.heap.size) :
 Calls Tryz.prog 66 #[.agg #[.pointer (some ⟨p.x,0,none⟩),.pointer (some ⟨p.y,0,none⟩)],.agg #[.int .i64 7,a,b,c,.string ⟨K.toArray⟩,.string ⟨S.toArray⟩]] w (KeptDone w B p):=by
 have hzx:∀ b,p.zx b→b < w.heap.size:=fun b hb=>(h.lt b (Or.inl hb)).2
 have hbb:=boxes_below w p 7 a b c K S
 have h2:=h.turned (Turned.ofBelow (Z:=fun _=>False) hbb) (fun _ _ hf=>hf)
 have hfew:=h.inv.few
 have hbl:(bytesOf p.E p.Ws).length≤1000:=by simp [bytesOf];omega
 have C28:Hid (Calls Tryz.prog 28 #[.pointer (some ⟨p.x,0,none⟩)] ((w.alloc (prBox p)).alloc (opBox 7 a b c K S)) fun en w'=>en=.returned (.tuple #[])∧EngXOk w' (grow p.zx ((w.alloc (prBox p)).alloc (opBox 7 a b c K S)) w') p.x (flushE p.E) (bytesOf (flushE p.E) (flushWs p.Ws (waitI 0 p.E)))∧Turned p.zx ((w.alloc (prBox p)).alloc (opBox 7 a b c K S)) w'):=by
  rw [bytes_flush]
  exact flushX_any h2.eng hbl (h2.inv.wait h2.eng.uniq)
 have C123:Hid (∀ w3,Turned p.zx ((w.alloc (prBox p)).alloc (opBox 7 a b c K S)) w3→Calls Tryz.prog 123 #[.pointer (some ⟨p.y,0,none⟩)] w3 fun e w'=>e=.returned (.tuple #[])∧RefXOk w' (grow p.zy w3 w') p.y (flushE p.E) (flushWs p.Ws (waitI 0 p.E))∧Turned p.zy w3 w'):=fun w3 t3 =>
  refFlushE_any (h2.ref.turned t3 (fun g hg hx=>h.apart g hx hg)) h.inv.most (by omega)
 have HH:Hid (PairOk w B p):=h
 have HU:=hid h.eng.uniq
 clear h h2 hbl hfew
 go_enter Tryz.func66,Tryz.ntmps66
 go_wp2_with (first
  | (go_at_call 28;refine C28.out.mono ?_;rintro en w3 ⟨rfl,hE3,ht3⟩;have k:=boxes_cells hzx ht3;have k1:=k.1;clear k)
  | (go_at_call 123;refine (C123.out w3 ht3).mono ?_;rintro en w4 ⟨rfl,hR4,ht4⟩))
 go_ret
 exact pair_step HH.out hBw hbb hE3 ht3 hR4 ht4 (HH.out.inv.flush HU.out)
set_option maxHeartbeats 1000000 in
set_option maxRecDepth 1000000 in
theorem kept_merge (a b c:Value) (K S:List UInt8) (w:World) (B:Nat) (A:Nat→Addr) (p:Pr) (hS:Sent w A B) (h:PairOk w B p) (hBw:B≤w.heap.size) :
 Calls Tryz.prog 66 #[.agg #[.pointer (some ⟨p.x,0,none⟩),.pointer (some ⟨p.y,0,none⟩)],.agg #[.int .i64 8,a,b,c,.string ⟨K.toArray⟩,.string ⟨S.toArray⟩]] w (KeptDone w B p):=by
 have hzx:∀ b,p.zx b→b < w.heap.size:=fun b hb=>(h.lt b (Or.inl hb)).2
 have hbb:=boxes_below w p 8 a b c K S
 have h2:=h.turned (Turned.ofBelow (Z:=fun _=>False) hbb) (fun _ _ hf=>hf)
 have hS2:=hS.below hbb
 have hfew:=h.inv.few
 have hM:=h.inv.merge h.eng.uniq
 have C29:Hid (Calls Tryz.prog 29 #[.pointer (some ⟨p.x,0,none⟩)] ((w.alloc (prBox p)).alloc (opBox 8 a b c K S)) fun en w'=>en=.returned (.tuple #[])∧EngXOk w' (grow p.zx ((w.alloc (prBox p)).alloc (opBox 8 a b c K S)) w') p.x p.E (bytesOf p.E (flushWs [] (mergeI p.E p.Ws.flatten p.E.length)))∧Turned p.zx ((w.alloc (prBox p)).alloc (opBox 8 a b c K S)) w'):=by
  rw [hM.2.2.1]
  exact mergeX_any h2.eng (fun b hb=>(h2.lt b (Or.inl hb)).2) hS2 (bytesOf_map _ _) h.inv.fits (by simpa using hfew) hM.2.2.2
 have C124:Hid (∀ w3,Turned p.zx ((w.alloc (prBox p)).alloc (opBox 8 a b c K S)) w3→Calls Tryz.prog 124 #[.pointer (some ⟨p.y,0,none⟩)] w3 fun e w'=>e=.returned (.tuple #[])∧RefXOk w' (grow p.zy w3 w') p.y p.E (flushWs [] (mergeI p.E p.Ws.flatten p.E.length))∧Turned p.zy w3 w'):=fun w3 t3 =>
  refMergeE_any (h2.ref.turned t3 (fun g hg hx=>h.apart g hx hg)) h.inv.most (by omega) h.inv.each
 have HH:Hid (PairOk w B p):=h
 have HM:=hid hM.1
 clear h h2 hfew hM hS hS2
 go_enter Tryz.func66,Tryz.ntmps66
 go_wp2_with (first
  | (go_at_call 29;refine C29.out.mono ?_;rintro en w3 ⟨rfl,hE3,ht3⟩;have k:=boxes_cells hzx ht3;have k1:=k.1;clear k)
  | (go_at_call 124;refine (C124.out w3 ht3).mono ?_;rintro en w4 ⟨rfl,hR4,ht4⟩))
 go_ret
 exact pair_step HH.out hBw hbb hE3 ht3 hR4 ht4 HM.out
set_option maxHeartbeats 1000000 in
theorem pick_any (c:Int) (n:Nat) (w:World) (h1:-9223372036854775808≤c) (h2:c≤9223372036854775807) (hn:0 < n) (hm:n≤maxLen) :
 Calls Tryz.prog 64 #[.int .i64 c,.int .i64 (n:Int)] w fun e w'=>(∃ i:Nat,e=.returned (.int .i64 (i:Int))∧i < n)∧w'=w:=by
 unfold maxLen at hm
 have fin:∀ x:Int,0≤x→∃ i:Nat,x.tmod (n:Int)=(i:Int)∧i < n:=fun x hx=>by
  obtain ⟨m,rfl⟩:=Int.eq_ofNat_of_zero_le hx
  exact ⟨m % n,(Int.ofNat_tmod m n).symm,Nat.mod_lt _ hn⟩
 by_cases hc:c < 0
 ·obtain ⟨i,hi1,hi2⟩:=fin (-(c+1)) (by omega)
  rw [Int.neg_tmod] at hi1
  go_enter Tryz.func64,Tryz.ntmps64
  go_wp2
  go_ret
  exact ⟨⟨i,by rw [← hi1];rfl,hi2⟩,rfl⟩
 ·obtain ⟨i,hi1,hi2⟩:=fin c (by omega)
  go_enter Tryz.func64,Tryz.ntmps64
  go_wp2
  go_ret
  exact ⟨⟨i,by rw [← hi1];rfl,hi2⟩,rfl⟩
end Go.Proofs.YtaacjjhmojecnaaGreatDoor
