import Derived.Test.YtaacjjhmojecnaaGreatDoorP01
import Derived.Test.YtaacjjhmojecnaaGreatDoorP05
import Derived.Test.YtaacjjhmojecnaaGreatDoorP04
import Derived.BigQuiet
import Derived.WalkSpells
import Derived.WalkLawsBesides
import Derived.RangeFuncNested
import Derived.RangeFuncBound
import Derived.RangeFuncCalls
import Derived.RangeFuncLeaves
import Derived.RangeFuncBox
import Derived.Shelf.Abstract
import Derived.Shelf.RegionOpen
import Derived.WalkKit
import Derived.OwnWalkIn
import Derived.TacticsInMore
import Derived.LoopNIn
import Derived.LoopIn
namespace Go.ScT
def findK:List (List UInt8 × Bool)→List UInt8→Option Nat
 | [],_=>none
 | d :: r,key=>if d.2 && d.1 == key then some 0 else (findK r key).map (·+1)
def liveN (ds:List (List UInt8 × Bool)):Nat:=ds.countP (·.2)
def killAt (ds:List (List UInt8 × Bool)) (i:Nat):List (List UInt8 × Bool):=ds.modify i fun d=>(d.1,false)
def fInt (k:Nat) (o:Option Nat):Int:=match o with | some i=>((k+i:Nat):Int) | none=>-1
theorem fInt_succ (k:Nat) (o:Option Nat):fInt k (o.map (·+1))=fInt (k+1) o:=by
 cases o with
 | none=>rfl
 | some i=>show ((k+(i+1):Nat):Int)=((k+1+i:Nat):Int);omega
theorem findK_lt:∀ (ds:List (List UInt8 × Bool)) (key:List UInt8) (i:Nat),findK ds key=some i→i < ds.length
 | [],_,_,h=>by simp [findK] at h
 | d :: r,key,i,h=>by
   simp only [findK] at h
   split at h
   ·simp at h;subst h;simp
   ·obtain ⟨j,hj,rfl⟩:=Option.map_eq_some_iff.1 h
    have:=findK_lt r key j hj
    simp;omega
theorem findK_drop (ds:List (List UInt8 × Bool)) (key:List UInt8) (k:Nat) (d:List UInt8 × Bool) (h:ds[k]?=some d) :
 findK (ds.drop k) key=if d.2 && d.1 == key then some 0 else (findK (ds.drop (k+1)) key).map (·+1):=by
 obtain ⟨h1,h2⟩:=List.getElem?_eq_some_iff.1 h
 rw [List.drop_eq_getElem_cons h1,h2]
 rfl
end Go.ScT
namespace Go.Proofs.YtaacjjhmojecnaaGreatDoor
open Go.RowKit Go.ScT Go.Proofs
structure Turned (Z:Nat→Prop) (w w':World):Prop where
 os:w'.os=w.os
 tape:w'.tape=w.tape
 output:w'.output=w.output
 size:w.heap.size≤w'.heap.size
 block:∀ b,b < w.heap.size→¬ Z b→w'.heap[b]?=w.heap[b]?
theorem Turned.refl (Z:Nat→Prop) (w:World):Turned Z w w:=⟨rfl,rfl,rfl,Nat.le_refl _,fun _ _ _=>rfl⟩
theorem Turned.trans {Z:Nat→Prop} {a b c:World} (h:Turned Z a b) (k:Turned Z b c):Turned Z a c :=
 ⟨k.os.trans h.os,k.tape.trans h.tape,k.output.trans h.output,Nat.le_trans h.size k.size,fun i hi hz=>(k.block i (Nat.lt_of_lt_of_le hi h.size) hz).trans (h.block i hi hz)⟩
theorem Turned.mono {Z Z':Nat→Prop} {a b:World} (h:Turned Z a b) (hz:∀ i,i < a.heap.size→Z i→Z' i):Turned Z' a b :=
 ⟨h.os,h.tape,h.output,h.size,fun i hi hn=>h.block i hi (fun hz'=>hn (hz i hi hz'))⟩
theorem Turned.ofBelow {Z:Nat→Prop} {a b:World} (h:Below a.heap.size a b):Turned Z a b:=⟨h.os,h.tape,h.output,h.size,fun i hi _=>h.block i hi⟩
theorem Turned.ofGrown {Z:Nat→Prop} {a b:World} {row:Option Nat} (h:a.grownBy b row) (hr:∀ k,row=some k→k < a.heap.size→Z k):Turned Z a b :=
 ⟨h.os,h.tape,h.output,h.size,fun i hi hn=>h.block i hi (fun e=>hn (hr i e.symm hi))⟩
theorem Turned.ofAlloc {Z:Nat→Prop} (w:World) (o:Obj):Turned Z w (w.alloc o):=Turned.ofBelow ((Below.refl _ w).alloc (Nat.le_refl _) o)
theorem Turned.ofSet {Z:Nat→Prop} (w:World) (a:Addr) (v:Value) (hz:Z a.block):Turned Z w (w.setCell a v) :=
 ⟨rfl,rfl,rfl,by simp [World.setCell],fun b _ hb=>Below.heap_setCell _ _ _ _ (fun e=>hb (e ▸ hz))⟩
theorem Turned.ofDrew {Z:Nat→Prop} {a b:World} (h:Turned Z a b) (q:Nat):Turned Z a (b.drewN q):=⟨h.os,h.tape,h.output,h.size,h.block⟩
theorem ownsRow_turned {Z:Nat→Prop} {w w':World} {base:Nat} {e:TypeId} {size:Nat} {v:Value} {n:Nat} {xs:List Value} (h:w.ownsRow base e size v n xs) (ht:Turned Z w w') (hz:∀ g,v.ownBlock=some g→¬ Z g):w'.ownsRow base e size v n xs:=by
 refine ⟨h.1,?_⟩
 rcases h.2 with h0 | ⟨g,cap,cur,h1,h2,h3,h4⟩
 ·exact Or.inl h0
 ·refine Or.inr ⟨g,cap,cur,h1,h2,?_,h4⟩
  rw [ht.block g (lt_of_block h3) (hz g (by rw [h1];rfl))]
  exact h3
theorem ownsRow_shape {w:World} {base:Nat} {e:TypeId} {size:Nat} {v:Value} {n:Nat} {xs:List Value} (h:w.ownsRow base e size v n xs) :
 ∃ (g cap:Nat) (ao:Option Addr),v=.slice ao n cap∧v.ownBlock=ao.map (·.block)∧(0 < n→ao=some ⟨g,0,none⟩):=by
 rcases h.2 with ⟨h1,h2⟩ | ⟨g,cap,cur,h1,_⟩
 ·exact ⟨0,0,none,by rw [h1,h2],by rw [h1];rfl,fun h=>by omega⟩
 ·exact ⟨g,cap,some ⟨g,0,none⟩,h1,by rw [h1];rfl,fun _=>rfl⟩
theorem ret_i64 {a b:Int} (h:a=b):Ending.returned (.int .i64 a)=.returned (.int .i64 b):=by rw [h]
structure RefOk (w:World) (Z:Nat→Prop) (y:Nat) (ds:List (List UInt8 × Bool)) (v1 v2 v3 v4:Value) (xs:List Value) (ws:List Bool):Prop where
 eng:w.heap[y]?=some (.cells #[v1,v2,v3,v4] 193 (0,0))
 own1:w.ownsRow 0 185 3 v1 ds.length xs
 keys:∀ i d,ds[i]?=some d→xs[i * 3]?=some (.string ⟨d.1.toArray⟩)
 own2:w.ownsRow 0 4 1 v2 ds.length (ds.map fun d=>.bool d.2)
 own3:w.ownsRow 0 4 1 v3 ds.length (ws.map .bool)
 zy:Z y
 z1:∀ g,v1.ownBlock=some g→Z g
 z2:∀ g,v2.ownBlock=some g→Z g
 z3:∀ g,v3.ownBlock=some g→Z g
 apart:∀ g,v2.ownBlock=some g→v3.ownBlock≠some g
theorem cell_four {w:World} {y:Nat} {v1 v2 v3 v4:Value} {t:TypeId} (h:w.heap[y]?=some (.cells #[v1,v2,v3,v4] t (0,0))) :
 w.cell? ⟨y,0,none⟩=some v1∧w.cell? ⟨y,1,none⟩=some v2∧w.cell? ⟨y,2,none⟩=some v3∧w.cell? ⟨y,3,none⟩=some v4:=by
 simp [World.cell?,h]
theorem frozen_four {w:World} {y:Nat} {v1 v2 v3 v4:Value} {t:TypeId} (h:w.heap[y]?=some (.cells #[v1,v2,v3,v4] t (0,0))) (j:Nat):w.frozen? ⟨y,j,none⟩=false:=by
 simp [World.frozen?,h]
set_option maxHeartbeats 1000000 in
set_option maxRecDepth 1000000 in
theorem refCount_any (w:World) (Z:Nat→Prop) (y:Nat) (ds:List (List UInt8 × Bool)) (v1 v2 v3 v4:Value) (xs:List Value) (ws:List Bool) (h:RefOk w Z y ds v1 v2 v3 v4 xs ws) (hl:ds.length≤100) :
 Calls Tryz.prog 121 #[.pointer (some ⟨y,0,none⟩)] w fun e w'=>e=.returned (.int .i64 (liveN ds:Int))∧∃ q,w'=w.drewN q:=by
 obtain ⟨c0,c1,c2,c3⟩:=cell_four h.eng
 obtain ⟨g,cap,ao,hv,_,hao⟩:=ownsRow_shape h.own2
 have HC:Hid (∀ (j:Nat) (d:List UInt8 × Bool),ds[j]?=some d→ao=some ⟨g,0,none⟩∧w.cell? ⟨g,j,none⟩=some (.bool d.2)):=by
  intro j d hj
  have hlt:=(List.getElem?_eq_some_iff.1 hj).1
  have h1:=hao (by omega)
  have ho:=h.own2
  rw [hv,h1] at ho
  refine ⟨h1,?_⟩
  rw [ho.cellAt j (by omega),List.getElem?_map,hj]
  rfl
 rw [hv] at c1
 clear h hv hao c0 c2 c3
 go_enter Tryz.func121,Tryz.ntmps121
 go_wp2
 go_loopw [3,4] (fun s3 s4 wr=>∃ k:Nat,k≤ds.length∧s4=.int .i64 (k:Int)∧s3=.int .i64 (liveN (ds.take k):Int)∧∃ q,wr=w.drewN q) (fun _ s4 _=>ds.length - (intOf s4).toNat)
 case atStart=>exact ⟨0,by omega,rfl,rfl,0,rfl⟩
 case round =>
  obtain ⟨k,hk,rfl,rfl,q,rfl⟩:=hrel
  by_cases hlt:k < ds.length
  ·obtain ⟨d,hd⟩:∃ d,ds[k]?=some d:=⟨_,List.getElem?_eq_getElem hlt⟩
   obtain ⟨rfl,hc⟩:=HC.out k d hd
   have hle:liveN (ds.take k)≤k:=by
    have:=List.countP_le_length (p:=fun d:List UInt8 × Bool=>d.2) (l:=ds.take k)
    unfold liveN
    simp at this ⊢
    omega
   have HS:Hid (liveN (ds.take (k+1))=liveN (ds.take k)+if d.2 then 1 else 0):=show _=_ by
    unfold liveN
    rw [List.take_add_one,hd,List.countP_append]
    simp [List.countP_cons]
   clear hd
   by_cases hd2:d.2=true
   ·go_wp2
    go_roundw
    case rel=>exact ⟨k+1,by omega,by go_num,by rw [HS.out,if_pos hd2];go_num,_,rfl⟩
    case measure=>simp [intOf];omega
   ·have hdf:d.2=false:=by simpa using hd2
    clear hd2
    go_wp2
    go_roundw
    case rel=>exact ⟨k+1,by omega,by go_num,by rw [HS.out,hdf];rfl,_,rfl⟩
    case measure=>simp [intOf];omega
  ·have hkz:¬ ((k:Int) < (ds.length:Int)):=by omega
   have HE:Hid (liveN (ds.take k)=liveN ds):=show _=_ by rw [List.take_of_length_le (by omega)]
   go_wp2
   go_ret
   exact ⟨by rw [← HE.out];rfl,_,rfl⟩
set_option maxHeartbeats 1000000 in
set_option maxRecDepth 1000000 in
theorem refFind_any (w:World) (Z:Nat→Prop) (y:Nat) (ds:List (List UInt8 × Bool)) (v1 v2 v3 v4:Value) (xs:List Value) (ws:List Bool) (h:RefOk w Z y ds v1 v2 v3 v4 xs ws) (hl:ds.length≤100) (key:List UInt8) :
 Calls Tryz.prog 189 #[.pointer (some ⟨y,0,none⟩),.string ⟨key.toArray⟩] w fun e w'=>e=.returned (.int .i64 (fInt 0 (findK ds key)))∧∃ q,w'=w.drewN q:=by
 obtain ⟨c0,c1,c2,c3⟩:=cell_four h.eng
 obtain ⟨g,cap,ao,hv,_,hao⟩:=ownsRow_shape h.own2
 obtain ⟨g1,cap1,ao1,hv1,_,hao1⟩:=ownsRow_shape h.own1
 have HC:Hid (∀ (j:Nat) (d:List UInt8 × Bool),ds[j]?=some d→ao=some ⟨g,0,none⟩∧w.cell? ⟨g,j,none⟩=some (.bool d.2)∧ao1=some ⟨g1,0,none⟩∧w.cell? ⟨g1,j * 3,none⟩=some (.string ⟨d.1.toArray⟩)):=by
  intro j d hj
  have hlt:=(List.getElem?_eq_some_iff.1 hj).1
  have h1:=hao (by omega)
  have h2:=hao1 (by omega)
  have ho:=h.own2
  rw [hv,h1] at ho
  have ho1:=h.own1
  rw [hv1,h2] at ho1
  refine ⟨h1,?_,h2,?_⟩
  ·rw [ho.cellAt j (by omega),List.getElem?_map,hj]
   rfl
  ·rw [ho1.cellAt (j * 3) (by omega),h.keys j d hj]
 rw [hv] at c1
 rw [hv1] at c0
 clear h hv hao hv1 hao1 c2 c3
 obtain ⟨R,hR⟩:∃ R:Int,(fInt 0 (findK ds key))=R:=⟨_,rfl⟩
 rw [hR]
 have HR:Hid (fInt 0 (findK (ds.drop 0) key)=R):=by
  show _=_
  rw [← hR,List.drop_zero]
 clear hR
 go_enter Tryz.func189,Tryz.ntmps189
 go_wp2
 go_loopw [5] (fun s5 wr=>∃ k:Nat,k≤ds.length∧s5=.int .i64 (k:Int)∧Hid (fInt k (findK (ds.drop k) key)=R)∧∃ q,wr=w.drewN q) (fun s5 _=>ds.length - (intOf s5).toNat)
 case atStart=>exact ⟨0,by omega,rfl,HR,0,rfl⟩
 case round =>
  obtain ⟨k,hk,rfl,HK,q,rfl⟩:=hrel
  by_cases hlt:k < ds.length
  ·obtain ⟨d,hd⟩:∃ d,ds[k]?=some d:=⟨_,List.getElem?_eq_getElem hlt⟩
   obtain ⟨rfl,hc,rfl,hc1⟩:=HC.out k d hd
   have HS:Hid (findK (ds.drop k) key=if d.2 && d.1 == key then some 0 else (findK (ds.drop (k+1)) key).map (·+1)):=findK_drop ds key k d hd
   clear hd
   by_cases hd2:d.2=true
   ·by_cases hke:d.1=key
    ·have hkb:(d.1 == key)=true:=by simp [hke]
     have HE:Hid ((k:Int)=R):=show _=_ by
      rw [← HK.out,HS.out,hd2,hkb];rfl
     go_wp2
     go_ret
     exact ⟨ret_i64 HE.out,_,rfl⟩
    ·have hkb:(d.1 == key)=false:=beq_eq_false_iff_ne.2 hke
     clear hke
     have HE:Hid (fInt (k+1) (findK (ds.drop (k+1)) key)=R):=show _=_ by
      rw [← HK.out,HS.out,hd2,hkb]
      exact (fInt_succ k _).symm
     go_wp2
     go_roundw
     case rel=>exact ⟨k+1,by omega,by go_num,HE,_,rfl⟩
     case measure=>simp [intOf];omega
   ·have hdf:d.2=false:=by simpa using hd2
    clear hd2
    have HE:Hid (fInt (k+1) (findK (ds.drop (k+1)) key)=R):=show _=_ by
     rw [← HK.out,HS.out,hdf]
     exact (fInt_succ k _).symm
    go_wp2
    go_roundw
    case rel=>exact ⟨k+1,by omega,by go_num,HE,_,rfl⟩
    case measure=>simp [intOf];omega
  ·have hkz:¬ ((k:Int) < (ds.length:Int)):=by omega
   have HE:Hid ((-1:Int)=R):=show _=_ by
    rw [← HK.out,List.drop_of_length_le (by omega)]
    rfl
   go_wp2
   go_ret
   exact ⟨ret_i64 HE.out,_,rfl⟩
def RdAt (w:World) (b:Nat) (s:ByteArray) (st:RSt):Prop:=∃ at_:Nat,w.heap[b]?=some (.cells #[.string s,.int .i64 (at_:Int),.bool st.2] 182 (0,0))∧at_≤s.size∧s.data.toList.drop at_=st.1
theorem cell_three {w:World} {y:Nat} {v1 v2 v3:Value} {t:TypeId} (h:w.heap[y]?=some (.cells #[v1,v2,v3] t (0,0))) :
 w.cell? ⟨y,0,none⟩=some v1∧w.cell? ⟨y,1,none⟩=some v2∧w.cell? ⟨y,2,none⟩=some v3∧(∀ j,w.frozen? ⟨y,j,none⟩=false):=by
 simp [World.cell?,World.frozen?,h]
theorem RdAt.lt {w:World} {b:Nat} {s:ByteArray} {st:RSt} (h:RdAt w b s st):b < w.heap.size:=by
 obtain ⟨a,h,_⟩:=h
 exact lt_of_block h
theorem RdAt.turned {w w':World} {Z:Nat→Prop} {b:Nat} {s:ByteArray} {st:RSt} (h:RdAt w b s st) (ht:Turned Z w w') (hz:¬ Z b):RdAt w' b s st:=by
 have hl:=h.lt
 obtain ⟨a,h,h2⟩:=h
 exact ⟨a,(ht.block b hl hz).trans h,h2⟩
set_option maxHeartbeats 1000000 in
set_option maxRecDepth 1000000 in
theorem rd_bad (w:World) (b:Nat) (s:ByteArray) (at_:Nat) (h:w.heap[b]?=some (.cells #[.string s,.int .i64 (at_:Int),.bool true] 182 (0,0))) :
 Calls Tryz.prog 103 #[.pointer (some ⟨b,0,none⟩)] w fun e w'=>e=.returned (.int .i64 0)∧∃ q,w'=(w.drewN q).setCell ⟨b,2,none⟩ (.bool true):=by
 obtain ⟨c0,c1,c2,cf⟩:=cell_three h
 have f2:=cf 2
 clear h cf
 go_enter Tryz.func103,Tryz.ntmps103
 go_wp2
 go_quiet (fail)
 go_wp2
 go_ret
 exact ⟨rfl,_,rfl⟩
set_option maxHeartbeats 1000000 in
set_option maxRecDepth 1000000 in
theorem rd_end (w:World) (b:Nat) (s:ByteArray) (at_:Nat) (h:w.heap[b]?=some (.cells #[.string s,.int .i64 (at_:Int),.bool false] 182 (0,0))) (ha:s.size≤at_) :
 Calls Tryz.prog 103 #[.pointer (some ⟨b,0,none⟩)] w fun e w'=>e=.returned (.int .i64 0)∧∃ q,w'=(w.drewN q).setCell ⟨b,2,none⟩ (.bool true):=by
 obtain ⟨c0,c1,c2,cf⟩:=cell_three h
 have f2:=cf 2
 have hge:(s.size:Int)≤(at_:Int):=by omega
 clear h cf
 go_enter Tryz.func103,Tryz.ntmps103
 go_wp2
 go_quiet (fail)
 go_wp2
 go_ret
 exact ⟨rfl,_,rfl⟩
set_option maxHeartbeats 1000000 in
set_option maxRecDepth 1000000 in
theorem rd_good (w:World) (b:Nat) (s:ByteArray) (at_:Nat) (h:w.heap[b]?=some (.cells #[.string s,.int .i64 (at_:Int),.bool false] 182 (0,0))) (ha:at_ < s.size) (hs:s.size≤60000) :
 Calls Tryz.prog 103 #[.pointer (some ⟨b,0,none⟩)] w fun e w'=>e=.returned (.int .i64 (s[at_].toNat:Int))∧∃ q q',w'=((w.drewN q).setCell ⟨b,1,none⟩ (.int .i64 ((at_:Int)+1))).drewN q':=by
 obtain ⟨c0,c1,c2,cf⟩:=cell_three h
 have f1:=cf 1
 have H:Hid (∀ q,((w.drewN q).setCell ⟨b,1,none⟩ (.int .i64 ((at_:Int)+1))).heap[b]?=some (.cells #[.string s,.int .i64 ((at_:Int)+1),.bool false] 182 (0,0))):=fun q=>heap_setCell_same (w.drewN q) b 1 _ 182 _ h
 have hge:¬ ((s.size:Int)≤(at_:Int)):=by omega
 have hgf:decide ((s.size:Int)≤(at_:Int))=false:=decide_eq_false hge
 clear h cf
 go_enter Tryz.func103,Tryz.ntmps103
 go_wp2
 go_quiet (fail)
 go_wp2
 obtain ⟨d0,d1,_,_⟩:=cell_three (H.out nq)
 generalize hW:(w.drewN nq).setCell ⟨b,1,none⟩ (.int .i64 ((at_:Int)+1))=W2 at d0 d1 ⊢
 clear c0 c1 c2 f1
 go_quiet (fail)
 go_wp2
 go_ret
 refine ⟨?_,_,_,by rw [hW]⟩
 have hb:=s[at_].toNat_lt
 exact ret_i64 (show wrap64 ((s[at_].toNat:Int))=_ by unfold wrap64;omega)
theorem RdAt.set {w:World} {b:Nat} {s:ByteArray} {at_:Nat} {bad:Bool} (h:w.heap[b]?=some (.cells #[.string s,.int .i64 (at_:Int),.bool bad] 182 (0,0))) (ha:at_≤s.size) (q:Nat) :
 RdAt ((w.drewN q).setCell ⟨b,2,none⟩ (.bool true)) b s (s.data.toList.drop at_,true)∧Turned (fun i=>i=b) w ((w.drewN q).setCell ⟨b,2,none⟩ (.bool true)) :=
 ⟨⟨at_,heap_setCell_same (w.drewN q) b 2 _ 182 _ h,ha,rfl⟩,(Turned.ofDrew (Turned.refl _ w) q).trans (Turned.ofSet _ _ _ rfl)⟩
theorem byte1_any (w:World) (b:Nat) (s:ByteArray) (st:RSt) (h:RdAt w b s st) (hs:s.size≤60000) :
 Calls Tryz.prog 103 #[.pointer (some ⟨b,0,none⟩)] w fun e w'=>e=.returned (.int .i64 ((rByte st).1:Int))∧RdAt w' b s (rByte st).2∧Turned (fun i=>i=b) w w':=by
 obtain ⟨at_,h,ha,hd⟩:=h
 obtain ⟨r,bad⟩:=st
 simp only at h hd
 subst hd
 cases bad with
 | true =>
   have e:rByte (s.data.toList.drop at_,true)=(0,(s.data.toList.drop at_,true)):=by unfold rByte;split <;> simp_all
   rw [e]
   refine (rd_bad w b s at_ h).mono ?_
   rintro e w' ⟨rfl,q,rfl⟩
   exact ⟨rfl,(RdAt.set h ha q).1,(RdAt.set h ha q).2⟩
 | false =>
   by_cases hlt:at_ < s.size
   ·have hl2:at_ < s.data.toList.length:=by simpa using hlt
    have e:rByte (s.data.toList.drop at_,false)=(s[at_].toNat,(s.data.toList.drop (at_+1),false)):=by
     rw [List.drop_eq_getElem_cons hl2]
     rfl
    rw [e]
    refine (rd_good w b s at_ h hlt hs).mono ?_
    rintro e w' ⟨rfl,q,q',rfl⟩
    refine ⟨rfl,⟨at_+1,?_,hlt,rfl⟩,((Turned.ofDrew (Turned.refl (fun i=>i=b) w) q).trans (Turned.ofSet _ _ _ rfl)).ofDrew q'⟩
    exact heap_setCell_same (w.drewN q) b 1 _ 182 _ h
   ·have e:s.data.toList.drop at_=[]:=List.drop_eq_nil_of_le (by simp;omega)
    have e2:rByte (s.data.toList.drop at_,false)=(0,(s.data.toList.drop at_,true)):=by rw [e];rfl
    rw [e2]
    refine (rd_end w b s at_ h (by omega)).mono ?_
    rintro e w' ⟨rfl,q,rfl⟩
    exact ⟨rfl,(RdAt.set h ha q).1,(RdAt.set h ha q).2⟩
theorem rByte_lt (st:RSt):(rByte st).1 < 256:=by
 unfold rByte;split
 ·rename_i b t;exact b.toNat_lt
 ·simp
def rVarL:Nat→Nat→Nat→RSt→Nat × RSt
 | 0,_,n,st=>(n,st)
 | j+1,times,n,st=>if (rByte st).1 < 128 then (n+(rByte st).1 % 128 * times,(rByte st).2) else rVarL j (times * 128) (n+(rByte st).1 % 128 * times) (rByte st).2
theorem rVarL_three (most:Nat) (st:RSt):rVar most st=rFin most (rVarL 3 1 0 st).1 (rVarL 3 1 0 st).2:=by
 unfold rVar
 simp only [rVarL]
 split
 ·rename_i h;simp;congr 1;omega
 ·split
  ·rename_i h;simp;congr 1;omega
  ·split
   ·simp
   ·simp
theorem pow128 (k:Nat) (h:k≤3):128 ^ k≤2097152:=by
 have:=Nat.pow_le_pow_right (n:=128) (by omega) h
 omega
theorem rd_setBad {w:World} {b:Nat} {s:ByteArray} {st:RSt} (h:RdAt w b s st):RdAt (w.setCell ⟨b,2,none⟩ (.bool true)) b s (st.1,true):=by
 obtain ⟨a,h,h2,h3⟩:=h
 exact ⟨a,heap_setCell_same w b 2 _ 182 _ h,h2,h3⟩
theorem rd_frozen {w:World} {b:Nat} {s:ByteArray} {st:RSt} (h:RdAt w b s st):(∀ j,w.frozen? ⟨b,j,none⟩=false)∧w.cell? ⟨b,2,none⟩=some (.bool st.2):=by
 obtain ⟨a,h,h2,h3⟩:=h
 exact ⟨(cell_three h).2.2.2,(cell_three h).2.2.1⟩
set_option maxHeartbeats 1000000 in
set_option maxRecDepth 1000000 in
theorem varintR_any (w:World) (b:Nat) (s:ByteArray) (st:RSt) (h:RdAt w b s st) (hs:s.size≤60000) (most:Nat) (hm:most≤100000) :
 Calls Tryz.prog 104 #[.pointer (some ⟨b,0,none⟩),.int .i64 (most:Int)] w fun e w'=>e=.returned (.int .i64 ((rVar most st).1:Int))∧RdAt w' b s (rVar most st).2∧Turned (fun i=>i=b) w w'∧(rVar most st).1 < 2097152:=by
 rw [rVarL_three]
 obtain ⟨R,hR⟩:∃ R,rVarL 3 1 0 st=R:=⟨_,rfl⟩
 rw [hR]
 have HR:Hid (rVarL (3 - 0) (128 ^ 0) 0 st=R):=hR
 have H0:Hid (RdAt w b s st):=h
 clear hR h
 go_enter Tryz.func104,Tryz.ntmps104
 go_wp2
 go_loopw [5,6,7,8] (fun s5 s6 s7 s8 wr=>∃ (k n:Nat) (st':RSt),s5=.int .i64 (n:Int)∧s6=.int .i64 ((128 ^ k:Nat):Int)∧s7=.int .i64 (k:Int)∧k≤3∧n < 128 ^ k∧Hid (RdAt wr b s st')∧Hid (Turned (fun i=>i=b) w wr)∧Hid (rVarL (3 - k) (128 ^ k) n st'=R)) (fun _ _ s7 _ _=>3 - (intOf s7).toNat)
 case atStart=>exact ⟨0,0,st,rfl,rfl,rfl,by omega,by simp,H0,Turned.refl _ _,HR⟩
 case round =>
  obtain ⟨k,n,st',rfl,rfl,rfl,hk,hn,HA,HT,HL⟩:=hrel
  have hp:=pow128 k hk
  by_cases hlt:k < 3
  ·have C:Hid (Calls Tryz.prog 103 #[.pointer (some ⟨b,0,none⟩)] wr fun e w'=>e=.returned (.int .i64 ((rByte st').1:Int))∧RdAt w' b s (rByte st').2∧Turned (fun i=>i=b) wr w'):=byte1_any wr b s st' HA.out hs
   have hb:=rByte_lt st'
   obtain ⟨y,hy⟩:∃ y,(rByte st').1=y:=⟨_,rfl⟩
   obtain ⟨st2,h2⟩:∃ st2,(rByte st').2=st2:=⟨_,rfl⟩
   have HL2:Hid (if y < 128 then (n+y % 128 * 128 ^ k,st2)=R else rVarL (3 - (k+1)) (128 ^ (k+1)) (n+y % 128 * 128 ^ k) st2=R):=show _ by
    have:=HL.out
    rw [show 3 - k=(3 - (k+1))+1 by omega,rVarL,hy,h2] at this
    rw [Nat.pow_succ]
    split at this <;> rename_i hc <;> simp only [hc,if_true,if_false] <;> exact this
   rw [hy,h2] at C
   rw [hy] at hb
   clear HL hy h2 HA
   have hmul:y % 128 * 128 ^ k≤127 * 128 ^ k:=Nat.mul_le_mul_right _ (by omega)
   have hp2:128 ^ (k+1)=128 ^ k * 128:=Nat.pow_succ _ _
   have hk2:128 ^ k≤16384:=by have:=Nat.pow_le_pow_right (n:=128) (by omega) (show k≤2 by omega);omega
   generalize hP:128 ^ k=P at *
   generalize hM:y % 128 * P=M at *
   have hMi:((y:Int) % 128) * (P:Int)=(M:Int):=by rw [← hM];simp
   by_cases hy:y < 128
   ·have hyi:(y:Int) < 128:=by omega
    have hRe:Hid (R=(n+M,st2)):=show _=_ by have:=HL2.out;rw [if_pos hy] at this;exact this.symm
    by_cases hmo:most < n+M
    ·have hmi:(most:Int) < (n:Int)+(M:Int):=by omega
     go_wp2_with (first | (go_at_call 103;refine C.out.mono ?_;rintro e w2 ⟨rfl,hA2,hT2⟩;obtain ⟨hf2,hc2⟩:=rd_frozen hA2;have hf3:=hf2 2;have HA2:Hid (RdAt w2 b s st2):=hA2;clear hA2 hf2))
     go_ret
     rw [hRe.out]
     exact ⟨ret_i64 (by simp [rFin]),by simpa [rFin,hmo] using rd_setBad HA2.out,(HT.out.trans hT2).trans (Turned.ofSet _ _ _ rfl),by simp only [rFin];omega⟩
    ·have hmi:¬ ((most:Int) < (n:Int)+(M:Int)):=by omega
     go_wp2_with (first | (go_at_call 103;refine C.out.mono ?_;rintro e w2 ⟨rfl,hA2,hT2⟩;obtain ⟨hf2,hc2⟩:=rd_frozen hA2;have hf3:=hf2 2;have HA2:Hid (RdAt w2 b s st2):=hA2;clear hA2 hf2))
     go_ret
     rw [hRe.out]
     exact ⟨ret_i64 (by simp [rFin]),by simpa [rFin,hmo] using HA2.out,HT.out.trans hT2,by simp only [rFin];omega⟩
   ·have hyi:¬ ((y:Int) < 128):=by omega
    have HL3:Hid (rVarL (3 - (k+1)) (128 ^ (k+1)) (n+M) st2=R):=show _=_ by have:=HL2.out;rw [if_neg hy] at this;exact this
    go_wp2_with (first | (go_at_call 103;refine C.out.mono ?_;rintro e w2 ⟨rfl,hA2,hT2⟩;obtain ⟨hf2,hc2⟩:=rd_frozen hA2;have hf3:=hf2 2;have HA2:Hid (RdAt w2 b s st2):=hA2;clear hA2 hf2))
    go_roundw
    case rel=>exact ⟨k+1,n+M,st2,by go_num,by rw [hp2];go_num,by go_num,by omega,by rw [hp2];omega,HA2,HT.out.trans hT2,HL3⟩
    case measure=>simp [intOf];omega
  ·obtain rfl:k=3:=by omega
   have hRe:Hid (R=(n,st')):=show _=_ by have:=HL.out;simp [rVarL] at this;exact this.symm
   obtain ⟨hf2,hc2⟩:=rd_frozen HA.out
   have hf3:=hf2 2
   clear hf2
   by_cases hmo:most < n
   ·have hmi:(most:Int) < (n:Int):=by omega
    go_wp2
    go_ret
    rw [hRe.out]
    exact ⟨rfl,by simpa [rFin,hmo] using rd_setBad HA.out,HT.out.trans (Turned.ofSet _ _ _ rfl),by simp only [rFin];omega⟩
   ·have hmi:¬ ((most:Int) < (n:Int)):=by omega
    go_wp2
    go_ret
    rw [hRe.out]
    exact ⟨rfl,by simpa [rFin,hmo] using HA.out,HT.out,by simp only [rFin];omega⟩
theorem ext_take (s:ByteArray) (a n:Nat):s.extract a (a+n)=⟨((s.data.toList.drop a).take n).toArray⟩:=by
 apply ByteArray.ext
 apply Array.toList_inj.1
 rw [Lib.extract_data]
 simp
theorem RdAt.opened {w:World} {b:Nat} {s:ByteArray} {r:Bs} {bad:Bool} (h:RdAt w b s (r,bad)):∃ a:Nat,w.heap[b]?=some (.cells #[.string s,.int .i64 (a:Int),.bool bad] 182 (0,0))∧a≤s.size∧s.data.toList.drop a=r:=h
set_option maxHeartbeats 1000000 in
set_option maxRecDepth 1000000 in
theorem textR_any (w:World) (b:Nat) (s:ByteArray) (st:RSt) (h:RdAt w b s st) (hs:s.size≤60000) :
 Calls Tryz.prog 105 #[.pointer (some ⟨b,0,none⟩)] w fun e w'=>e=.returned (.string ⟨(rText st).1.toArray⟩)∧RdAt w' b s (rText st).2∧Turned (fun i=>i=b) w w':=by
 have C:Hid (Calls Tryz.prog 103 #[.pointer (some ⟨b,0,none⟩)] w fun e w'=>e=.returned (.int .i64 ((rByte st).1:Int))∧RdAt w' b s (rByte st).2∧Turned (fun i=>i=b) w w'):=byte1_any w b s st h hs
 have hb:=rByte_lt st
 unfold rText
 obtain ⟨n,hn⟩:∃ n,(rByte st).1=n:=⟨_,rfl⟩
 obtain ⟨st1,h1⟩:∃ st1,(rByte st).2=st1:=⟨_,rfl⟩
 rw [hn,h1] at C
 rw [hn] at hb
 rw [hn,h1]
 clear hn h1 h
 obtain ⟨r,bad⟩:=st1
 simp only
 go_enter Tryz.func105,Tryz.ntmps105
 cases bad with
 | true =>
   simp only [true_or,if_true]
   go_wp2_with (first | (go_at_call 103;refine C.out.mono ?_;rintro e w2 ⟨rfl,hA,hT2⟩;obtain ⟨a,hB,ha,hd⟩:=RdAt.opened hA;obtain ⟨c0,c1,c2,cf⟩:=cell_three hB;have f2:=cf 2;have HB:Hid (w2.heap[b]?=_):=hB;clear cf hB))
   go_quiet (fail)
   go_wp2
   go_ret
   exact ⟨rfl,⟨a,heap_setCell_same (w2.drewN nq) b 2 _ 182 _ HB.out,ha,hd⟩,(hT2.ofDrew nq).trans (Turned.ofSet _ _ _ rfl)⟩
 | false =>
   by_cases hl:r.length < n
   ·simp only [hl,or_true,if_true]
    go_wp2_with (first | (go_at_call 103;refine C.out.mono ?_;rintro e w2 ⟨rfl,hA,hT2⟩;obtain ⟨a,hB,ha,hd⟩:=RdAt.opened hA;obtain ⟨c0,c1,c2,cf⟩:=cell_three hB;have f2:=cf 2;have HB:Hid (w2.heap[b]?=_):=hB;have hgt:(s.size:Int) < (a:Int)+(n:Int):=by { have:=congrArg List.length hd;simp at this;omega };clear cf hB))
    go_quiet (fail)
    go_wp2
    go_ret
    exact ⟨rfl,⟨a,heap_setCell_same (w2.drewN nq) b 2 _ 182 _ HB.out,ha,hd⟩,(hT2.ofDrew nq).trans (Turned.ofSet _ _ _ rfl)⟩
   ·simp only [hl,or_false,Bool.false_eq_true,if_false]
    go_wp2_with (first | (go_at_call 103;refine C.out.mono ?_;rintro e w2 ⟨rfl,hA,hT2⟩;obtain ⟨a,hB,ha,hd⟩:=RdAt.opened hA;obtain ⟨c0,c1,c2,cf⟩:=cell_three hB;have f1:=cf 1;have HB:Hid (w2.heap[b]?=_):=hB;have hgt:¬ ((s.size:Int) < (a:Int)+(n:Int)):=by { have:=congrArg List.length hd;simp at this;omega };have hgf:decide ((s.size:Int) < (a:Int)+(n:Int))=false:=decide_eq_false hgt;clear cf hB))
    go_quiet (fail)
    go_wp2
    have hle:a+n≤s.size:=by omega
    have HB3:=heap_setCell_same (w2.drewN nq) b 1 _ 182 (.int .i64 ((a:Int)+(n:Int))) HB.out
    obtain ⟨d0,d1,_,_⟩:=cell_three HB3
    have HW:Hid (Turned (fun i=>i=b) w ((w2.drewN nq).setCell ⟨b,1,none⟩ (.int .i64 ((a:Int)+(n:Int))))∧((w2.drewN nq).setCell ⟨b,1,none⟩ (.int .i64 ((a:Int)+(n:Int)))).heap[b]?=some (.cells #[.string s,.int .i64 ((a:Int)+(n:Int)),.bool false] 182 (0,0))):=⟨(hT2.ofDrew nq).trans (Turned.ofSet _ _ _ rfl),HB3⟩
    generalize (w2.drewN nq).setCell ⟨b,1,none⟩ (.int .i64 ((a:Int)+(n:Int)))=W2 at d0 d1 HW ⊢
    clear c0 c1 c2 f1 HB3
    go_quiet (fail)
    go_wp2
    go_ret
    refine ⟨?_,⟨a+n,HW.out.2,hle,?_⟩,HW.out.1.ofDrew _⟩
    ·show Ending.returned (.string (s.extract a (a+n)))=_
     rw [ext_take,hd]
    ·rw [← hd,List.drop_drop]
abbrev natV (n:Nat):Value:=.int .i64 (n:Int)
theorem hid {p:Prop} (h:p):Hid p:=h
theorem Turned.over {Z Z':Nat→Prop} {a b c:World} (h:Turned Z a b) (k:Turned Z' b c) (hz:∀ i,i < a.heap.size→Z' i→Z i):Turned Z a c :=
 ⟨k.os.trans h.os,k.tape.trans h.tape,k.output.trans h.output,Nat.le_trans h.size k.size,fun i hi hn=>(k.block i (Nat.lt_of_lt_of_le hi h.size) (fun hz'=>hn (hz i hi hz'))).trans (h.block i hi hn)⟩
theorem bit_num (n y k:Nat) (hk:k < 8) (hn:n < 2 ^ k):wrap64 ((n:Int)+wrap64 ((y:Int) % 2 * 2 ^ k))=((n+y % 2 * 2 ^ k:Nat):Int)∧n+y % 2 * 2 ^ k < 2 ^ (k+1):=by
 have h1:2 ^ k≤2 ^ 7:=Nat.pow_le_pow_right (by omega) (by omega)
 have h2:y % 2 * 2 ^ k≤1 * 2 ^ k:=Nat.mul_le_mul_right _ (by omega)
 have h3:((y:Int) % 2 * 2 ^ k)=((y % 2 * 2 ^ k:Nat):Int):=by simp
 rw [h3,Nat.pow_succ]
 generalize y % 2 * 2 ^ k=M at *
 generalize 2 ^ k=P at *
 refine ⟨?_,by omega⟩
 unfold wrap64
 omega
theorem half_num (y:Nat) (h:y < 256):wrap64 ((y:Int) / 2)=((y / 2:Nat):Int):=by unfold wrap64;omega
theorem u_ne {w:World} {b:Nat} {u:Value} {n:Nat} {xs:List Value} {e:TypeId} {size:Nat} {wi:World} (h:wi.ownsRow w.heap.size e size u n xs) (hb:b < w.heap.size):∀ g,u.ownBlock=some g→¬ (g=b):=by
 intro g hg e
 have:=(h.lt g hg).1
 omega
set_option maxHeartbeats 2000000 in
set_option maxRecDepth 1000000 in
theorem bits_any (w:World) (b:Nat) (s:ByteArray) (st:RSt) (h:RdAt w b s st) (hs:s.size≤60000) (count wd_:Nat) (hc:count≤4) (hw8:wd_≤8) :
 Calls Tryz.prog 183 #[.pointer (some ⟨b,0,none⟩),.int .i64 (count:Int),.int .i64 (wd_:Int)] w fun e w'=>∃ v,e=.returned v∧w'.ownsRow w.heap.size 3 1 v (rBits count wd_ st).1.length ((rBits count wd_ st).1.map natV)∧RdAt w' b s (rBits count wd_ st).2∧Turned (fun i=>i=b) w w':=by
 obtain ⟨R,hR⟩:∃ R,rNums wd_ count (0,0,st)=R:=⟨_,rfl⟩
 have e1:rBits count wd_ st=(R.1,R.2.2.2):=by unfold rBits;rw [hR]
 rw [e1]
 have HR:Hid ((([]:List Nat)++(rNums wd_ (count - 0) (0,0,st)).1,(rNums wd_ (count - 0) (0,0,st)).2)=R):=show _=_ by rw [Nat.sub_zero,hR];rfl
 have H0:Hid (RdAt w b s st):=h
 have hbl:=h.lt
 clear hR h e1
 have hi3:(Tryz.prog.info? 3).map (fun i=>(i.zero,i.size,i.bytes))=some (some (.int .i64 0),1,8):=by kernel_rfl
 obtain ⟨i0,hi,hz0,hz1,hz2⟩:=info_parts hi3
 clear hi3
 go_enter Tryz.func183,Tryz.ntmps183
 go_wp2
 go_loopw [7,8,9,10,11,12] (fun s7 s8 s9 s10 s11 s12 wr=>∃ (i:Nat) (l:List Nat) (bv hv:Nat) (st':RSt),s10=.int .i64 (i:Int)∧s8=.int .i64 (bv:Int)∧s9=.int .i64 (hv:Int)∧i≤count∧l.length=i∧bv < 256∧hv≤8∧Hid (wr.ownsRow w.heap.size 3 1 s7 l.length (l.map natV))∧Hid (RdAt wr b s st')∧Hid (Turned (fun j=>j=b) w wr)∧Hid ((l++(rNums wd_ (count - i) (bv,hv,st')).1,(rNums wd_ (count - i) (bv,hv,st')).2)=R)) (fun _ _ _ s10 _ _ _=>count - (intOf s10).toNat)
 case atStart=>exact ⟨0,[],0,0,st,rfl,rfl,rfl,by omega,rfl,by omega,by omega,⟨rfl,Or.inl ⟨rfl,rfl⟩⟩,H0,Turned.refl _ _,HR⟩
 case round =>
  obtain ⟨i,l,bv,hv,st',rfl,rfl,rfl,hi_,hl,hbv,hhv,HO,HA,HT,HE⟩:=hrel
  by_cases hlt:i < count
  ·have hlti:(i:Int) < (count:Int):=by omega
   obtain ⟨RN,hRN⟩:∃ RN,rNum 0 wd_ 0 (bv,hv,st')=RN:=⟨_,rfl⟩
   have HE2:Hid ((l++RN.1 :: (rNums wd_ (count - (i+1)) RN.2).1,(rNums wd_ (count - (i+1)) RN.2).2)=R):=show _=_ by
    have:=HE.out
    rw [show count - i=(count - (i+1))+1 by omega] at this
    simp only [rNums,hRN] at this
    exact this
   have HN0:Hid (rNum 0 (wd_ - 0) 0 (bv,hv,st')=RN):=hRN
   clear hRN HE
   go_wp2
   go_loopw [8,9,11,12] (fun s8 s9 s11 s12 wi=>∃ (k n bv2 hv2:Nat) (st2:RSt),s12=.int .i64 (k:Int)∧s11=.int .i64 (n:Int)∧s8=.int .i64 (bv2:Int)∧s9=.int .i64 (hv2:Int)∧k≤wd_∧n < 2 ^ k∧bv2 < 256∧hv2≤8∧Hid (wi.ownsRow w.heap.size 3 1 u7 l.length (l.map natV))∧Hid (RdAt wi b s st2)∧Hid (Turned (fun j=>j=b) w wi)∧Hid (rNum k (wd_ - k) n (bv2,hv2,st2)=RN)) (fun _ _ _ s12 _=>wd_ - (intOf s12).toNat)
   case atStart=>exact ⟨0,0,bv,hv,st',rfl,rfl,rfl,rfl,by omega,by simp,hbv,hhv,HO,HA,HT,HN0⟩
   case round =>
    obtain ⟨k,n,bv2,hv2,st2,rfl,rfl,rfl,rfl,hk,hn,hb2,hh2,HO2,HA2,HT2,HN⟩:=hrel
    by_cases hkw:k < wd_
    ·have hkwi:(k:Int) < (wd_:Int):=by omega
     by_cases hz:hv2=0
     ·subst hz
      have C:Hid (Calls Tryz.prog 103 #[.pointer (some ⟨b,0,none⟩)] wr fun e w'=>e=.returned (.int .i64 ((rByte st2).1:Int))∧RdAt w' b s (rByte st2).2∧Turned (fun i=>i=b) wr w'):=byte1_any _ b s st2 HA2.out hs
      go_wp2_with (first | (go_at_call 103;refine C.out.mono ?_;rintro e w2 ⟨rfl,hA3,hT3⟩))
      go_roundw
      case rel =>
       have hbn:=bit_num n (rByte st2).1 k (by omega) hn
       have hlt2:=rByte_lt st2
       refine ⟨k+1,n+(rByte st2).1 % 2 * 2 ^ k,(rByte st2).1 / 2,7,(rByte st2).2,by go_num,by rw [hbn.1],by rw [half_num _ hlt2],rfl,by omega,hbn.2,by omega,by omega,ownsRow_turned HO2.out hT3 (u_ne HO2.out hbl),hA3,HT2.out.trans hT3,?_⟩
       have:=HN.out
       rw [show wd_ - k=(wd_ - (k+1))+1 by omega] at this
       simp [rNum,rBit,rFill] at this
       exact this
      case measure=>simp [intOf];omega
     ·have hzi:((hv2:Int) == 0)=false:=by simp;omega
      go_wp2
      go_roundw
      case rel =>
       have hbn:=bit_num n bv2 k (by omega) hn
       refine ⟨k+1,n+bv2 % 2 * 2 ^ k,bv2 / 2,hv2 - 1,st2,by go_num,by rw [hbn.1],by go_num,by go_num,by omega,hbn.2,by omega,by omega,HO2,HA2,HT2,?_⟩
       have:=HN.out
       rw [show wd_ - k=(wd_ - (k+1))+1 by omega] at this
       simp [rNum,rBit,rFill,hz] at this
       exact this
      case measure=>simp [intOf];omega
    ·have hkwi:¬ ((k:Int) < (wd_:Int)):=by omega
     have HN2:Hid (RN=(n,(bv2,hv2,st2))):=show _=_ by
      have:=HN.out
      rw [show wd_ - k=0 by omega] at this
      simpa [rNum] using this.symm
     have hp:2 ^ k≤256:=by have:=Nat.pow_le_pow_right (n:=2) (by omega) (show k≤8 by omega);omega
     go_wp2_with (first
      | (at_builtin;refine wpList_append_own _ rfl _ _ 35 rfl w.heap.size 3 i0 (.int .i64 0) 1 8 Tryz.underlying35 hi hz0 hz1 hz2 rfl (by decide) _ _ _ rfl (HO2.out.alloc _) ⟨wr.heap.size,0,none⟩ 1 1 [natV n] rfl rfl (cell_one_new _ _ _) (fun x hx=>by simp at hx;subst hx;rfl) (by unfold maxLen;omega) (by omega) (by have:=HT2.out.size;simp;omega) ?_;intro v' w3 hown3 hgrow3 hnil3))
     go_roundw
     case rel =>
      have hT4:Turned (fun j=>u7.ownBlock=some j) wr w3:=(Turned.ofAlloc wr _).trans (Turned.ofGrown hgrow3 (fun j hj _=>hj))
      refine ⟨i+1,l++[n],bv2,hv2,st2,by go_num,rfl,rfl,by omega,by simp [hl],hb2,hh2,hid (by simpa using hown3),HA2.out.turned hT4 (fun hg=>u_ne HO2.out hbl b hg rfl),HT2.out.over hT4 (fun j hj hg=>absurd (HO2.out.lt j hg).1 (by omega)),hid ?_⟩
      have:=HE2.out
      rw [HN2.out] at this
      simpa using this
     case measure=>simp [intOf];omega
  ·have hlti:¬ ((i:Int) < (count:Int)):=by omega
   have HE2:Hid (R=(l,(bv,hv,st'))):=show _=_ by
    have:=HE.out
    rw [show count - i=0 by omega] at this
    simpa [rNums] using this.symm
   go_wp2
   go_ret
   rw [HE2.out]
   exact ⟨_,rfl,HO.out,HA.out,HT.out⟩
end Go.Proofs.YtaacjjhmojecnaaGreatDoor
namespace Go.Proofs.YtaacjjhmojecnaaGreatDoor
open Go.RowKit Go.Shelf Go.Proofs
attribute [local go_sem] Oper.semAt_some
abbrev Chk (len:Nat):={ j:Nat // 4 * j < len }
def chkV (g o len j:Nat):Value:=.slice (some ⟨g,o+4 * j * 2,none⟩) (min 4 (len - 4 * j)) (min 4 (len - 4 * j))
def KeepB (B1 B2:Nat) (W W':World):Prop:=W'.heap[B1]?=W.heap[B1]?∧W'.heap[B2]?=W.heap[B2]?
theorem KeepB.trans {B1 B2:Nat} {A B C:World} (h:KeepB B1 B2 A B) (k:KeepB B1 B2 B C):KeepB B1 B2 A C:=⟨k.1.trans h.1,k.2.trans h.2⟩
set_option maxRecDepth 100000 in
set_option maxHeartbeats 4000000 in
theorem chunk_in (n:Nat) (hn:1≤n) (l B1 B2 g o len cap:Nat) (hlen:len≤100000) (hlc:len≤cap) (hcap:cap≤9223372036854775807) (J Jx:List (Chk len)→World→Prop)
 (hY:∀ pre x W,J pre W→pre.length < (len+3) / 4→YieldAt Fence.wide (n - 1) Tryz.prog l #[chkV g o len x.1] W fun e W' =>
   (e=.returned (.bool true)∧J (pre++[x]) W'∧KeepB B1 B2 W W')∨(e=.returned (.bool false)∧Jx (pre++[x]) W'))
 (W:World) (hB1:W.cell? ⟨B1,0,none⟩=some (.slice (some ⟨g,o,none⟩) len cap)) (hB2:W.cell? ⟨B2,0,none⟩=some (.int .i64 4)) (hJd:∀ pre W q,J pre W→J pre (W.drewN q)) (h0:J [] W) :
 CallsIn Fence.wide n Tryz.prog 256 #[.func (.yield l) #[] #[],.pointer (some ⟨B1,0,none⟩),.pointer (some ⟨B2,0,none⟩)] W fun e W'=>(∃ v,e=.returned v) ∧
  ((∃ ys:List (Chk len),ys.map (·.1)=List.range ((len+3) / 4)∧J ys W')∨(∃ pre,True∧Jx pre W')):=by
 have hmx:Tryz.prog.follows .mixedOrders=true:=by kernel_rfl
 refine callsIn_of_wp Tryz.func256 rfl trivial ?_ rfl
 simp only [Tryz.ntmps256,List.size_toArray,List.length_cons,List.length_nil,Nat.reduceAdd,Nat.reduceSub,Array.replicate_succ,Array.replicate_zero,List.push_toArray,List.append_toArray,List.nil_append,List.cons_append]
 gi_wp2
 gi_loopw [4] (fun i wr=>∃ (k:Nat) (pre:List (Chk len)),k≤(len+3) / 4∧i=.int .i64 ((4 * k:Nat):Int)∧pre.map (·.1)=List.range k∧J pre wr∧wr.cell? ⟨B1,0,none⟩=some (.slice (some ⟨g,o,none⟩) len cap)∧wr.cell? ⟨B2,0,none⟩=some (.int .i64 4))
  (fun i _=>len+4 - (intOf i).toNat)
 case atStart=>exact ⟨0,[],Nat.zero_le _,rfl,rfl,h0,hB1,hB2⟩
 case round =>
  obtain ⟨k,pre,hk,rfl,hpre,hJs,hc1,hc2⟩:=hrel
  obtain ⟨q,hq⟩:∃ q,q=4 * k:=⟨_,rfl⟩
  by_cases hlt:4 * k < len
  ·obtain ⟨x,hx⟩:∃ x:Chk len,x.1=k:=⟨⟨k,hlt⟩,rfl⟩
   have hpl:pre.length < (len+3) / 4:=by
    have:=congrArg List.length hpre
    simp at this
    omega
   have YY:Hid (∀ nq,YieldAt Fence.wide (n - 1) Tryz.prog l #[chkV g o len x.1] (wr.drewN nq) fun e W'=>(e=.returned (.bool true)∧J (pre++[x]) W'∧KeepB B1 B2 (wr.drewN nq) W')∨(e=.returned (.bool false)∧Jx (pre++[x]) W')):=fun nq=>hY pre x _ (hJd _ _ nq hJs) hpl
   obtain ⟨m,hm⟩:∃ m,m=min 4 (len - 4 * k):=⟨_,rfl⟩
   have HQ:Hid (q=4 * k):=hq
   have HM:Hid (m=min 4 (len - 4 * k)):=hm
   have b0:q < len:=by omega
   have b1:q+m≤len:=by omega
   have b2:1≤m:=by omega
   have b3:m≤4:=by omega
   have hv:chkV g o len k=.slice (some ⟨g,o+q * 2,none⟩) m m:=by unfold chkV;rw [← hm,← hq]
   rw [hx,hv] at YY
   have HX:Hid (x.1=k):=hx
   clear hx
   clear hB1 hB2
   have hrk:k < (len+3) / 4:=by omega
   have HP:Hid (pre.map (·.1)=List.range k):=hpre
   have b0':(q:Int) < (len:Int):=by omega
   have AFT:Hid (∀ nq W3,J (pre++[x]) W3→KeepB B1 B2 (wr.drewN nq) W3→W3.cell? ⟨B1,0,none⟩=some (.slice (some ⟨g,o,none⟩) len cap)∧W3.cell? ⟨B2,0,none⟩=some (.int .i64 4)∧(pre++[x]).map (·.1)=List.range (k+1)∧(q:Int)+4=((4 * (k+1):Nat):Int)):=fun nq W3 hJ3 hk3=>⟨(World.cell?_of_block hk3.1).trans hc1,(World.cell?_of_block hk3.2).trans hc2,by rw [List.map_append,HP.out,List.range_succ,List.map_cons,List.map_nil,HX.out],by have:=HQ.out;omega⟩
   have hA:((q:Int)+min 4 ((len - q:Nat):Int)).toNat - q=m:=by have:=HM.out;have:=HQ.out;omega
   have hA1:(0:Int)≤(q:Int)+min 4 ((len - q:Nat):Int):=by omega
   have hA2:(q:Int)+min 4 ((len - q:Nat):Int)≤(cap:Int):=by omega
   have hA3:(q:Int)≤(q:Int)+min 4 ((len - q:Nat):Int):=by omega
   rw [← hq]
   clear hpre hm hlt hk hq hv b1 b2 b3 HM hpl hY
   gi_wp2
   gi_big_quiet_th_o (fail)
   obtain ⟨fn,tmps,assign,body,hy,hR⟩:=YY.out nq
   have HR:=hid hR
   clear hR YY
   gi_wp2
   refine HR.out.mono ?_
   rintro e W3 (⟨rfl,hJ3,hk3⟩ | ⟨rfl,hJx3⟩)
   ·obtain ⟨hc1',hc2',hl3,hq3⟩:=AFT.out _ W3 hJ3 hk3
    have HL3:=hid hl3
    have HQ3:=hid hq3
    clear hl3 hq3 AFT
    gi_wp2
    go_roundw
    case rel=>exact ⟨k+1,pre++[x],by omega,by rw [← HQ3.out],HL3.out,hJ3,hc1',hc2'⟩
    case measure=>simp [intOf];omega
   ·gi_wp2
    refine bodyPost_ret (results_none rfl _ _ _) rfl ?_
    exact ⟨⟨_,rfl⟩,.inr ⟨_,trivial,hJx3⟩⟩
  ·have hkk:k=(len+3) / 4:=by omega
   rw [← hq]
   have b0':¬ ((q:Int) < (len:Int)):=by omega
   have HP:Hid (pre.map (·.1)=List.range ((len+3) / 4)):=by show _=_;rw [← hkk];exact hpre
   clear hpre hq hlt hkk hk
   gi_wp2
   go_end0
   exact ⟨⟨_,rfl⟩,.inl ⟨pre,HP.out,hJs⟩⟩
end Go.Proofs.YtaacjjhmojecnaaGreatDoor
