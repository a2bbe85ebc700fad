import Derived.Test.YtaacjjhmojecnaaGreatDoorP08
import Derived.Deep.DeepCutAuto
import Derived.Deep.CutRange
import Derived.Deep.Onto
import Derived.Deep.AppendLies
namespace Go.Proofs.YtaacjjhmojecnaaGreatDoor
open Go.RowKit Go.ScT Go.Proofs
structure TokIn (w0 w:World) (b base:Nat) (s:ByteArray) (v:Value) (l:List DocR) (tv:List Value) (st:RSt):Prop where
 rd:RdAt w b s st
 docs:DocsAt w base v l tv
 turn:Turned (fun k=>k=b∨base≤k) w0 w
 few:∀ d∈l,d.2.2.length≤40
theorem TokIn.step {w0 w w':World} {b base:Nat} {s:ByteArray} {v:Value} {l:List DocR} {tv:List Value} {st st':RSt} (h:TokIn w0 w b base s v l tv st) (hb:b < base) (hr:RdAt w' b s st') (ht:Turned (fun k=>k=b) w w'):TokIn w0 w' b base s v l tv st' :=
 ⟨hr,h.docs.turned ht (fun g hg e=>by omega),h.turn.trans (ht.mono fun _ _ e=>Or.inl e),h.few⟩
theorem varint_z (w:World) (b:Nat) (s:ByteArray) (st:RSt) (h:RdAt w b s st) (hs:s.size≤60000) (most:Nat) (hm:most≤100000) (z:Int) (hz:(most:Int)=z) :
 Calls Tryz.prog 104 #[.pointer (some ⟨b,0,none⟩),.int .i64 z] w fun e w'=>e=.returned (.int .i64 ((rVar most st).1:Int))∧RdAt w' b s (rVar most st).2∧Turned (fun i=>i=b) w w'∧(rVar most st).1 < 2097152:=by
 subst hz;exact varintR_any w b s st h hs most hm
theorem DocsAt.keep {w w3:World} {base g n cap:Nat} {l:List DocR} {tv:List Value} {o:Obj} (h:DocsAt w base (.slice (some ⟨g,0,none⟩) n cap) l tv) {i:Nat} {d:DocR} {t:Value} (hd:l[i]?=some d) (ht:tv[i]?=some t)
 (hg:(w.alloc o).grownBy w3 t.ownBlock):w3.cell? ⟨g,i * 3+2,none⟩=some t∧w3.frozen? ⟨g,i * 3+2,none⟩=false:=by
 have hT:Turned (fun j=>t.ownBlock=some j) w w3:=(Turned.ofAlloc w o).trans (Turned.ofGrown hg (fun j hj _=>hj))
 obtain ⟨cur,hgb⟩:=ownsRow_block h.row (g:=g) rfl
 have htg:¬ (t.ownBlock=some g):=fun e=>by
  obtain ⟨c2,hb2⟩:=ownsRow_block (h.toks i d t hd ht) e
  exact tag_ne hgb hb2 (by decide) rfl
 have hc:=h.cells hd ht
 have hb:=hT.block g (lt_of_block hgb) htg
 exact ⟨by rw [World.cell?_of_block hb];exact hc.2.2.1,by rw [World.frozen?_of_block hb];exact hc.2.2.2 _⟩
theorem DocsAt.pushZ {w w3:World} {g i:Nat} {t:Value} {o:Obj} (t':Value) (hg:(w.alloc o).grownBy w3 t.ownBlock):Turned (fun k=>t.ownBlock=some k∨k=g) w (w3.setCell ⟨g,i * 3+2,none⟩ t') :=
 ((Turned.ofAlloc w o).trans (Turned.ofGrown hg (fun _ hj _=>Or.inl hj))).trans (Turned.ofSet _ _ _ (Or.inr rfl))
theorem TokIn.push {w0 w w3:World} {b base g n cap:Nat} {s:ByteArray} {l:List DocR} {tv:List Value} {st:RSt} {o:Obj} (h:TokIn w0 w b base s (.slice (some ⟨g,0,none⟩) n cap) l tv st) {i:Nat} {d:DocR} {t t':Value} {x:Bs} (hd:l[i]?=some d) (ht:tv[i]?=some t)
 (hg:(w.alloc o).grownBy w3 t.ownBlock) (hown:w3.ownsRow base 9 1 t' (d.2.2.length+1) (d.2.2.map strV++[strV x])) (hat:∀ k,t'.ownBlock=some k→t.ownBlock=some k∨w.heap.size≤k) (hb:b < base) (h40:d.2.2.length+1≤40) :
 TokIn w0 (w3.setCell ⟨g,i * 3+2,none⟩ t') b base s (.slice (some ⟨g,0,none⟩) n cap) (addT l i 1 x) (tv.set i t') st:=by
 have hT:=h.docs.pushT t' hd ht hg
 refine ⟨h.rd.turned hT (by omega),h.docs.push hd ht hg hown hat,h.turn.trans (hT.mono fun k _ hk=>Or.inr hk),?_⟩
 intro e he
 obtain ⟨j,hj⟩:=List.mem_iff_getElem?.1 he
 rw [addT,List.getElem?_modify] at hj
 by_cases hij:i=j
 ·subst hij
  rw [hd] at hj
  simp at hj
  subst hj
  simp only [List.length_append,List.length_cons,List.length_nil]
  omega
 ·simp only [if_neg hij] at hj
  exact h.few e (List.mem_of_getElem? (by simpa using hj))
theorem TokIn.drewN {w0 w:World} {b base:Nat} {s:ByteArray} {v:Value} {l:List DocR} {tv:List Value} {st:RSt} (h:TokIn w0 w b base s v l tv st) (q:Nat):TokIn w0 (w.drewN q) b base s v l tv st :=
 ⟨h.rd,⟨h.docs.row,h.docs.len,h.docs.toks,h.docs.apart⟩,h.turn.ofDrew q,h.few⟩
theorem TokIn.setBad {w0 w:World} {b base:Nat} {s:ByteArray} {v:Value} {l:List DocR} {tv:List Value} {r:Bs} {bad:Bool} (h:TokIn w0 w b base s v l tv (r,bad)) (hb:b < base) (q:Nat):TokIn w0 ((w.drewN q).setCell ⟨b,2,none⟩ (.bool true)) b base s v l tv (r,true) :=
 h.step hb (rd_setBad (w:=w.drewN q) h.rd) ((Turned.ofDrew (Turned.refl (fun k=>k=b) w) q).trans (Turned.ofSet _ _ _ rfl))
theorem TokIn.setBad0 {w0 w:World} {b base:Nat} {s:ByteArray} {v:Value} {l:List DocR} {tv:List Value} {st:RSt} (h:TokIn w0 w b base s v l tv st) (hb:b < base):TokIn w0 (w.setCell ⟨b,2,none⟩ (.bool true)) b base s v l tv (st.1,true) :=
 h.step hb (rd_setBad h.rd) (Turned.ofSet _ _ _ rfl)
theorem at_or {t:Value} {gA n cap H:Nat} (h:t.ownBlock=some gA∨gA=H+1):∀ k,(Value.slice (some ⟨gA,0,none⟩) n cap).ownBlock=some k→t.ownBlock=some k∨H≤k:=by
 intro k hk
 have e:gA=k:=by simpa [Value.ownBlock] using hk
 subst e
 rcases h with h | h
 ·exact Or.inl h
 ·exact Or.inr (by omega)
theorem DocsAt.turnedT {w w':World} {Z:Nat→Prop} {base:Nat} {v:Value} {l:List DocR} {tv:List Value} (h:DocsAt w base v l tv) (ht:Turned Z w w') (hz:∀ g cur ty,w.heap[g]?=some (.cells cur ty (0,0))→ty=185∨ty=9→¬ Z g):DocsAt w' base v l tv :=
 ⟨ownsRow_turned h.row ht fun g hg=>by obtain ⟨c,hc⟩:=ownsRow_block h.row hg;exact hz g c 185 hc (Or.inl rfl),h.len,
  fun i d t hd htv=>ownsRow_turned (h.toks i d t hd htv) ht fun g hg=>by obtain ⟨c,hc⟩:=ownsRow_block (h.toks i d t hd htv) hg;exact hz g c 9 hc (Or.inr rfl),h.apart⟩
theorem TokIn.ints {w0 w w3:World} {b base:Nat} {s:ByteArray} {v:Value} {l:List DocR} {tv:List Value} {st:RSt} {u:Value} {n:Nat} {xs:List Value} {o:Obj} (h:TokIn w0 w b base s v l tv st) (hrow:w.ownsRow w0.heap.size 3 1 u n xs) (hg:(w.alloc o).grownBy w3 u.ownBlock) (hbw:base≤w0.heap.size) :
 TokIn w0 w3 b base s v l tv st:=by
 have hT:Turned (fun j=>u.ownBlock=some j) w w3:=(Turned.ofAlloc w o).trans (Turned.ofGrown hg (fun j hj _=>hj))
 have htag:∀ g cur ty,w.heap[g]?=some (.cells cur ty (0,0))→ty≠3→¬ u.ownBlock=some g:=fun g cur ty hc hne e=>by
  obtain ⟨c,hc2⟩:=ownsRow_block hrow e
  exact tag_ne hc hc2 hne rfl
 obtain ⟨a,h1,h2⟩:=h.rd
 refine ⟨RdAt.turned ⟨a,h1,h2⟩ hT (htag b _ 182 h1 (by decide)),h.docs.turnedT hT (fun g cur ty hc he=>htag g cur ty hc (by rcases he with rfl | rfl <;> decide)),h.turn.trans (hT.mono fun k _ hk=>Or.inr ?_),h.few⟩
 have:=(hrow.lt k hk).1
 omega
structure Two (w:World) (bs:Nat) (u1 u2:Value) (x1 x2:List Nat):Prop where
 r1:w.ownsRow bs 3 1 u1 x1.length (x1.map natV)
 r2:w.ownsRow bs 3 1 u2 x2.length (x2.map natV)
theorem Two.turned {w w':World} {Z:Nat→Prop} {bs:Nat} {u1 u2:Value} {x1 x2:List Nat} (h:Two w bs u1 u2 x1 x2) (ht:Turned Z w w') (hz:∀ g cur,w.heap[g]?=some (.cells cur 3 (0,0))→¬ Z g):Two w' bs u1 u2 x1 x2 :=
 ⟨ownsRow_turned h.r1 ht fun g hg=>by obtain ⟨c,hc⟩:=ownsRow_block h.r1 hg;exact hz g c hc,ownsRow_turned h.r2 ht fun g hg=>by obtain ⟨c,hc⟩:=ownsRow_block h.r2 hg;exact hz g c hc⟩
theorem rd_not {w:World} {b:Nat} {s:ByteArray} {st:RSt} (h:RdAt w b s st):∀ (g:Nat) (cur:Array Value),w.heap[g]?=some (.cells cur 3 (0,0))→¬ (g=b):=by
 obtain ⟨a,h,_⟩:=h
 intro g cur hg e
 exact tag_ne hg h (by decide) e
theorem row_at {w:World} {bs:Nat} {u:Value} {x:List Nat} (h:w.ownsRow bs 3 1 u x.length (x.map natV)) (hx:0 < x.length):∃ g cap,u=.slice (some ⟨g,0,none⟩) x.length cap:=by
 obtain ⟨g,cap,ao,e,_,ha⟩:=ownsRow_shape h
 exact ⟨g,cap,by rw [e,ha hx]⟩
theorem row_cell {w:World} {bs g cap:Nat} {x:List Nat} (h:w.ownsRow bs 3 1 (.slice (some ⟨g,0,none⟩) x.length cap) x.length (x.map natV)) {k m:Nat} (hk:x[k]?=some m):w.cell? ⟨g,k,none⟩=some (.int .i64 (m:Int)):=by
 have:=(List.getElem?_eq_some_iff.1 hk).1
 rw [h.cellAt k (by omega),List.getElem?_map,hk]
 rfl
set_option maxHeartbeats 6000000 in
set_option maxRecDepth 1000000 in
theorem token_any (w:World) (b base g n cap:Nat) (s:ByteArray) (l:List DocR) (tv:List Value) (st:RSt) (h:TokIn w w b base s (.slice (some ⟨g,0,none⟩) n cap) l tv st) (hb:b < base) (hs:s.size≤60000) (hl:l.length≤100) (hn:n=l.length) (hbw:base≤w.heap.size) :
 Calls Tryz.prog 106 #[.pointer (some ⟨b,0,none⟩),.slice (some ⟨g,0,none⟩) n cap] w fun e w'=>e=.returned (.slice (some ⟨g,0,none⟩) n cap)∧∃ tv',TokIn w w' b base s (.slice (some ⟨g,0,none⟩) n cap) (rTok l st).1 tv' (rTok l st).2:=by
 subst hn
 have CV:Hid (∀ (z:Int) w1 st1,RdAt w1 b s st1→0≤z→z≤100000→Calls Tryz.prog 104 #[.pointer (some ⟨b,0,none⟩),.int .i64 z] w1 fun e w'=>e=.returned (.int .i64 ((rVar z.toNat st1).1:Int))∧RdAt w' b s (rVar z.toNat st1).2∧Turned (fun i=>i=b) w1 w'∧(rVar z.toNat st1).1 < 2097152):=fun z w1 st1 h1 h2 h3=>varint_z w1 b s st1 h1 hs z.toNat (by omega) z (by omega)
 have CB:Hid (∀ w1 st1,RdAt w1 b s st1→Calls Tryz.prog 103 #[.pointer (some ⟨b,0,none⟩)] w1 fun e w'=>e=.returned (.int .i64 ((rByte st1).1:Int))∧RdAt w' b s (rByte st1).2∧Turned (fun i=>i=b) w1 w'):=fun w1 st1 h1=>byte1_any w1 b s st1 h1 hs
 have CT:Hid (Calls Tryz.prog 105 #[.pointer (some ⟨b,0,none⟩)] w fun e w'=>e=.returned (.string ⟨(rText st).1.toArray⟩)∧RdAt w' b s (rText st).2∧Turned (fun i=>i=b) w w'):=textR_any w b s st h.rd hs
 have hi9:(Tryz.prog.info? 9).map (fun i=>(i.zero,i.size,i.bytes))=some (some (.string ⟨#[]⟩),1,16):=by kernel_rfl
 obtain ⟨i9,hi,hz0,hz1,hz2⟩:=info_parts hi9
 clear hi9
 have hi3':(Tryz.prog.info? 3).map (fun i=>(i.zero,i.size,i.bytes))=some (some (.int .i64 0),1,8):=by kernel_rfl
 obtain ⟨i3,hi3,hy0,hy1,hy2⟩:=info_parts hi3'
 clear hi3'
 have H:Hid (TokIn w w b base s (.slice (some ⟨g,0,none⟩) l.length cap) l tv st):=h
 clear h
 obtain ⟨t,ht⟩:∃ t,(rText st).1=t:=⟨_,rfl⟩
 have HR0:Hid (rTok l st=rBlks t (rVar l.length (rText st).2).1 (rVar l.length (rText st).2).1 0 l (rVar l.length (rText st).2).2):=show _=_ by rw [← ht];rfl
 rw [ht] at CT
 clear ht
 obtain ⟨R,hR⟩:∃ R,rTok l st=R:=⟨_,rfl⟩
 rw [hR] at HR0 ⊢
 clear hR
 go_enter Tryz.func106,Tryz.ntmps106
 go_wp2_with (first
  | (go_at_call 105;refine CT.out.mono ?_;rintro e w1 ⟨rfl,hA1,hT1⟩;have H1:Hid (TokIn w w1 b base s (.slice (some ⟨g,0,none⟩) l.length cap) l tv (rText st).2):=H.out.step hb hA1 hT1;clear hA1 hT1)
  | (go_at_call 104;refine (CV.out _ _ _ H1.out.rd (by omega) (by omega)).mono ?_;rintro e w2 ⟨rfl,hA2,hT2,hlt2⟩;have hlt3:(rVar l.length (rText st).2).1 < 2097152:=hlt2;clear hlt2;have H2:Hid (TokIn w w2 b base s (.slice (some ⟨g,0,none⟩) l.length cap) l tv (rVar l.length (rText st).2).2):=H1.out.step hb hA2 hT2;clear hA2 hT2 H1))
 clear CT H
 generalize (rText st).2=st1 at *
 generalize hV1:(rVar l.length st1).1=left0 at *
 have hV2:(rVar l.length st1).2.2=false→left0≤l.length:=fun e=>by rw [← hV1];exact rVar_good e
 generalize (rVar l.length st1).2=st2 at *
 clear hV1
 go_loopw [6,7] (fun s6 s7 wr=>∃ (left next f:Nat) (l':List DocR) (tv':List Value) (st':RSt),s6=.int .i64 (left:Int)∧s7=.int .i64 ((next:Int) - 1)∧left < 2097152∧(st'.2=false→left≤l.length)∧next≤l.length∧l'.length=l.length∧left≤f∧Hid (TokIn w wr b base s (.slice (some ⟨g,0,none⟩) l.length cap) l' tv' st')∧Hid (R=rBlks t f left next l' st')) (fun s6 _ _=>(intOf s6).toNat)
 case atStart=>exact ⟨left0,0,left0,l,tv,st2,rfl,rfl,hlt3,hV2,by omega,rfl,by omega,H2,HR0⟩
 case round =>
  obtain ⟨left,next,f,l',tv',st',rfl,rfl,hlt,hgd,hnx,hl',hlf,HI,HR⟩:=hrel
  obtain ⟨hfz,hc2⟩:=rd_frozen HI.out.rd
  have hf2:=hfz 2
  clear hfz
  by_cases h0:left=0
  ·subst h0
   have HR1:Hid (R=(l',st')):=show _=_ by rw [HR.out];exact rBlks_end (Or.inl rfl)
   go_wp2
   go_ret
   rw [HR1.out]
   exact ⟨rfl,tv',HI.out⟩
  ·have h0i:(0:Int) < (left:Int):=by omega
   obtain ⟨r',bad⟩:=st'
   cases bad with
   | true =>
     have HR1:Hid (R=(l',(r',true))):=show _=_ by rw [HR.out];exact rBlks_end (Or.inr rfl)
     go_wp2
     go_ret
     rw [HR1.out]
     exact ⟨rfl,tv',HI.out⟩
   | false =>
     have hle:=hgd rfl
     have hnot:¬ (left=0∨((r',false):RSt).2=true):=by simp [h0]
     by_cases h4:left < 4
     ·have h4i:(left:Int) < 4:=by omega
      have hmin:min 4 left=left:=by omega
      have h4n:((left:Int) == 4)=false:=by simp;omega
      obtain ⟨st3,hst3⟩:∃ st3,rHead (r',false)=st3:=⟨_,rfl⟩
      go_upto_if 46 with (first
       | (go_at_call 104;refine (CV.out _ _ _ HI.out.rd (by omega) (by omega)).mono ?_;rintro e w3 ⟨rfl,hA,hT,_⟩;replace HI:=hid (HI.out.step hb hA hT);clear hA hT))
      have HI3:Hid (TokIn w w3 b base s (.slice (some ⟨g,0,none⟩) l.length cap) l' tv' st3):=show TokIn _ _ _ _ _ _ _ _ _ by rw [← hst3];exact HI.out
      clear HI
      obtain ⟨RP,hRP⟩:∃ RP,rPairs left st3=RP:=⟨_,rfl⟩
      have HSt:Hid (rSteps (min 4 left) (rHead (r',false))=(some RP.1,RP.2)):=show _=_ by rw [hmin,hst3,← hRP];unfold rSteps;rw [if_neg (by omega)]
      have HRP:Hid ((([]++(rPairs (left - 0) st3).1.1,[]++(rPairs (left - 0) st3).1.2),(rPairs (left - 0) st3).2)=RP):=show _=_ by rw [Nat.sub_zero,hRP];rfl
      have HX0:Hid ((∀ x∈RP.1.1,x < 2097152)∧(∀ x∈RP.1.2,x < 2097152)):=show _∧_ by rw [← hRP];exact rPairs_lt _ _
      clear hRP
      have hw3s:=HI3.out.turn.size
      go_wp2_with (fail)
      go_loopw [9,10,13] (fun s9 s10 s13 wi=>∃ (k:Nat) (xs ys:List Nat) (stk:RSt),s13=.int .i64 (k:Int)∧k≤left∧xs.length=k∧ys.length=k∧Hid (TokIn w wi b base s (.slice (some ⟨g,0,none⟩) l.length cap) l' tv' stk)∧Hid (Two wi w.heap.size s9 s10 xs ys)∧Hid (∀ g,s9.ownBlock=some g→s10.ownBlock≠some g)∧Hid (((xs++(rPairs (left - k) stk).1.1,ys++(rPairs (left - k) stk).1.2),(rPairs (left - k) stk).2)=RP)) (fun _ _ s13 _=>left - (intOf s13).toNat)
      case atStart=>exact ⟨0,[],[],st3,rfl,by omega,rfl,rfl,HI3,hid ⟨⟨rfl,Or.inl ⟨rfl,rfl⟩⟩,⟨rfl,Or.inl ⟨rfl,rfl⟩⟩⟩,hid (fun g hg=>by cases hg),HRP⟩
      case round =>
       obtain ⟨k,xs,ys,stk,rfl,hk,hxl,hyl,HI,HW,HAp,HE⟩:=hrel
       by_cases hkl:k < left
       ·have hkli:(k:Int) < (left:Int):=by omega
        have HE2:Hid (((xs++(rVar 100 stk).1 :: (rPairs (left - (k+1)) (rVar 40 (rVar 100 stk).2).2).1.1,ys++(rVar 40 (rVar 100 stk).2).1 :: (rPairs (left - (k+1)) (rVar 40 (rVar 100 stk).2).2).1.2),(rPairs (left - (k+1)) (rVar 40 (rVar 100 stk).2).2).2)=RP):=show _=_ by
         have:=HE.out
         rw [show left - k=(left - (k+1))+1 by omega] at this
         exact this
        clear HE
        go_wp2_with (first
         | (go_at_call 104;refine (CV.out _ _ _ HI.out.rd (by omega) (by omega)).mono ?_;rintro e w4 ⟨rfl,hA,hT,_⟩;replace HW:=hid (HW.out.turned hT (rd_not HI.out.rd));replace HI:=hid (HI.out.step hb hA hT);have hsz4:=HI.out.turn.size;clear hA hT)
         | (at_builtin;have HB9:=HA9;refine wpList_append_lies _ rfl _ _ 35 rfl w.heap.size 3 i3 (.int .i64 0) 1 8 Tryz.underlying35 hi3 hy0 hy1 hy2 rfl (by decide) _ _ _ rfl (HA10.out.alloc _) ⟨w5.heap.size,0,none⟩ 1 1 [natV (rVar 40 (rVar 100 stk).2).1] rfl rfl (cell_one_new _ _ _) (fun x hx=>by simp at hx;subst hx;rfl) (by omega) (by unfold maxLen;omega) (by omega) (by simp;omega) (w5.heap.size+1) (by simp) ?_;intro gB capB w6 hownB hgrowB hatB hltB)
         | (at_builtin;refine wpList_append_lies _ rfl _ _ 35 rfl w.heap.size 3 i3 (.int .i64 0) 1 8 Tryz.underlying35 hi3 hy0 hy1 hy2 rfl (by decide) _ _ _ rfl (HW.out.r1.alloc _) ⟨w4.heap.size,0,none⟩ 1 1 [natV (rVar 100 stk).1] rfl rfl (cell_one_new _ _ _) (fun x hx=>by simp at hx;subst hx;rfl) (by omega) (by unfold maxLen;omega) (by omega) (by simp;omega) (w4.heap.size+1) (by simp) ?_;intro gA capA w5 hownA hgrowA hatA hltA;have HA9:=hid hownA;have HA10:=hid (ownsRow_turned HW.out.r2 ((Turned.ofAlloc w4 _).trans (Turned.ofGrown hgrowA (fun j hj _=>hj))) (fun g hg e=>HAp.out g e hg));have HI5:=hid (HI.out.ints HW.out.r1 hgrowA hbw);have hsz5:=HI5.out.turn.size))
        go_roundw
        case rel =>
         have hu10:u10.ownBlock≠some gA:=fun e=>by
          rcases hatA with h | h
          ·exact HAp.out gA h e
          ·have:=(HW.out.r2.lt gA e).2
           omega
         have T6:Turned (fun j=>u10.ownBlock=some j) w5 w6:=(Turned.ofAlloc w5 _).trans (Turned.ofGrown hgrowB (fun j hj _=>hj))
         refine ⟨k+1,xs++[(rVar 100 stk).1],ys++[(rVar 40 (rVar 100 stk).2).1],(rVar 40 (rVar 100 stk).2).2,by go_num,by omega,by simp [hxl],by simp [hyl],HI5.out.ints HA10.out hgrowB hbw,hid ⟨?_,?_⟩,hid ?_,hid ?_⟩
         ·have:=ownsRow_turned HA9.out T6 (fun j hj e=>hu10 (by rw [e];simp [Value.ownBlock] at hj;rw [hj]))
          simpa [hxl] using this
         ·simpa [hyl] using hownB
         ·intro j hj e
          have e1:gA=j:=by simpa [Value.ownBlock] using hj
          have e2:gB=j:=by simpa [Value.ownBlock] using e
          subst e1
          rcases hatB with h | h
          ·rw [e2] at h;exact hu10 h
          ·omega
         ·have:=HE2.out
          simpa using this
        case measure=>simp [intOf];omega
       ·have hkli:¬ ((k:Int) < (left:Int)):=by omega
        have hkl2:left=k:=by omega
        subst hkl2
        obtain ⟨ss,hE1⟩:∃ ss,ss=xs:=⟨_,rfl⟩
        subst hE1
        obtain ⟨qq,hE2⟩:∃ qq,qq=ys:=⟨_,rfl⟩
        subst hE2
        obtain ⟨st4,hE3⟩:∃ st4,st4=stk:=⟨_,rfl⟩
        subst hE3
        have HE2:Hid (RP=((ss,qq),st4)):=show _=_ by have:=HE.out;simpa [rPairs] using this.symm
        have HST:Hid (rSteps (min 4 left) (rHead (r',false))=(some (ss,qq),st4)):=show _=_ by rw [HSt.out,HE2.out]
        obtain ⟨hsb,hqb⟩:(∀ x∈ss,x < 2097152)∧(∀ x∈qq,x < 2097152):=by have:=HX0.out;rw [HE2.out] at this;exact this
        obtain ⟨g9,cap9,rfl⟩:=row_at HW.out.r1 (by omega)
        obtain ⟨g10,cap10,rfl⟩:=row_at HW.out.r2 (by omega)
        have hss:=hxl
        have hqq:=hyl
        rw [hxl,hyl] at HW
        rw [hxl,hyl]
        clear HX0 HSt HRP HE2 HE HAp HI3
        go_wp2
        obtain ⟨r4,bad4⟩:=st4
        obtain ⟨P,hP⟩:∃ P,rPut t ss qq next l'=P:=⟨_,rfl⟩
        have HP:Hid (rPut t (ss.drop 0) (qq.drop 0) next l'=P):=hP
        go_loopw [7,16] (fun s7 s16 wi=>∃ (k next2:Nat) (l2:List DocR) (tv2:List Value),s16=.int .i64 (k:Int)∧s7=.int .i64 ((next2:Int) - 1)∧k≤left∧next2≤l.length∧l2.length=l.length∧(bad4=true→l2=l'∧next2=next)∧Hid (TokIn w wi b base s (.slice (some ⟨g,0,none⟩) l.length cap) l2 tv2 (r4,bad4))∧Hid (Two wi w.heap.size (.slice (some ⟨g9,0,none⟩) left cap9) (.slice (some ⟨g10,0,none⟩) left cap10) ss qq)∧Hid (rPut t (ss.drop k) (qq.drop k) next2 l2=P)) (fun _ s16 _=>left - (intOf s16).toNat)
        case atStart=>exact ⟨0,next,l',tv',rfl,rfl,by omega,hnx,hl',fun _=>⟨rfl,rfl⟩,HI,HW,HP⟩
        case round =>
         obtain ⟨k,next2,l2,tv2,rfl,rfl,hk,hnx2,hl2,hbe,HI2,HW2,HP2⟩:=hrel
         obtain ⟨hfz3,hc3⟩:=rd_frozen HI2.out.rd
         have hf23:=hfz3 2
         clear hfz3
         by_cases hkn:k < left
         ·have hkni:(k:Int) < left:=by omega
          cases bad4 with
          | true =>
            obtain ⟨rfl,rfl⟩:=hbe rfl
            go_wp2
            go_roundw
            case rel =>
             refine ⟨left - left,next2,f,l2,tv2,(r4,true),by go_num,rfl,by omega,(fun e=>by cases e),hnx2,hl2,by omega,HI2,?_⟩
             show R=_
             rw [HR.out,rBlks_bad hnot hlf HST.out rfl,rBlks_end (Or.inr rfl)]
            case measure=>simp [intOf];omega
          | false =>
            obtain ⟨sk,hsk⟩:∃ sk,ss[k]?=some sk:=⟨_,List.getElem?_eq_getElem (by omega)⟩
            obtain ⟨qk,hqk⟩:∃ qk,qq[k]?=some qk:=⟨_,List.getElem?_eq_getElem (by omega)⟩
            have hskb:=hsb sk (List.mem_of_getElem? hsk)
            have hqkb:=hqb qk (List.mem_of_getElem? hqk)
            have HPs:=hid (rPut_step (t:=t) (next:=next2) (l:=l2) hsk hqk)
            have hcs:wr.cell? ⟨g9,k,none⟩=some (.int .i64 (sk:Int)):=row_cell (x:=ss) (cap:=cap9) (by have:=HW2.out.r1;rw [hss] at this ⊢;exact this) hsk
            have hcq:wr.cell? ⟨g10,k,none⟩=some (.int .i64 (qk:Int)):=row_cell (x:=qq) (cap:=cap10) (by have:=HW2.out.r2;rw [hqq] at this ⊢;exact this) hqk
            obtain ⟨o,hoe⟩:∃ o,next2+sk=o:=⟨_,rfl⟩
            rw [hoe] at HPs
            have e7:(next2:Int) - 1+(sk:Int)+1=(o:Int):=by omega
            by_cases ho:l.length≤o
            ·have hoi:(l.length:Int)≤(o:Int):=by omega
             have HR1:Hid (R=(l2,(r4,true))):=show _=_ by
              have hp:P=(true,next2,l2):=by rw [← HP2.out,HPs.out,if_pos (Or.inl (by omega))]
              rw [HR.out,rBlks_fail hnot hlf HST.out rfl (by simp only;rw [hP,hp])]
              simp only [hP,hp]
             go_wp2
             go_quiet (fail)
             go_wp2
             go_ret
             rw [HR1.out]
             exact ⟨rfl,tv2,HI2.out.setBad hb nq⟩
            ·have hoi:¬ ((l.length:Int)≤(o:Int)):=by omega
             have hof:decide ((l.length:Int)≤(o:Int))=false:=decide_eq_false hoi
             obtain ⟨d,hd⟩:∃ d,l2[o]?=some d:=⟨_,List.getElem?_eq_getElem (by omega)⟩
             obtain ⟨tvo,htvo⟩:=HI2.out.docs.tok hd
             have hrow:=HI2.out.docs.toks _ d tvo hd htvo
             have hfew:=HI2.out.few d (List.mem_of_getElem? hd)
             obtain ⟨gt,tcap,ao,hte,_,_⟩:=ownsRow_shape hrow
             have hcd:=(HI2.out.docs.cells hd htvo).2.2.1
             rw [hte] at hcd
             have htl:toksL l2 (o)=d.2.2.length:=by simp [toksL,hd]
             have HD:=hid hd
             have HTV:=hid htvo
             have HTE:=hid hte
             clear hd htvo hrow hte
             by_cases h40:40≤d.2.2.length+qk
             ·have h40i:(40:Int)≤(d.2.2.length:Int)+(qk:Int):=by omega
              have HR1:Hid (R=(l2,(r4,true))):=show _=_ by
               have hp:P=(true,next2,l2):=by rw [← HP2.out,HPs.out,if_pos (Or.inr (by rw [htl];exact h40))]
               rw [HR.out,rBlks_fail hnot hlf HST.out rfl (by simp only;rw [hP,hp])]
               simp only [hP,hp]
              go_wp2
              go_quiet (fail)
              go_wp2
              go_ret
              rw [HR1.out]
              exact ⟨rfl,tv2,HI2.out.setBad hb nq⟩
             ·have h40i:¬ ((40:Int)≤(d.2.2.length:Int)+(qk:Int)):=by omega
              have h40f:decide ((40:Int)≤(d.2.2.length:Int)+(qk:Int))=false:=decide_eq_false h40i
              have HP3:Hid (rPut t (ss.drop (k+1)) (qq.drop (k+1)) (o+1) (addT l2 (o) (qk+1) t)=P):=show _=_ by rw [← HP2.out,HPs.out,if_neg (by rw [htl];omega)]
              clear HPs
              go_wp2
              go_quiet (fail)
              go_wp2
              clear hcs hcq hcd HTE
              go_loopw [17] (fun s17 wj=>∃ (c:Nat) (tv3:List Value),s17=.int .i64 (c:Int)∧c≤qk+1∧Hid (TokIn w wj b base s (.slice (some ⟨g,0,none⟩) l.length cap) (addT l2 o c t) tv3 (r4,false))∧Hid (Two wj w.heap.size (.slice (some ⟨g9,0,none⟩) left cap9) (.slice (some ⟨g10,0,none⟩) left cap10) ss qq)) (fun s17 _=>qk+1 - (intOf s17).toNat)
              case atStart=>exact ⟨0,tv2,rfl,by omega,hid (by rw [addT_zero];exact HI2.out.drewN nq),hid ⟨HW2.out.r1,HW2.out.r2⟩⟩
              case round =>
               obtain ⟨c,tv3,rfl,hc,HI3,HW3⟩:=hrel
               have hcq:wr.cell? ⟨g10,k,none⟩=some (.int .i64 (qk:Int)):=row_cell (x:=qq) (cap:=cap10) (by have:=HW3.out.r2;rw [hqq] at this ⊢;exact this) hqk
               by_cases hcc:c≤qk
               ·have hcci:(c:Int)≤(qk:Int):=by omega
                have hd3:=addT_get (n:=c) (t:=t) HD.out
                obtain ⟨tv0,htv0⟩:=HI3.out.docs.tok hd3
                have hrow3:=HI3.out.docs.toks _ _ tv0 hd3 htv0
                have hlen3:(d.2.2++List.replicate c t).length=d.2.2.length+c:=by simp
                simp only [hlen3] at hrow3
                obtain ⟨gt3,tcap3,ao3,hte3,_,_⟩:=ownsRow_shape hrow3
                subst hte3
                have hc3':=(HI3.out.docs.cells hd3 htv0).2.2.1
                have HROW:=hid hrow3
                have HD3:=hid hd3
                have HT3:=hid htv0
                have HLEN:=hid hlen3
                have hsz3:=HI3.out.turn.size
                clear hrow3 hd3 htv0 hlen3
                go_wp2_with (first
                 | (at_builtin;refine wpList_append_lies _ rfl _ _ 34 rfl base 9 i9 (.string ⟨#[]⟩) 1 16 Tryz.underlying34 hi hz0 hz1 hz2 rfl (by decide) _ _ _ rfl (HROW.out.alloc _) ⟨wr.heap.size,0,none⟩ 1 1 [strV t] rfl rfl (cell_one_new _ _ _) (fun x hx=>by simp at hx;subst hx;rfl) (by omega) (by unfold maxLen;omega) (by omega) (by simp;omega) (wr.heap.size+1) (by simp) ?_;intro gA capA w3 hownA hgrowA hatA hltA;obtain ⟨hk1,hk2⟩:=HI3.out.docs.keep HD3.out HT3.out hgrowA))
                go_roundw
                case rel =>
                 refine ⟨c+1,tv3.set o (.slice (some ⟨gA,0,none⟩) (d.2.2.length+c+1) capA),by go_num,by omega,?_,?_⟩
                 ·have:=HI3.out.push (x:=t) (t':=.slice (some ⟨gA,0,none⟩) (d.2.2.length+c+1) capA) HD3.out HT3.out hgrowA (by rw [HLEN.out];exact hownA) (at_or hatA) hb (by rw [HLEN.out];omega)
                  rw [addT_addT] at this
                  exact this
                 ·refine HW3.out.turned (DocsAt.pushZ _ hgrowA) ?_
                  rintro k cur hk (e | e)
                  ·obtain ⟨c2,hb2⟩:=ownsRow_block HROW.out e
                   exact tag_ne hk hb2 (by decide) rfl
                  ·subst e
                   obtain ⟨c2,hb2⟩:=ownsRow_block HI3.out.docs.row (g:=k) rfl
                   exact tag_ne hk hb2 (by decide) rfl
                case measure=>simp [intOf];omega
               ·have hcci:¬ ((c:Int)≤(qk:Int)):=by omega
                obtain rfl:c=qk+1:=by omega
                go_wp2
                go_roundw
                case rel=>exact ⟨k+1,o+1,_,tv3,by go_num,by go_num,by omega,by omega,by rw [addT_len];exact hl2,(fun e=>by cases e),HI3,HW3,HP3⟩
                case measure=>simp [intOf];omega
         ·have hkni:¬ ((k:Int) < left):=by omega
          cases bad4 with
          | true =>
            obtain ⟨rfl,rfl⟩:=hbe rfl
            go_wp2
            go_roundw
            case rel =>
             refine ⟨left - left,next2,f,l2,tv2,(r4,true),by go_num,rfl,by omega,(fun e=>by cases e),hnx2,hl2,by omega,HI2,?_⟩
             show R=_
             rw [HR.out,rBlks_bad hnot hlf HST.out rfl,rBlks_end (Or.inr rfl)]
            case measure=>simp [intOf];omega
          | false =>
            go_wp2
            go_roundw
            case rel =>
             refine ⟨left - left,next2,f - 1,l2,tv2,(r4,false),by go_num,rfl,by omega,(fun _=>by omega),hnx2,hl2,by omega,HI2,?_⟩
             show R=_
             have hp:P=(false,next2,l2):=by rw [← HP2.out];exact rPut_end (by omega)
             obtain ⟨f1,rfl⟩:∃ f1,f=f1+1:=⟨f - 1,by omega⟩
             rw [HR.out,rBlks_ok' hnot HST.out rfl (by simp only;rw [hP,hp])]
             simp only [hP,hp,hmin]
             rfl
            case measure=>simp [intOf];omega
     ·have h4i:¬ ((left:Int) < 4):=by omega
      have hm4:min 4 left=4:=by omega
      have hmin:=hm4
      obtain ⟨st3,hst3⟩:∃ st3,rHead (r',false)=st3:=⟨_,rfl⟩
      go_upto_if 46 with (first
       | (go_at_call 104;refine (CV.out _ _ _ HI.out.rd (by omega) (by omega)).mono ?_;rintro e w3 ⟨rfl,hA,hT,_⟩;replace HI:=hid (HI.out.step hb hA hT);clear hA hT))
      have HI3:Hid (TokIn w w3 b base s (.slice (some ⟨g,0,none⟩) l.length cap) l' tv' st3):=show TokIn _ _ _ _ _ _ _ _ _ by rw [← hst3];exact HI.out
      clear HI
      have HI:=HI3
      clear HI3
      have hSt:Hid (rSteps (min 4 left) (rHead (r',false))=if 8 < (rByte st3).1∨8 < (rByte (rByte st3).2).1 then (none,((rByte (rByte st3).2).2.1,true)) else (some ((rBits 4 (rByte st3).1 (rByte (rByte st3).2).2).1,(rBits 4 (rByte (rByte st3).2).1 (rBits 4 (rByte st3).1 (rByte (rByte st3).2).2).2).1),(rBits 4 (rByte (rByte st3).2).1 (rBits 4 (rByte st3).1 (rByte (rByte st3).2).2).2).2)):=show _=_ by rw [hm4,hst3];rfl
      have CN:Hid (∀ (zc zw:Int) w1 st1,RdAt w1 b s st1→zc=4→0≤zw→zw≤8→Calls Tryz.prog 183 #[.pointer (some ⟨b,0,none⟩),.int .i64 zc,.int .i64 zw] w1 fun e w'=>∃ v,e=.returned v∧w'.ownsRow w1.heap.size 3 1 v (rBits 4 zw.toNat st1).1.length ((rBits 4 zw.toNat st1).1.map natV)∧RdAt w' b s (rBits 4 zw.toNat st1).2∧Turned (fun i=>i=b) w1 w'):=by
       intro zc zw w1 st1 h1 hz0 hz1 hz2
       subst hz0
       have:=bits_any w1 b s st1 h1 hs 4 zw.toNat (by omega) (by omega)
       rw [show ((zw.toNat:Nat):Int)=zw by omega] at this
       exact this
      by_cases hAB:8 < (rByte st3).1∨8 < (rByte (rByte st3).2).1
      ·have HR1:Hid (R=(l',((rByte (rByte st3).2).2.1,true))):=show _=_ by
        rw [HR.out];exact rBlks_none hnot hlf (by rw [hSt.out,if_pos hAB])
       by_cases hA8:8 < (rByte st3).1
       ·have hA8i:(8:Int) < ((rByte st3).1:Int):=by omega
        go_wp2_with (first
         | (go_at_call 103;refine (CB.out _ _ HI.out.rd).mono ?_;rintro e w3 ⟨rfl,hA,hT⟩;replace HI:=hid (HI.out.step hb hA hT);obtain ⟨hfzA,hcA⟩:=rd_frozen HI.out.rd;have hfA:=hfzA 2;clear hA hT hfzA))
        go_ret
        rw [HR1.out]
        exact ⟨rfl,tv',HI.out.setBad0 hb⟩
       ·have hA8i:¬ ((8:Int) < ((rByte st3).1:Int)):=by omega
        have hB8i:(8:Int) < ((rByte (rByte st3).2).1:Int):=by omega
        go_wp2_with (first
         | (go_at_call 103;refine (CB.out _ _ HI.out.rd).mono ?_;rintro e w3 ⟨rfl,hA,hT⟩;replace HI:=hid (HI.out.step hb hA hT);obtain ⟨hfzA,hcA⟩:=rd_frozen HI.out.rd;have hfA:=hfzA 2;clear hA hT hfzA))
        go_ret
        rw [HR1.out]
        exact ⟨rfl,tv',HI.out.setBad0 hb⟩
      ·have HST0:=hSt.out
       rw [if_neg hAB] at HST0
       have hA8:¬ ((8:Int) < ((rByte st3).1:Int)):=by omega
       have hB8:¬ ((8:Int) < ((rByte (rByte st3).2).1:Int)):=by omega
       generalize hx1:(rBits 4 (rByte st3).1 (rByte (rByte st3).2).2).1=ss at HST0
       generalize hx2:(rBits 4 (rByte (rByte st3).2).1 (rBits 4 (rByte st3).1 (rByte (rByte st3).2).2).2).1=qq at HST0
       generalize hx3:(rBits 4 (rByte (rByte st3).2).1 (rBits 4 (rByte st3).1 (rByte (rByte st3).2).2).2).2=st4 at HST0
       have HST:Hid (rSteps (min 4 left) (rHead (r',false))=(some (ss,qq),st4)):=HST0
       have HX:Hid (ss.length=4∧qq.length=4∧(∀ x∈ss,x < 2097152)∧(∀ x∈qq,x < 2097152)):=show _∧_ by
        rw [← hx1,← hx2];exact ⟨rBits_len _ _ _,rBits_len _ _ _,rBits_lt _ _ (by omega) _,rBits_lt _ _ (by omega) _⟩
       have HX1:=hid hx1
       have HX2:=hid hx2
       have HX3:=hid hx3
       clear hSt HST0 hx1 hx2 hx3 hAB
       go_wp2_with (first
        | (go_at_call 103;refine (CB.out _ _ HI.out.rd).mono ?_;rintro e w3 ⟨rfl,hA,hT⟩;replace HI:=hid (HI.out.step hb hA hT);clear hA hT)
        | (go_at_call 183;refine (CN.out _ _ _ _ HI.out.rd (by omega) (by omega) (by omega)).mono ?_;first | (have HW9:=HV1;rintro e w4 ⟨v10,rfl,hv,hA,hT⟩;have HV2:=hid (World.ownsRow.mono hv HI.out.turn.size);replace HV1:=hid (ownsRow_turned HV1.out hT (fun g hg e=>by have:=(HV1.out.lt g hg).1;omega));replace HI:=hid (HI.out.step hb hA hT);clear hA hT hv) | (rintro e w4 ⟨v9,rfl,hv,hA,hT⟩;have HV1:=hid (World.ownsRow.mono hv HI.out.turn.size));replace HI:=hid (HI.out.step hb hA hT);clear hA hT hv))
       have HV1b:Hid (w4.ownsRow w.heap.size 3 1 v9 ss.length (ss.map natV)):=show World.ownsRow _ _ _ _ _ _ _ by rw [← HX1.out];exact HV1.out
       have HV2b:Hid (w4.ownsRow w.heap.size 3 1 v10 qq.length (qq.map natV)):=show World.ownsRow _ _ _ _ _ _ _ by rw [← HX2.out];exact HV2.out
       have HIb:Hid (TokIn w w4 b base s (.slice (some ⟨g,0,none⟩) l.length cap) l' tv' st4):=show TokIn _ _ _ _ _ _ _ _ _ by rw [← HX3.out];exact HI.out
       clear HV1 HV2 HI HX1 HX2 HX3
       have HI:=HIb
       clear HIb
       obtain ⟨hss,hqq,hsb,hqb⟩:=HX.out
       obtain ⟨g9,cap9,rfl⟩:=row_at HV1b.out (by omega)
       obtain ⟨g10,cap10,rfl⟩:=row_at HV2b.out (by omega)
       have HW:Hid (Two w4 w.heap.size (.slice (some ⟨g9,0,none⟩) 4 cap9) (.slice (some ⟨g10,0,none⟩) 4 cap10) ss qq):=show Two _ _ _ _ _ _ by rw [hss] at HV1b;rw [hqq] at HV2b;exact ⟨by rw [hss];exact HV1b.out,by rw [hqq];exact HV2b.out⟩
       clear HV1b HV2b HX
       rw [hss,hqq]
       obtain ⟨r4,bad4⟩:=st4
       obtain ⟨P,hP⟩:∃ P,rPut t ss qq next l'=P:=⟨_,rfl⟩
       have HP:Hid (rPut t (ss.drop 0) (qq.drop 0) next l'=P):=hP
       go_loopw [7,16] (fun s7 s16 wi=>∃ (k next2:Nat) (l2:List DocR) (tv2:List Value),s16=.int .i64 (k:Int)∧s7=.int .i64 ((next2:Int) - 1)∧k≤4∧next2≤l.length∧l2.length=l.length∧(bad4=true→l2=l'∧next2=next)∧Hid (TokIn w wi b base s (.slice (some ⟨g,0,none⟩) l.length cap) l2 tv2 (r4,bad4))∧Hid (Two wi w.heap.size (.slice (some ⟨g9,0,none⟩) 4 cap9) (.slice (some ⟨g10,0,none⟩) 4 cap10) ss qq)∧Hid (rPut t (ss.drop k) (qq.drop k) next2 l2=P)) (fun _ s16 _=>4 - (intOf s16).toNat)
       case atStart=>exact ⟨0,next,l',tv',rfl,rfl,by omega,hnx,hl',fun _=>⟨rfl,rfl⟩,HI,HW,HP⟩
       case round =>
        obtain ⟨k,next2,l2,tv2,rfl,rfl,hk,hnx2,hl2,hbe,HI2,HW2,HP2⟩:=hrel
        obtain ⟨hfz3,hc3⟩:=rd_frozen HI2.out.rd
        have hf23:=hfz3 2
        clear hfz3
        by_cases hkn:k < 4
        ·have hkni:(k:Int) < 4:=by omega
         cases bad4 with
         | true =>
           obtain ⟨rfl,rfl⟩:=hbe rfl
           go_wp2
           go_roundw
           case rel =>
            refine ⟨left - 4,next2,f,l2,tv2,(r4,true),by go_num,rfl,by omega,(fun e=>by cases e),hnx2,hl2,by omega,HI2,?_⟩
            show R=_
            rw [HR.out,rBlks_bad hnot hlf HST.out rfl,rBlks_end (Or.inr rfl)]
           case measure=>simp [intOf];omega
         | false =>
           obtain ⟨sk,hsk⟩:∃ sk,ss[k]?=some sk:=⟨_,List.getElem?_eq_getElem (by omega)⟩
           obtain ⟨qk,hqk⟩:∃ qk,qq[k]?=some qk:=⟨_,List.getElem?_eq_getElem (by omega)⟩
           have hskb:=hsb sk (List.mem_of_getElem? hsk)
           have hqkb:=hqb qk (List.mem_of_getElem? hqk)
           have HPs:=hid (rPut_step (t:=t) (next:=next2) (l:=l2) hsk hqk)
           have hcs:wr.cell? ⟨g9,k,none⟩=some (.int .i64 (sk:Int)):=row_cell (x:=ss) (cap:=cap9) (by have:=HW2.out.r1;rw [hss] at this ⊢;exact this) hsk
           have hcq:wr.cell? ⟨g10,k,none⟩=some (.int .i64 (qk:Int)):=row_cell (x:=qq) (cap:=cap10) (by have:=HW2.out.r2;rw [hqq] at this ⊢;exact this) hqk
           obtain ⟨o,hoe⟩:∃ o,next2+sk=o:=⟨_,rfl⟩
           rw [hoe] at HPs
           have e7:(next2:Int) - 1+(sk:Int)+1=(o:Int):=by omega
           by_cases ho:l.length≤o
           ·have hoi:(l.length:Int)≤(o:Int):=by omega
            have HR1:Hid (R=(l2,(r4,true))):=show _=_ by
             have hp:P=(true,next2,l2):=by rw [← HP2.out,HPs.out,if_pos (Or.inl (by omega))]
             rw [HR.out,rBlks_fail hnot hlf HST.out rfl (by simp only;rw [hP,hp])]
             simp only [hP,hp]
            go_wp2
            go_quiet (fail)
            go_wp2
            go_ret
            rw [HR1.out]
            exact ⟨rfl,tv2,HI2.out.setBad hb nq⟩
           ·have hoi:¬ ((l.length:Int)≤(o:Int)):=by omega
            have hof:decide ((l.length:Int)≤(o:Int))=false:=decide_eq_false hoi
            obtain ⟨d,hd⟩:∃ d,l2[o]?=some d:=⟨_,List.getElem?_eq_getElem (by omega)⟩
            obtain ⟨tvo,htvo⟩:=HI2.out.docs.tok hd
            have hrow:=HI2.out.docs.toks _ d tvo hd htvo
            have hfew:=HI2.out.few d (List.mem_of_getElem? hd)
            obtain ⟨gt,tcap,ao,hte,_,_⟩:=ownsRow_shape hrow
            have hcd:=(HI2.out.docs.cells hd htvo).2.2.1
            rw [hte] at hcd
            have htl:toksL l2 (o)=d.2.2.length:=by simp [toksL,hd]
            have HD:=hid hd
            have HTV:=hid htvo
            have HTE:=hid hte
            clear hd htvo hrow hte
            by_cases h40:40≤d.2.2.length+qk
            ·have h40i:(40:Int)≤(d.2.2.length:Int)+(qk:Int):=by omega
             have HR1:Hid (R=(l2,(r4,true))):=show _=_ by
              have hp:P=(true,next2,l2):=by rw [← HP2.out,HPs.out,if_pos (Or.inr (by rw [htl];exact h40))]
              rw [HR.out,rBlks_fail hnot hlf HST.out rfl (by simp only;rw [hP,hp])]
              simp only [hP,hp]
             go_wp2
             go_quiet (fail)
             go_wp2
             go_ret
             rw [HR1.out]
             exact ⟨rfl,tv2,HI2.out.setBad hb nq⟩
            ·have h40i:¬ ((40:Int)≤(d.2.2.length:Int)+(qk:Int)):=by omega
             have h40f:decide ((40:Int)≤(d.2.2.length:Int)+(qk:Int))=false:=decide_eq_false h40i
             have HP3:Hid (rPut t (ss.drop (k+1)) (qq.drop (k+1)) (o+1) (addT l2 (o) (qk+1) t)=P):=show _=_ by rw [← HP2.out,HPs.out,if_neg (by rw [htl];omega)]
             clear HPs
             go_wp2
             go_quiet (fail)
             go_wp2
             clear hcs hcq hcd HTE
             go_loopw [17] (fun s17 wj=>∃ (c:Nat) (tv3:List Value),s17=.int .i64 (c:Int)∧c≤qk+1∧Hid (TokIn w wj b base s (.slice (some ⟨g,0,none⟩) l.length cap) (addT l2 o c t) tv3 (r4,false))∧Hid (Two wj w.heap.size (.slice (some ⟨g9,0,none⟩) 4 cap9) (.slice (some ⟨g10,0,none⟩) 4 cap10) ss qq)) (fun s17 _=>qk+1 - (intOf s17).toNat)
             case atStart=>exact ⟨0,tv2,rfl,by omega,hid (by rw [addT_zero];exact HI2.out.drewN nq),hid ⟨HW2.out.r1,HW2.out.r2⟩⟩
             case round =>
              obtain ⟨c,tv3,rfl,hc,HI3,HW3⟩:=hrel
              have hcq:wr.cell? ⟨g10,k,none⟩=some (.int .i64 (qk:Int)):=row_cell (x:=qq) (cap:=cap10) (by have:=HW3.out.r2;rw [hqq] at this ⊢;exact this) hqk
              by_cases hcc:c≤qk
              ·have hcci:(c:Int)≤(qk:Int):=by omega
               have hd3:=addT_get (n:=c) (t:=t) HD.out
               obtain ⟨tv0,htv0⟩:=HI3.out.docs.tok hd3
               have hrow3:=HI3.out.docs.toks _ _ tv0 hd3 htv0
               have hlen3:(d.2.2++List.replicate c t).length=d.2.2.length+c:=by simp
               simp only [hlen3] at hrow3
               obtain ⟨gt3,tcap3,ao3,hte3,_,_⟩:=ownsRow_shape hrow3
               subst hte3
               have hc3':=(HI3.out.docs.cells hd3 htv0).2.2.1
               have HROW:=hid hrow3
               have HD3:=hid hd3
               have HT3:=hid htv0
               have HLEN:=hid hlen3
               have hsz3:=HI3.out.turn.size
               clear hrow3 hd3 htv0 hlen3
               go_wp2_with (first
                | (at_builtin;refine wpList_append_lies _ rfl _ _ 34 rfl base 9 i9 (.string ⟨#[]⟩) 1 16 Tryz.underlying34 hi hz0 hz1 hz2 rfl (by decide) _ _ _ rfl (HROW.out.alloc _) ⟨wr.heap.size,0,none⟩ 1 1 [strV t] rfl rfl (cell_one_new _ _ _) (fun x hx=>by simp at hx;subst hx;rfl) (by omega) (by unfold maxLen;omega) (by omega) (by simp;omega) (wr.heap.size+1) (by simp) ?_;intro gA capA w3 hownA hgrowA hatA hltA;obtain ⟨hk1,hk2⟩:=HI3.out.docs.keep HD3.out HT3.out hgrowA))
               go_roundw
               case rel =>
                refine ⟨c+1,tv3.set o (.slice (some ⟨gA,0,none⟩) (d.2.2.length+c+1) capA),by go_num,by omega,?_,?_⟩
                ·have:=HI3.out.push (x:=t) (t':=.slice (some ⟨gA,0,none⟩) (d.2.2.length+c+1) capA) HD3.out HT3.out hgrowA (by rw [HLEN.out];exact hownA) (at_or hatA) hb (by rw [HLEN.out];omega)
                 rw [addT_addT] at this
                 exact this
                ·refine HW3.out.turned (DocsAt.pushZ _ hgrowA) ?_
                 rintro k cur hk (e | e)
                 ·obtain ⟨c2,hb2⟩:=ownsRow_block HROW.out e
                  exact tag_ne hk hb2 (by decide) rfl
                 ·subst e
                  obtain ⟨c2,hb2⟩:=ownsRow_block HI3.out.docs.row (g:=k) rfl
                  exact tag_ne hk hb2 (by decide) rfl
               case measure=>simp [intOf];omega
              ·have hcci:¬ ((c:Int)≤(qk:Int)):=by omega
               obtain rfl:c=qk+1:=by omega
               go_wp2
               go_roundw
               case rel=>exact ⟨k+1,o+1,_,tv3,by go_num,by go_num,by omega,by omega,by rw [addT_len];exact hl2,(fun e=>by cases e),HI3,HW3,HP3⟩
               case measure=>simp [intOf];omega
        ·have hkni:¬ ((k:Int) < 4):=by omega
         cases bad4 with
         | true =>
           obtain ⟨rfl,rfl⟩:=hbe rfl
           go_wp2
           go_roundw
           case rel =>
            refine ⟨left - 4,next2,f,l2,tv2,(r4,true),by go_num,rfl,by omega,(fun e=>by cases e),hnx2,hl2,by omega,HI2,?_⟩
            show R=_
            rw [HR.out,rBlks_bad hnot hlf HST.out rfl,rBlks_end (Or.inr rfl)]
           case measure=>simp [intOf];omega
         | false =>
           go_wp2
           go_roundw
           case rel =>
            refine ⟨left - 4,next2,f - 1,l2,tv2,(r4,false),by go_num,rfl,by omega,(fun _=>by omega),hnx2,hl2,by omega,HI2,?_⟩
            show R=_
            have hp:P=(false,next2,l2):=by rw [← HP2.out];exact rPut_end (by omega)
            obtain ⟨f1,rfl⟩:∃ f1,f=f1+1:=⟨f - 1,by omega⟩
            rw [HR.out,rBlks_ok' hnot HST.out rfl (by simp only;rw [hP,hp])]
            simp only [hP,hp,hmin]
            rfl
           case measure=>simp [intOf];omega
end Go.Proofs.YtaacjjhmojecnaaGreatDoor
