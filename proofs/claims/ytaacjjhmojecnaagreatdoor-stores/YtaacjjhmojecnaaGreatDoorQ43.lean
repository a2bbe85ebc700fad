import Derived.Test.YtaacjjhmojecnaaGreatDoorQ40
import Derived.Test.YtaacjjhmojecnaaGreatDoorQ42
import Derived.Test.YtaacjjhmojecnaaGreatDoorRefSeg
import Derived.Test.YtaacjjhmojecnaaGreatDoorQ41
namespace Go.Proofs.YtaacjjhmojecnaaGreatDoor
open Go.RowKit Go.ScT Go.Proofs Go.Shelf
set_option maxHeartbeats 1000000 in
theorem countX_any {w:World} {Z:Nat→Prop} {e:Nat} {E:List EDoc} {ss:List Bs} (h:EngXOk w Z e E ss) :
 Calls Tryz.prog 19 #[.pointer (some ⟨e,0,none⟩)] w fun en w'=>en=.returned (.int .i64 (liveN (keysE E):Int))∧w'=w:=by
 obtain ⟨ml,mw,sv,dv,β,nW,DL,DW,h⟩:=h
 have q1:=(cell_five h.buf.eng).2.1
 have HL:Hid (w.ownsMap Tryz.prog 9 (plainElem Tryz.prog 3) ml E.length DL):=h.live
 have HS:Hid (Maps.size DL=liveN (keysE E)):=h.rel.size
 clear h
 go_enter Tryz.func19,Tryz.ntmps19
 go_wp2_with (first | (at_len;refine wpList_len_own _ rfl _ 81 rfl 9 3 Tryz.underlying81 (plainElem Tryz.prog 3) ml E.length DL rfl HL.out ?_) | go_in)
 go_ret
 exact ⟨by rw [← HS.out];rfl,rfl⟩
set_option maxHeartbeats 1000000 in
theorem deleteX_any {w:World} {Z:Nat→Prop} {e:Nat} {E:List EDoc} {ss:List Bs} (hE:EngXOk w Z e E ss) (hl:E.length≤100) (ht:∀ d∈E,d.toks.length≤40) {key:Bs} (hk:key.length≤maxLen) :
 Calls Tryz.prog 22 #[.pointer (some ⟨e,0,none⟩),.string ⟨key.toArray⟩] w fun en w'=>en=.returned (.int .i64 (if keyOk key then (if (findK (keysE E) key).isSome then 0 else 5) else 1))∧EngXOk w' Z e (if keyOk key then retE E key else E) ss∧Turned Z w w':=by
 have CK:Hid (Calls Tryz.prog 46 #[.string ⟨key.toArray⟩] w fun e w'=>e=.returned (.bool (keyOk key))∧Below w.heap.size w w'):=isKey_any ⟨key.toArray⟩ w (by show key.toArray.size≤maxLen;simpa using hk)
 have CR:Hid (∀ w1,EngXOk w1 Z e E ss→Calls Tryz.prog 47 #[.pointer (some ⟨e,0,none⟩),.string ⟨key.toArray⟩] w1 fun en w'=>en=.returned (.bool (findK (keysE E) key).isSome)∧EngXOk w' Z e (retE E key) ss∧Turned Z w1 w'):=fun w1 h1=>retireX_any h1 hl ht hk
 have HE:Hid (EngXOk w Z e E ss):=hE
 clear hE
 cases hkk:keyOk key with
 | false =>
   rw [hkk] at CK
   clear CR
   go_enter Tryz.func22,Tryz.ntmps22
   go_wp2_with (go_at_call 46;refine CK.out.mono ?_;rintro e w1 ⟨rfl,hb1⟩)
   go_ret
   exact ⟨rfl,HE.out.turned (Turned.ofBelow (Z:=fun _=>False) hb1) (fun _ _ h=>h),Turned.ofBelow hb1⟩
 | true =>
   rw [hkk] at CK
   cases hff:(findK (keysE E) key).isSome with
   | false =>
     rw [hff] at CR
     go_enter Tryz.func22,Tryz.ntmps22
     go_wp2_with (first | (go_at_call 46;refine CK.out.mono ?_;rintro e w1 ⟨rfl,hb1⟩;have HE1:Hid (EngXOk w1 Z _ E ss):=HE.out.turned (Turned.ofBelow (Z:=fun _=>False) hb1) (fun _ _ h=>h)) | (go_at_call 47;refine (CR.out _ HE1.out).mono ?_;rintro en w2 ⟨rfl,hE2,ht2⟩))
     go_ret
     exact ⟨rfl,hE2,(Turned.ofBelow hb1).trans ht2⟩
   | true =>
     rw [hff] at CR
     go_enter Tryz.func22,Tryz.ntmps22
     go_wp2_with (first | (go_at_call 46;refine CK.out.mono ?_;rintro e w1 ⟨rfl,hb1⟩;have HE1:Hid (EngXOk w1 Z _ E ss):=HE.out.turned (Turned.ofBelow (Z:=fun _=>False) hb1) (fun _ _ h=>h)) | (go_at_call 47;refine (CR.out _ HE1.out).mono ?_;rintro en w2 ⟨rfl,hE2,ht2⟩))
     go_ret
     exact ⟨rfl,hE2,(Turned.ofBelow hb1).trans ht2⟩
theorem newX_ok (w:World):EngXOk ((((w.alloc (.map #[] 0)).alloc (.cells #[.slice none 0 0,.map (some (w.heap.size+1+1))] 85)).alloc (.map #[] 0)).alloc (.cells #[.int .i64 0,.map (some w.heap.size),.slice none 0 0,.map (some (w.heap.size+1+1)),.slice none 0 0] 87)) (fun b=>w.heap.size≤b∧b < ((((w.alloc (.map #[] 0)).alloc (.cells #[.slice none 0 0,.map (some (w.heap.size+1+1))] 85)).alloc (.map #[] 0)).alloc (.cells #[.int .i64 0,.map (some w.heap.size),.slice none 0 0,.map (some (w.heap.size+1+1)),.slice none 0 0] 87)).heap.size) (w.heap.size+1+1+1) [] []:=by
 have hnI:∀ b,¬ InW (fun _=>(0,0)) (fun k=>wplaces k 0 []) b:=fun b ⟨k,hk,_⟩=>hk rfl
 refine ⟨w.heap.size,w.heap.size+1+1,.slice none 0 0,.slice none 0 0,fun _=>(0,0),0,.map [],.map [],⟨⟨?_,⟨by simp [wdocs,docC],Or.inl ⟨rfl,rfl⟩⟩,?_,⟨fun k=>by simp [Maps.has,wplaces],fun k hk=>absurd rfl hk,fun k hk=>absurd rfl hk,fun k _ hk=>absurd rfl hk⟩,hnI _,hnI _,fun _ hg=>(by cases hg),by omega⟩,?_,LiveRel.start,fun key i hi=>?_,⟨by simp,Or.inl ⟨rfl,rfl⟩⟩,Nat.zero_le _,by omega,by omega,hnI _,fun _ hg=>(by cases hg),fun _ hg=>(by cases hg),(by simp;omega),fun b hb=>?_,fun _ hg=>(by cases hg)⟩⟩
 ·have:=heap_alloc_new (((w.alloc (.map #[] 0)).alloc (.cells #[.slice none 0 0,.map (some (w.heap.size+1+1))] 85)).alloc (.map #[] 0)) (.cells #[.int .i64 0,.map (some w.heap.size),.slice none 0 0,.map (some (w.heap.size+1+1)),.slice none 0 0] 87)
  rw [show (((w.alloc (.map #[] 0)).alloc (.cells #[.slice none 0 0,.map (some (w.heap.size+1+1))] 85)).alloc (.map #[] 0)).heap.size=w.heap.size+1+1+1 by simp] at this
  exact this
 ·have:=(World.ownsMap_made (H:=Unit) ((w.alloc (.map #[] 0)).alloc (.cells #[.slice none 0 0,.map (some (w.heap.size+1+1))] 85)) Tryz.prog 9 sliceE).alloc (.cells #[.int .i64 0,.map (some w.heap.size),.slice none 0 0,.map (some (w.heap.size+1+1)),.slice none 0 0] 87)
  rw [show ((w.alloc (.map #[] 0)).alloc (.cells #[.slice none 0 0,.map (some (w.heap.size+1+1))] 85)).heap.size=w.heap.size+1+1 by simp] at this
  exact this
 ·exact (((World.ownsMap_made (H:=Unit) w Tryz.prog 9 (plainElem Tryz.prog 3)).alloc _).alloc _).alloc _
 ·simp [keysE,findK] at hi
 ·rcases hb with rfl | rfl | hb | hb
  ·simp;omega
  ·simp;omega
  ·cases hb
  ·exact absurd hb (hnI b)
set_option maxHeartbeats 1000000 in
theorem newX_any (w:World):Calls Tryz.prog 62 #[] w fun en w'=>∃ e',en=.returned (.pointer (some ⟨e',0,none⟩))∧EngXOk w' (fun b=>w.heap.size≤b∧b < w'.heap.size) e' [] []∧Below w.heap.size w w':=by
 have mk1:∀ w,(Instr.makeMap 81 none).run Tryz.prog w=.ok (.map (some w.heap.size)) (w.alloc (.map #[] 0)):=fun w=>run_makeMap 81 w
 have mk2:∀ w,(Instr.makeMap 83 none).run Tryz.prog w=.ok (.map (some w.heap.size)) (w.alloc (.map #[] 0)):=fun w=>run_makeMap 83 w
 have HN:Hid (EngXOk _ _ _ _ _):=newX_ok w
 go_enter Tryz.func62,Tryz.ntmps62
 go_wp2
 go_ret
 exact ⟨_,rfl,HN.out,((((Below.refl _ w).alloc (Nat.le_refl _) _).alloc (by simp) _).alloc (by simp;omega) _).alloc (by simp;omega) _⟩
set_option maxHeartbeats 1000000 in
set_option maxRecDepth 1000000 in
theorem addX_bad {w:World} {Z:Nat→Prop} {e:Nat} {E:List EDoc} {ss:List Bs} (hE:EngXOk w Z e E ss) (key text:Bs) (hm:key.length≤maxLen) (hmt:text.length≤maxLen) (hr:addRes key text E.length≠0) :
 Calls Tryz.prog 30 #[.pointer (some ⟨e,0,none⟩),.string ⟨key.toArray⟩,.string ⟨text.toArray⟩] w fun en w'=>en=.returned (.int .i64 (addRes key text E.length))∧EngXOk w' Z e E ss∧Turned Z w w':=by
 have CK:Hid (Calls Tryz.prog 46 #[.string ⟨key.toArray⟩] w fun e w'=>e=.returned (.bool (keyOk key))∧Below w.heap.size w w'):=isKey_any ⟨key.toArray⟩ w (by show key.toArray.size≤maxLen;simpa using hm)
 have HE:Hid (∀ w1,Below w.heap.size w w1→EngXOk w1 Z e E ss):=fun w1 hb=>hE.turned (Turned.ofBelow (Z:=fun _=>False) hb) (fun _ _ h=>h)
 clear hm hE
 unfold addRes at hr ⊢
 unfold maxLen at hmt
 by_cases hk:keyOk key=true
 ·rw [hk] at CK
  rw [hk] at hr ⊢
  simp only [Bool.true_eq_false,if_false] at hr ⊢
  clear hk
  by_cases ht:200 < text.length
  ·rw [if_pos ht] at hr ⊢
   clear hr
   go_enter Tryz.func30,Tryz.ntmps30
   go_wp2_with (go_at_call 46;refine CK.out.mono ?_;rintro en w1 ⟨rfl,hb1⟩)
   go_ret
   exact ⟨rfl,HE.out w1 hb1,Turned.ofBelow hb1⟩
  ·rw [if_neg ht] at hr ⊢
   have CS:Hid (∀ w,Calls Tryz.prog 54 #[.string ⟨text.toArray⟩] w fun e w'=>∃ v,e=.returned v∧w'.ownsRow w.heap.size 9 1 v (toks text).length ((toks text).map strV)∧Below w.heap.size w w'):=fun w=>split_any ⟨text.toArray⟩ w (by show text.toArray.size≤1000000;simp;omega)
   have htl:=toks_len_le text
   generalize toks text=T at CS hr htl ⊢
   by_cases h40:40 < T.length
   ·rw [if_pos h40] at hr ⊢
    clear hr
    go_enter Tryz.func30,Tryz.ntmps30
    go_wp2_with (first
     | (go_at_call 46;refine CK.out.mono ?_;rintro en w1 ⟨rfl,hb1⟩)
     | (go_at_call 54;refine (CS.out _).mono ?_;rintro en w2 ⟨tv,rfl,htv,hb2⟩;obtain ⟨gt,capt,aot,htve,_,_⟩:=ownsRow_shape htv;rw [htve]))
    go_ret
    have hb12:=hb1.trans (hb2.mono hb1.size)
    exact ⟨rfl,HE.out w2 hb12,Turned.ofBelow hb12⟩
   ·rw [if_neg h40] at hr ⊢
    have hN:E.length=100:=by
     apply Classical.byContradiction
     intro h
     rw [if_neg h] at hr
     exact hr rfl
    rw [if_pos hN]
    clear hr
    have hNb:(100:Int)≤(E.length:Int):=by omega
    have HC:Hid (∀ w1,EngXOk w1 Z e E ss→w1.cell? ⟨e,0,none⟩=some (.int .i64 (E.length:Int))):=fun w1 h1=>by
     obtain ⟨ml,mw,sv,dv,T,nW,DL,DW,h1⟩:=h1
     exact (cell_five h1.buf.eng).1
    clear hN
    go_enter Tryz.func30,Tryz.ntmps30
    go_wp2_with (first
     | (go_at_call 46;refine CK.out.mono ?_;rintro en w1 ⟨rfl,hb1⟩)
     | (go_at_call 54;refine (CS.out _).mono ?_;rintro en w2 ⟨tv,rfl,htv,hb2⟩;obtain ⟨gt,capt,aot,htve,_,_⟩:=ownsRow_shape htv;rw [htve];have hb12:=hb1.trans (hb2.mono hb1.size);have q0:=HC.out w2 (HE.out w2 hb12)))
    go_ret
    exact ⟨rfl,HE.out w2 hb12,Turned.ofBelow hb12⟩
 ·have hkf:keyOk key=false:=by simpa using hk
  rw [hkf] at CK
  rw [if_pos hkf]
  clear hk hr
  go_enter Tryz.func30,Tryz.ntmps30
  go_wp2_with (go_at_call 46;refine CK.out.mono ?_;rintro en w1 ⟨rfl,hb1⟩)
  go_ret
  exact ⟨rfl,HE.out w1 hb1,Turned.ofBelow hb1⟩
theorem retE_len (E:List EDoc) (key:Bs):(retE E key).length=E.length:=by
 unfold retE
 split
 ·exact killE_len _ _
 ·rfl
theorem retE_toks {E:List EDoc} {N:Nat} (h:∀ d∈E,d.toks.length≤N) (key:Bs):∀ d∈retE E key,d.toks.length≤N:=by
 unfold retE
 split
 ·intro d hd
  obtain ⟨j,hj⟩:=List.getElem?_of_mem hd
  unfold killE at hj
  rw [List.getElem?_modify] at hj
  cases hq:E[j]? with
  | none=>rw [hq] at hj;simp at hj
  | some d0 =>
    rw [hq] at hj
    have h0:=h d0 (List.mem_of_getElem? hq)
    simp at hj
    rw [← hj]
    split <;> exact h0
 ·exact h
theorem findK_retE {E:List EDoc} (hu:UniqK (keysE E)) (key:Bs):findK (keysE (retE E key)) key=none:=by
 cases h:findK (keysE E) key with
 | none=>rw [retE_none h];exact h
 | some i =>
   rw [retE_some h,keysE_kill]
   cases h2:findK (killAt (keysE E) i) key with
   | none=>rfl
   | some j =>
     obtain ⟨h3,h4⟩:=findK_of_kill hu h2
     rw [h] at h3
     cases h3
     exact absurd rfl h4
set_option maxHeartbeats 1000000 in
set_option maxRecDepth 1000000 in
theorem addX_good {w:World} {Z:Nat→Prop} {e:Nat} {E:List EDoc} {ss:List Bs} (hE:EngXOk w Z e E ss) (hZ:∀ b,Z b→b < w.heap.size) (hl:E.length < 100) (hto:∀ d∈E,d.toks.length≤40) (key text:Bs) (hk:keyOk key=true) (hk1:key.length≤1000) (ht:text.length≤200) (h40:(toks text).length≤40) :
 Calls Tryz.prog 30 #[.pointer (some ⟨e,0,none⟩),.string ⟨key.toArray⟩,.string ⟨text.toArray⟩] w fun en w'=>en=.returned (.int .i64 0)∧EngXOk w' (grow Z w w') e (retE E key++[⟨key,toks text,true,true⟩]) ss∧Turned Z w w':=by
 have hm:key.length≤maxLen:=by unfold maxLen;omega
 have hu:UniqK (keysE E):=by
  obtain ⟨ml,mw,sv,dv,T,nW,DL,DW,h1⟩:=hE
  exact h1.rel.uniq
 have CK:Hid (Calls Tryz.prog 46 #[.string ⟨key.toArray⟩] w fun e w'=>e=.returned (.bool true)∧Below w.heap.size w w'):=hk ▸ isKey_any ⟨key.toArray⟩ w (by show key.toArray.size≤maxLen;simpa using hm)
 have CS:Hid (∀ w,Calls Tryz.prog 54 #[.string ⟨text.toArray⟩] w fun e w'=>∃ v,e=.returned v∧w'.ownsRow w.heap.size 9 1 v (toks text).length ((toks text).map strV)∧Below w.heap.size w w'):=fun w=>split_any ⟨text.toArray⟩ w (by show text.toArray.size≤1000000;simp;omega)
 have HT:Hid (∀ x∈toks text,x.length≤maxLen):=fun x hx=>by
  have:=toks_word text x hx
  unfold maxLen
  omega
 have CR:Hid (∀ w1,EngXOk w1 Z e E ss→Calls Tryz.prog 47 #[.pointer (some ⟨e,0,none⟩),.string ⟨key.toArray⟩] w1 fun en w'=>en=.returned (.bool (findK (keysE E) key).isSome)∧EngXOk w' Z e (retE E key) ss∧Turned Z w1 w'):=fun w1 h1=>retireX_any h1 (by omega) hto hm
 have HE:Hid (∀ w1,Below w.heap.size w w1→EngXOk w1 Z e E ss):=fun w1 hb=>hE.turned (Turned.ofBelow (Z:=fun _=>False) hb) (fun _ _ h=>h)
 have HC:Hid (∀ w1,EngXOk w1 Z e E ss→w1.cell? ⟨e,0,none⟩=some (.int .i64 (E.length:Int))):=fun w1 h1=>by
  obtain ⟨ml,mw,sv,dv,T,nW,DL,DW,h1⟩:=h1
  exact (cell_five h1.buf.eng).1
 have HLK:Hid ((retE E key).length < 100):=by show _ < _;rw [retE_len];exact hl
 have HTO:=hid (retE_toks hto key)
 have HF:Hid (findK (keysE (retE E key)) key=none):=findK_retE hu key
 generalize toks text=W at CS h40 HT
 have hl2:¬ ((100:Int)≤(E.length:Int)):=by omega
 have ht2:(text.length:Int)≤200:=by omega
 clear hu hE hto
 go_enter Tryz.func30,Tryz.ntmps30
 go_wp2_with (first
  | (go_at_call 46;refine CK.out.mono ?_;rintro en w1 ⟨rfl,hb1⟩)
  | (go_at_call 54;refine (CS.out _).mono ?_;rintro en w2 ⟨tv,rfl,htv,hb2⟩;obtain ⟨gt,capt,aot,htve,_,_⟩:=ownsRow_shape htv;rw [htve] at htv ⊢;have hb12:=hb1.trans (hb2.mono hb1.size);have hE2:=HE.out w2 hb12;have q0:=HC.out w2 hE2;have hgz:∀ g,(Value.slice aot W.length capt).ownBlock=some g→¬ Z g:=fun g hg hz=>by (have h1:=ownsRow_base htv hg;have h2:=hZ g hz;have h3:=hb1.size;omega))
  | (go_at_call 47;refine (CR.out _ hE2).mono ?_;rintro en w3 ⟨rfl,hE3,ht3⟩)
  | (go_at_call 55;refine (putX_any hE3 HLK.out HTO.out hk1 HF.out (base:=w1.heap.size) (v:=.slice aot W.length capt) (ws:=W) (rowX_turned htv ht3 hgz) h40 HT.out hgz).mono ?_;rintro en w4 ⟨rfl,hE4,ht4⟩))
 go_ret
 have hT2:Turned Z w w2:=Turned.ofBelow hb12
 have hT3:=hT2.trans ht3
 exact ⟨rfl,hE4.zone (fun b hb=>by
  rcases hb with h | ⟨h1,h2⟩
  ·exact Or.inl h
  ·exact Or.inr ⟨by have:=hT3.size;omega,h2⟩),hT3.trans ht4⟩
def addE (E:List EDoc) (key text:Bs):List EDoc:=if addRes key text E.length=0 then retE E key++[⟨key,toks text,true,true⟩] else E
theorem addX_all {w:World} {Z:Nat→Prop} {e:Nat} {E:List EDoc} {ss:List Bs} (hE:EngXOk w Z e E ss) (hZ:∀ b,Z b→b < w.heap.size) (hl:E.length≤100) (hto:∀ d∈E,d.toks.length≤40) (key text:Bs) (hm:key.length≤maxLen) (hmt:text.length≤maxLen) :
 Calls Tryz.prog 30 #[.pointer (some ⟨e,0,none⟩),.string ⟨key.toArray⟩,.string ⟨text.toArray⟩] w fun en w'=>en=.returned (.int .i64 (addRes key text E.length))∧EngXOk w' (grow Z w w') e (addE E key text) ss∧Turned Z w w':=by
 by_cases hr:addRes key text E.length=0
 ·obtain ⟨h1,h2,h3,h4⟩:=addRes_zero _ _ _ hr
  have hd:addE E key text=retE E key++[⟨key,toks text,true,true⟩]:=by simp [addE,hr]
  rw [hr,hd]
  exact addX_good hE hZ (by omega) hto key text h1 (Go.Proofs.YtaacjjhmojecnaaGreatDoor.keyOk_len h1) h2 h3
 ·have hd:addE E key text=E:=by simp [addE,hr]
  rw [hd]
  exact (addX_bad hE key text hm hmt hr).mono fun en w' ⟨a,b,c⟩=>⟨a,b.zone (fun b hb=>Or.inl hb),c⟩
end Go.Proofs.YtaacjjhmojecnaaGreatDoor
namespace Go.Proofs.YtaacjjhmojecnaaGreatDoor
open Go.RowKit Go.ScT Go.Proofs
def eR:Nat→List EDoc→List DocR
 | _,[]=>[]
 | n,d :: r=>(d.key,n+1,d.toks) :: eR (n+1) r
theorem eR_len:∀ (n:Nat) (E:List EDoc),(eR n E).length=E.length
 | _,[]=>rfl
 | n,d :: r=>by simp [eR,eR_len (n+1) r]
theorem eR_get:∀ (E:List EDoc) (n i:Nat),(eR n E)[i]?=(E[i]?).map fun d=>(d.key,n+i+1,d.toks)
 | [],_,_=>by simp [eR]
 | d :: r,n,0=>by simp [eR]
 | d :: r,n,i+1=>by
   have:=eR_get r (n+1) i
   simp only [eR,List.getElem?_cons_succ,this]
   rw [show n+1+i+1=n+(i+1)+1 by omega]
theorem eR_snoc:∀ (E:List EDoc) (n:Nat) (d:EDoc),eR n (E++[d])=eR n E++[(d.key,n+E.length+1,d.toks)]
 | [],n,d=>by simp [eR]
 | a :: r,n,d=>by
   have:=eR_snoc r (n+1) d
   simp only [List.cons_append,eR,this,List.length_cons]
   rw [show n+1+r.length+1=n+(r.length+1)+1 by omega]
theorem eR_kill:∀ (E:List EDoc) (n i:Nat),eR n (killE E i)=eR n E
 | [],_,_=>by simp [killE,eR]
 | d :: r,n,0=>by simp [killE,eR]
 | d :: r,n,i+1=>by
   have:=eR_kill r (n+1) i
   simp only [killE,List.modify_succ_cons,eR] at this ⊢
   rw [this]
theorem waits_kill (E:List EDoc) (i:Nat):(killE E i).map (·.waits)=(E.map (·.waits)).set i false:=by
 apply List.ext_getElem?
 intro j
 simp only [killE,List.getElem?_map,List.getElem?_modify,List.getElem?_set]
 by_cases h:i=j
 ·subst h
  by_cases hl:i < E.length
  ·simp [hl]
  ·simp [hl]
 ·simp [h]
theorem docCells_snoc:∀ (l:List DocR) (tv:List Value) (d:DocR) (t:Value),tv.length=l.length→docCells (l++[d]) (tv++[t])=docCells l tv++[.string ⟨d.1.toArray⟩,natV d.2.1,t]
 | [],[],d,t,_=>by simp [docCells]
 | a :: l,b :: tv,d,t,h=>by
   have:=docCells_snoc l tv d t (by simpa using h)
   simp only [List.cons_append,docCells,this]
 | [],_ :: _,_,_,h=>by simp at h
 | _ :: _,[],_,_,h=>by simp at h
def Zf (y:Nat) (v1 v2 v3:Value):Nat→Prop:=fun b=>b=y∨v1.ownBlock=some b∨v2.ownBlock=some b∨v3.ownBlock=some b
theorem RefOk.fine {w:World} {Z:Nat→Prop} {y:Nat} {ds:Docs} {v1 v2 v3 v4:Value} {xs:List Value} {ws:List Bool} (h:RefOk w Z y ds v1 v2 v3 v4 xs ws):RefOk w (Zf y v1 v2 v3) y ds v1 v2 v3 v4 xs ws :=
 ⟨h.eng,h.own1,h.keys,h.own2,h.own3,Or.inl rfl,fun _ hg=>Or.inr (Or.inl hg),fun _ hg=>Or.inr (Or.inr (Or.inl hg)),fun _ hg=>Or.inr (Or.inr (Or.inr hg)),h.apart⟩
theorem RefOk.tag {w:World} {Z:Nat→Prop} {y:Nat} {ds:Docs} {v1 v2 v3 v4:Value} {xs:List Value} {ws:List Bool} (h:RefOk w Z y ds v1 v2 v3 v4 xs ws) {b:Nat} {c:Array Value} {t:TypeId} {f:Nat × Nat} (hb:w.heap[b]?=some (.cells c t f)) (h1:t≠193) (h2:t≠185) (h3:t≠4):¬ Zf y v1 v2 v3 b:=by
 rintro (e | e | e | e)
 ·subst e;rw [h.eng] at hb;cases hb;exact h1 rfl
 ·obtain ⟨cu,bq⟩:=ownsRow_block h.own1 e;rw [bq] at hb;cases hb;exact h2 rfl
 ·obtain ⟨cu,bq⟩:=ownsRow_block h.own2 e;rw [bq] at hb;cases hb;exact h3 rfl
 ·obtain ⟨cu,bq⟩:=ownsRow_block h.own3 e;rw [bq] at hb;cases hb;exact h3 rfl
structure RefX (w:World) (Z:Nat→Prop) (y:Nat) (E:List EDoc) (Ws:List (List Nat)) (v1 v2 v3 v4:Value) (tvs svs:List Value):Prop where
 ref:RefOk w (Zf y v1 v2 v3) y (keysE E) v1 v2 v3 v4 (docCells (eR 0 E) tvs) (E.map (·.waits))
 docs:DocsAt w 0 v1 (eR 0 E) tvs
 own4:w.ownsRow 0 35 1 v4 Ws.length svs
 rows:∀ (j:Nat) (I:List Nat) (s:Value),Ws[j]?=some I→svs[j]?=some s→w.ownsRow 0 3 1 s I.length (I.map natV)
 z:∀ b,Zf y v1 v2 v3 b→Z b
 z4:∀ g,v4.ownBlock=some g→Z g
 zt:∀ (i:Nat) (t:Value) (g:Nat),tvs[i]?=some t→t.ownBlock=some g→Z g
 zs:∀ (j:Nat) (s:Value) (g:Nat),svs[j]?=some s→s.ownBlock=some g→Z g
def RefXOk (w:World) (Z:Nat→Prop) (y:Nat) (E:List EDoc) (Ws:List (List Nat)):Prop:=∃ v1 v2 v3 v4 tvs svs,RefX w Z y E Ws v1 v2 v3 v4 tvs svs
theorem RefX.turned {w w':World} {Z Z':Nat→Prop} {y:Nat} {E:List EDoc} {Ws:List (List Nat)} {v1 v2 v3 v4:Value} {tvs svs:List Value} (h:RefX w Z y E Ws v1 v2 v3 v4 tvs svs) (ht:Turned Z' w w') (hz:∀ b,Z b→¬ Z' b):RefX w' Z y E Ws v1 v2 v3 v4 tvs svs:=by
 refine ⟨h.ref.turned ht (fun b hb=>hz b (h.z b hb)),⟨ownsRow_turned h.docs.row ht (fun g hg=>hz g (h.z g (Or.inr (Or.inl hg)))),h.docs.len,fun i d t hd ht'=>ownsRow_turned (h.docs.toks i d t hd ht') ht (fun g hg=>hz g (h.zt i t g ht' hg)),h.docs.apart⟩,ownsRow_turned h.own4 ht (fun g hg=>hz g (h.z4 g hg)),fun j I s hI hs=>ownsRow_turned (h.rows j I s hI hs) ht (fun g hg=>hz g (h.zs j s g hs hg)),h.z,h.z4,h.zt,h.zs⟩
theorem RefXOk.turned {w w':World} {Z Z':Nat→Prop} {y:Nat} {E:List EDoc} {Ws:List (List Nat)} (h:RefXOk w Z y E Ws) (ht:Turned Z' w w') (hz:∀ b,Z b→¬ Z' b):RefXOk w' Z y E Ws:=by
 obtain ⟨v1,v2,v3,v4,tvs,svs,h⟩:=h
 exact ⟨v1,v2,v3,v4,tvs,svs,h.turned ht hz⟩
theorem RefXOk.zone {w:World} {Z Z':Nat→Prop} {y:Nat} {E:List EDoc} {Ws:List (List Nat)} (h:RefXOk w Z y E Ws) (hz:∀ b,Z b→Z' b):RefXOk w Z' y E Ws:=by
 obtain ⟨v1,v2,v3,v4,tvs,svs,h⟩:=h
 exact ⟨v1,v2,v3,v4,tvs,svs,⟨h.ref,h.docs,h.own4,h.rows,fun b hb=>hz b (h.z b hb),fun g hg=>hz g (h.z4 g hg),fun i t g a b=>hz g (h.zt i t g a b),fun j s g a b=>hz g (h.zs j s g a b)⟩⟩
theorem RefX.rest {w w':World} {Z:Nat→Prop} {y:Nat} {E:List EDoc} {Ws:List (List Nat)} {v1 v2 v3 v4:Value} {tvs svs:List Value} (h:RefX w Z y E Ws v1 v2 v3 v4 tvs svs) (ht:Turned (Zf y v1 v2 v3) w w'):(∀ (i:Nat) (d:DocR) (t:Value),(eR 0 E)[i]?=some d→tvs[i]?=some t→w'.ownsRow 0 9 1 t d.2.2.length (d.2.2.map strV))∧w'.ownsRow 0 35 1 v4 Ws.length svs∧∀ (j:Nat) (I:List Nat) (s:Value),Ws[j]?=some I→svs[j]?=some s→w'.ownsRow 0 3 1 s I.length (I.map natV):=by
 refine ⟨fun i d t hd ht'=>ownsRow_turned (h.docs.toks i d t hd ht') ht (fun g hg=>?_),ownsRow_turned h.own4 ht (fun g hg=>?_),fun j I s hI hs=>ownsRow_turned (h.rows j I s hI hs) ht (fun g hg=>?_)⟩
 ·obtain ⟨cu,bq⟩:=ownsRow_block (h.docs.toks i d t hd ht') hg
  exact h.ref.tag bq (by decide) (by decide) (by decide)
 ·obtain ⟨cu,bq⟩:=ownsRow_block h.own4 hg
  exact h.ref.tag bq (by decide) (by decide) (by decide)
 ·obtain ⟨cu,bq⟩:=ownsRow_block (h.rows j I s hI hs) hg
  exact h.ref.tag bq (by decide) (by decide) (by decide)
theorem RefX.killed {w w':World} {Z:Nat→Prop} {y:Nat} {E:List EDoc} {Ws:List (List Nat)} {v1 v2 v3 v4:Value} {tvs svs:List Value} (h:RefX w Z y E Ws v1 v2 v3 v4 tvs svs) (i:Nat) (hr:RefOk w' (Zf y v1 v2 v3) y (killAt (keysE E) i) v1 v2 v3 v4 (docCells (eR 0 E) tvs) ((E.map (·.waits)).set i false)) (ht:Turned (Zf y v1 v2 v3) w w'):RefX w' Z y (killE E i) Ws v1 v2 v3 v4 tvs svs:=by
 obtain ⟨r1,r2,r3⟩:=h.rest ht
 refine ⟨?_,?_,r2,r3,h.z,h.z4,h.zt,h.zs⟩
 ·rw [keysE_kill,eR_kill,waits_kill];exact hr
 ·rw [eR_kill]
  refine ⟨?_,h.docs.len,r1,h.docs.apart⟩
  have:=hr.own1
  rw [eR_len]
  have hl:(killAt (keysE E) i).length=E.length:=by simp [killAt,keysE]
  rw [hl] at this
  exact this
theorem refDeleteE_any {w:World} {Z:Nat→Prop} {y:Nat} {E:List EDoc} {Ws:List (List Nat)} (h:RefXOk w Z y E Ws) (hl:E.length≤100) {key:Bs} (hm:key.length≤maxLen) :
 Calls Tryz.prog 120 #[.pointer (some ⟨y,0,none⟩),.string ⟨key.toArray⟩] w fun e w'=>e=.returned (.int .i64 (if keyOk key then (if (findK (keysE E) key).isSome then 0 else 5) else 1))∧RefXOk w' Z y (if keyOk key then retE E key else E) Ws∧Turned Z w w':=by
 obtain ⟨v1,v2,v3,v4,tvs,svs,h⟩:=h
 have hkl:(keysE E).length≤100:=by simp [keysE];omega
 refine (refDeleteX_any w _ y _ v1 v2 v3 v4 _ _ h.ref hkl key hm).mono ?_
 rintro e w' ⟨rfl,hr,ht⟩
 refine ⟨rfl,⟨v1,v2,v3,v4,tvs,svs,?_⟩,ht.mono (fun b _ hb=>h.z b hb)⟩
 by_cases hk:keyOk key=true
 ·simp only [hk,if_true] at hr ⊢
  cases hf:findK (keysE E) key with
  | none =>
    rw [retE_none hf]
    have h1:killK (keysE E) key=keysE E:=by simp [killK,hf]
    have h2:killW (keysE E) (E.map (·.waits)) key=E.map (·.waits):=by simp [killW,hf]
    rw [h1,h2] at hr
    obtain ⟨r1,r2,r3⟩:=h.rest ht
    refine ⟨hr,⟨?_,h.docs.len,r1,h.docs.apart⟩,r2,r3,h.z,h.z4,h.zt,h.zs⟩
    have:=hr.own1
    rw [eR_len]
    simpa [keysE] using this
  | some i =>
    rw [retE_some hf]
    have h1:killK (keysE E) key=killAt (keysE E) i:=by simp [killK,hf]
    have h2:killW (keysE E) (E.map (·.waits)) key=(E.map (·.waits)).set i false:=by simp [killW,hf]
    rw [h1,h2] at hr
    exact h.killed i hr ht
 ·have hk':keyOk key=false:=by simpa using hk
  simp only [hk',if_neg (show ¬ (false=true) by simp)] at hr ⊢
  obtain ⟨r1,r2,r3⟩:=h.rest ht
  refine ⟨hr,⟨?_,h.docs.len,r1,h.docs.apart⟩,r2,r3,h.z,h.z4,h.zt,h.zs⟩
  have:=hr.own1
  rw [eR_len]
  simpa [keysE] using this
theorem RefOk.low {w:World} {Z:Nat→Prop} {y:Nat} {ds:Docs} {v1 v2 v3 v4:Value} {xs:List Value} {ws:List Bool} (h:RefOk w Z y ds v1 v2 v3 v4 xs ws):∀ b,Zf y v1 v2 v3 b→b < w.heap.size:=by
 rintro b (e | e | e | e)
 ·rw [e];exact lt_of_block h.eng
 ·exact (h.own1.lt b e).2
 ·exact (h.own2.lt b e).2
 ·exact (h.own3.lt b e).2
theorem wrap_small {n:Nat} (h:n < 1000):IntKind.i64.wrap ((n:Int)+1)=((n+1:Nat):Int):=by
 have h1:IntKind.i64.wrap ((n:Int)+1)=(n:Int)+1:=by
  unfold IntKind.wrap
  simp [IntKind.bits,IntKind.signed]
  omega
 rw [h1]
 simp
theorem RefX.pushed {w w':World} {Z:Nat→Prop} {y:Nat} {E E':List EDoc} {Ws:List (List Nat)} {v1 v2 v3 v4 v1' v2' v3' tv:Value} {tvs svs:List Value} {key:Bs} {ts:List Bs} (h:RefX w Z y E Ws v1 v2 v3 v4 tvs svs) (heR:eR 0 E'=eR 0 E) (hlen:E'.length=E.length) (hl:E.length < 100)
 (hr:RefOk w' (grow (Zf y v1 v2 v3) w w') y (keysE E'++[(key,true)]) v1' v2' v3' v4 (docCells (eR 0 E) tvs++[.string ⟨key.toArray⟩,.int .i64 (IntKind.i64.wrap ((E.length:Int)+1)),tv]) (E'.map (·.waits)++[true])) (hrow:w'.ownsRow w.heap.size 9 1 tv ts.length (ts.map strV)) (ht:Turned (Zf y v1 v2 v3) w w') :
 RefX w' (grow Z w w') y (E'++[⟨key,ts,true,true⟩]) Ws v1' v2' v3' v4 (tvs++[tv]) svs:=by
 obtain ⟨r1,r2,r3⟩:=h.rest ht
 have hcell:docCells (eR 0 E) tvs++[.string ⟨key.toArray⟩,.int .i64 (IntKind.i64.wrap ((E.length:Int)+1)),tv]=docCells (eR 0 (E'++[⟨key,ts,true,true⟩])) (tvs++[tv]):=by
  rw [eR_snoc,docCells_snoc _ _ _ _ (by rw [h.docs.len,heR]),heR,wrap_small (by omega),hlen]
  simp [natV]
 have hzg:∀ b,grow (Zf y v1 v2 v3) w w' b→grow Z w w' b:=fun b hb=>hb.imp (h.z b) id
 have htl:tvs.length=E.length:=by rw [h.docs.len,eR_len]
 have hold:∀ (i:Nat) (t:Value) (g:Nat),tvs[i]?=some t→t.ownBlock=some g→g < w.heap.size:=fun i t g hi hg=>by
  have hil:=(List.getElem?_eq_some_iff.1 hi).1
  obtain ⟨d,hd⟩:∃ d,(eR 0 E)[i]?=some d:=⟨_,List.getElem?_eq_getElem (by rw [eR_len];omega)⟩
  exact ((h.docs.toks i d t hd hi).lt g hg).2
 rw [hcell] at hr
 have hk:keysE (E'++[(⟨key,ts,true,true⟩:EDoc)])=keysE E'++[(key,true)]:=keysE_snoc _ _
 refine ⟨?_,⟨?_,?_,?_,?_⟩,r2,r3,?_,fun g hg=>Or.inl (h.z4 g hg),?_,fun j s g a b=>Or.inl (h.zs j s g a b)⟩
 ·rw [hk,List.map_append];exact hr.fine
 ·have:=hr.own1
  rw [eR_len]
  have hl':(keysE E'++[(key,true)]).length=(E'++[(⟨key,ts,true,true⟩:EDoc)]).length:=by simp [keysE]
  rw [hl'] at this
  exact this
 ·rw [eR_len];simp [htl,hlen]
 ·intro i d t hd hti
  rw [eR_snoc,heR] at hd
  rw [List.getElem?_append] at hd hti
  by_cases hi:i < E.length
  ·rw [if_pos (by rw [eR_len];exact hi)] at hd
   rw [if_pos (by omega)] at hti
   exact r1 i d t hd hti
  ·rw [if_neg (by rw [eR_len];exact hi)] at hd
   rw [if_neg (by omega)] at hti
   have h0:i - tvs.length=0:=by
    have:=(List.getElem?_eq_some_iff.1 hti).1
    simp at this
    omega
   rw [h0] at hti
   rw [eR_len,show i - E.length=0 by omega] at hd
   simp at hti hd
   subst hti hd
   exact hrow.mono (Nat.zero_le _)
 ·intro i j a b g ha hb hga hgb
  rw [List.getElem?_append] at ha hb
  by_cases hi:i < tvs.length
  ·rw [if_pos hi] at ha
   by_cases hj:j < tvs.length
   ·rw [if_pos hj] at hb
    exact h.docs.apart i j a b g ha hb hga hgb
   ·rw [if_neg hj] at hb
    exfalso
    have h1:=hold i a g ha hga
    have h0:j - tvs.length=0:=by
     have:=(List.getElem?_eq_some_iff.1 hb).1
     simp at this;omega
    rw [h0] at hb
    simp at hb
    subst hb
    have:=(hrow.lt g hgb).1
    omega
  ·rw [if_neg hi] at ha
   have h0:i - tvs.length=0:=by
    have:=(List.getElem?_eq_some_iff.1 ha).1
    simp at this;omega
   rw [h0] at ha
   simp at ha
   subst ha
   by_cases hj:j < tvs.length
   ·rw [if_pos hj] at hb
    exfalso
    have h1:=hold j b g hb hgb
    have:=(hrow.lt g hga).1
    omega
   ·rw [if_neg hj] at hb
    have:=(List.getElem?_eq_some_iff.1 hb).1
    simp at this
    omega
 ·rintro b (e | e | e | e)
  ·exact hzg b (e ▸ hr.zy)
  ·exact hzg b (hr.z1 b e)
  ·exact hzg b (hr.z2 b e)
  ·exact hzg b (hr.z3 b e)
 ·intro i t g hi hg
  rw [List.getElem?_append] at hi
  split at hi
  ·exact Or.inl (h.zt i t g hi hg)
  ·rename_i hge
   have h0:i - tvs.length=0:=by
    have:=(List.getElem?_eq_some_iff.1 hi).1
    simp at this;omega
   rw [h0] at hi
   simp at hi
   subst hi
   exact Or.inr (hrow.lt g hg)
theorem refAddE_any {w:World} {Z:Nat→Prop} {y:Nat} {E:List EDoc} {Ws:List (List Nat)} (h:RefXOk w Z y E Ws) (hl:E.length≤100) (key text:Bs) (hm:key.length≤maxLen) (hmt:text.length≤maxLen) :
 Calls Tryz.prog 119 #[.pointer (some ⟨y,0,none⟩),.string ⟨key.toArray⟩,.string ⟨text.toArray⟩] w fun e w'=>e=.returned (.int .i64 (addRes key text E.length))∧RefXOk w' (grow Z w w') y (addE E key text) Ws∧Turned Z w w':=by
 obtain ⟨v1,v2,v3,v4,tvs,svs,h⟩:=h
 have hkl:(keysE E).length=E.length:=by simp [keysE]
 by_cases hr:addRes key text E.length=0
 ·obtain ⟨h1,h2,h3,h4⟩:=addRes_zero _ _ _ hr
  have hd:addE E key text=retE E key++[⟨key,toks text,true,true⟩]:=by simp [addE,hr]
  rw [hr,hd]
  cases hf:findK (keysE E) key with
  | none =>
    refine (refAddX_new w _ y _ v1 v2 v3 v4 _ _ h.ref h.ref.low (by rw [hkl];omega) key text h1 hm h2 h3 hf).mono ?_
    rintro e w' ⟨rfl,⟨v1',v2',v3',tv,hq,hrow⟩,ht⟩
    rw [hkl] at hq
    rw [retE_none hf]
    exact ⟨rfl,⟨_,_,_,_,_,_,h.pushed rfl rfl (by omega) hq hrow ht⟩,ht.mono (fun b _ hb=>h.z b hb)⟩
  | some i =>
    refine (refAddX_old w _ y _ v1 v2 v3 v4 _ _ h.ref h.ref.low (by rw [hkl];omega) key text h1 hm h2 h3 i hf).mono ?_
    rintro e w' ⟨rfl,⟨v1',v2',v3',tv,hq,hrow⟩,ht⟩
    rw [hkl,← keysE_kill,← waits_kill] at hq
    rw [retE_some hf]
    exact ⟨rfl,⟨_,_,_,_,_,_,h.pushed (eR_kill E 0 i) (killE_len E i) (by omega) hq hrow ht⟩,ht.mono (fun b _ hb=>h.z b hb)⟩
 ·have hd:addE E key text=E:=by simp [addE,hr]
  rw [hd]
  have:=refAdd_bad w _ y _ v1 v2 v3 v4 _ _ h.ref key text hm hmt (by rw [hkl];exact hr)
  rw [hkl] at this
  refine this.mono ?_
  rintro e w' ⟨rfl,hq,ht⟩
  obtain ⟨r1,r2,r3⟩:=h.rest ht
  refine ⟨rfl,RefXOk.zone (Z:=Z) ⟨v1,v2,v3,v4,tvs,svs,⟨hq,⟨?_,h.docs.len,r1,h.docs.apart⟩,r2,r3,h.z,h.z4,h.zt,h.zs⟩⟩ (fun b hb=>Or.inl hb),ht.mono (fun b _ hb=>h.z b hb)⟩
  have:=hq.own1
  rw [eR_len]
  rw [hkl] at this
  exact this
theorem refNewE (w:World):RefXOk (w.alloc (.cells #[.slice none 0 0,.slice none 0 0,.slice none 0 0,.slice none 0 0] 193)) (fun b=>b=w.heap.size) w.heap.size [] []:=by
 refine ⟨.slice none 0 0,.slice none 0 0,.slice none 0 0,.slice none 0 0,[],[],⟨⟨heap_alloc_new w _,⟨by simp [docCells,eR,keysE],Or.inl ⟨rfl,rfl⟩⟩,fun i d h=>(by simp [keysE] at h),⟨by simp [keysE],Or.inl ⟨rfl,rfl⟩⟩,⟨by simp [keysE],Or.inl ⟨rfl,rfl⟩⟩,Or.inl rfl,fun g hg=>(by cases hg),fun g hg=>(by cases hg),fun g hg=>(by cases hg),fun g hg=>(by cases hg)⟩,⟨⟨by simp [docCells,eR],Or.inl ⟨rfl,rfl⟩⟩,rfl,fun i d t h=>(by simp [eR] at h),fun i j a b g h=>(by simp at h)⟩,⟨by simp,Or.inl ⟨rfl,rfl⟩⟩,fun j I s h=>(by simp at h),?_,fun g hg=>(by cases hg),fun i t g h=>(by simp at h),fun j s g h=>(by simp at h)⟩⟩
 rintro b (e | e | e | e)
 ·exact e
 all_goals cases e
theorem refCountE_any {w:World} {Z:Nat→Prop} {y:Nat} {E:List EDoc} {Ws:List (List Nat)} (h:RefXOk w Z y E Ws) (hl:E.length≤100) :
 Calls Tryz.prog 121 #[.pointer (some ⟨y,0,none⟩)] w fun e w'=>e=.returned (.int .i64 (liveN (keysE E):Int))∧∃ q,w'=w.drewN q:=by
 obtain ⟨v1,v2,v3,v4,tvs,svs,h⟩:=h
 exact refCount_any w _ y _ v1 v2 v3 v4 _ _ h.ref (by simp [keysE];omega)
end Go.Proofs.YtaacjjhmojecnaaGreatDoor
namespace Go.Proofs.YtaacjjhmojecnaaGreatDoor
open Go.RowKit Go.ScT Go.Proofs Go.Shelf
theorem clear_map {w:World} {mw nW:Nat} {DW:DataW Unit} (h:w.ownsMap Tryz.prog 9 sliceE mw nW DW):∃ w',(∀ ty,(Builtin.clear_ #[83] ty #[.map (some mw)]).run Tryz.prog w=.ok (.tuple #[]) w')∧w'.ownsMap Tryz.prog 9 sliceE mw 0 (.map [])∧Turned (fun b=>b=mw) w w':=by
 obtain ⟨es,clock,hb,F,hs,hD⟩:=h
 have hlt:mw < w.heap.size:=(Array.getElem?_eq_some_iff.1 hb).1
 refine ⟨{ w with heap:=w.heap.setIfInBounds mw (.map #[] clock) },fun ty=>?_,⟨#[],clock,?_,⟨by simp,MapKept.stamped_empty clock,by simp⟩,Nat.le_refl _,rfl⟩,⟨rfl,rfl,rfl,by simp,fun b hb' hz=>?_⟩⟩
 ·simp [Builtin.clear_,run_underlying Tryz.underlying83,MapKept.run_getObj_map hb,MapKept.run_setObj_map _ hb,Result.andThen]
 ·simp [hlt]
 ·simp only [Array.getElem?_setIfInBounds]
  rw [if_neg (fun e=>hz e.symm)]
theorem clear_docs {w:World} {ao:Option Addr} {n cap:Nat} {ds:List DocP} (h:DRow w 0 (.slice ao n cap) ds) (hn:n=ds.length):∃ w1,(∀ ty,(Builtin.clear_ #[82] ty #[.slice ao n cap]).run Tryz.prog w=.ok (.tuple #[]) w1)∧DRow w1 0 (.slice ao 0 cap) []∧Turned (fun b=>(Value.slice ao n cap).ownBlock=some b) w w1:=by
 have h':w.ownsRow 0 141 3 (.slice ao n cap) n (docC ds):=by have:=h;unfold DRow at this;rw [← hn] at this;exact this
 rcases h'.2 with ⟨he,hn0⟩ | ⟨g,c,cu,he,_,hg,hnc,hcm,hcs,htk⟩
 ·cases he
  refine ⟨w,fun ty=>?_,World.ownsRow_nil _ _ _ _,Turned.refl _ _⟩
  simp [Builtin.clear_,run_underlying Tryz.underlying82]
 ·cases he
  have h0:=row_short h' (i:=0) (Nat.zero_le _)
  rw [Nat.zero_mul,List.take_zero] at h0
  by_cases hz:n=0
  ·subst hz
   refine ⟨w,fun ty=>?_,h0,Turned.refl _ _⟩
   simp [Builtin.clear_,run_underlying Tryz.underlying82]
  ·refine ⟨w.setCells g 0 (zDocs n),fun ty=>clear_three w ty g 0 n cap (by omega) (fun j hj=>?_) (fun j hj=>?_),row_behind _ 0 w (by omega) h0,Turned.setMany (Z:=fun b=>(Value.slice (some ⟨g,0,none⟩) n cap).ownBlock=some b) g rfl _ _ _⟩
   ·rw [Nat.zero_add,h'.cellAt j hj]
    rw [List.getElem?_eq_getElem (by rw [h'.1];exact hj)]
    rfl
   ·rw [Nat.zero_add];exact h'.frozenAt j
set_option maxHeartbeats 1000000 in
set_option maxRecDepth 1000000 in
theorem empty_any {w:World} {e mw:Nat} {c0 c1 c4 dv:Value} {ds:List DocP} {β:BT} {f:Bs→Pls} {nW:Nat} {DW:DataW Unit} (hb:BufX w e mw c0 c1 c4 dv ds β f nW DW) :
 Calls Tryz.prog 51 #[.pointer (some ⟨e,2,none⟩)] w fun en w'=>en=.returned (.tuple #[])∧(∃ dv',BufX w' e mw c0 c1 c4 dv' [] β (fun _=>[]) 0 (.map [])∧dv'.ownBlock=dv.ownBlock)∧Turned (ZX e mw dv β f) w w':=by
 obtain ⟨_,dcap,ao,hdv,_,_⟩:=ownsRow_shape hb.docs
 obtain ⟨n,hn⟩:∃ n,n=ds.length:=⟨_,rfl⟩
 rw [← hn] at hdv
 subst hdv
 obtain ⟨w1,hcl1,hd1,t1⟩:=clear_docs hb.docs hn
 have hee:¬ ((Value.slice ao n dcap).ownBlock=some e):=fun h=>(hb.dT e h).2.1 rfl
 have E1:w1.heap[e]?=some (.cells #[c0,c1,.slice ao n dcap,.map (some mw),c4] 87 (0,0)):=(t1.block e (lt_of_block hb.eng) hee).trans hb.eng
 have T2:Turned (fun b=>b=e) w1 (w1.setCell ⟨e,2,none⟩ (.slice ao 0 dcap)):=Turned.ofSet w1 _ _ rfl
 have E2:(w1.setCell ⟨e,2,none⟩ (.slice ao 0 dcap)).heap[e]?=some (.cells #[c0,c1,.slice ao 0 dcap,.map (some mw),c4] 87 (0,0)):=heap_setCell_same w1 e 2 _ 87 _ E1
 have hM2:(w1.setCell ⟨e,2,none⟩ (.slice ao 0 dcap)).ownsMap Tryz.prog 9 sliceE mw nW DW:=ownsMap_turned (ownsMap_turned hb.words t1 (fun h=>(hb.dT _ h).2.2 rfl)) T2 (fun h=>hb.em h.symm)
 obtain ⟨w3,hcl3,hm3,t3⟩:=clear_map hM2
 have q2:=(cell_five hb.eng).2.2.1
 have q2':=(cell_five E1).2.2.1
 have f2':=frozen_five E1 2
 have q3:=(cell_five E2).2.2.2.1
 have FIN:Hid (BufX w3 e mw c0 c1 c4 (.slice ao 0 dcap) [] β (fun _=>[]) 0 (.map [])∧Turned (ZX e mw (.slice ao n dcap) β f) w w3):=by
  have hnI:∀ b,¬ InW β (fun _=>[]) b:=fun b ⟨k,hk,_⟩=>hk rfl
  refine ⟨⟨(t3.block e (lt_of_block E2) (fun h=>hb.em h)).trans E2,rowX_turned (rowX_turned hd1 T2 (fun g hg=>(hb.dT g ((ownB_len ao n 0 dcap).trans hg)).2.1)) t3 (fun g hg=>(hb.dT g ((ownB_len ao n 0 dcap).trans hg)).2.2),hm3,⟨fun k=>by simp [Maps.has],fun k hk=>absurd rfl hk,fun k hk=>absurd rfl hk,fun k _ hk=>absurd rfl hk⟩,hnI _,hnI _,fun g hg=>⟨hnI g,(hb.dT g ((ownB_len ao n 0 dcap).trans hg)).2⟩,hb.em⟩,?_⟩
  exact ((t1.mono (fun b _ h=>Or.inr (Or.inr (Or.inl h)))).trans (T2.mono (fun b _ h=>Or.inl h))).trans (t3.mono (fun b _ h=>Or.inr (Or.inl h)))
 have hao:(Value.slice ao 0 dcap).ownBlock=(Value.slice ao n dcap).ownBlock:=ownB_len ao 0 n dcap
 have hcap:(0:Int)≤(dcap:Int):=by omega
 clear hb hd1 t1 E1 T2 E2 hM2 hm3 t3 hee hn
 go_enter Tryz.func51,Tryz.ntmps51
 go_wp2
 go_end0
 exact ⟨rfl,⟨_,FIN.out.1,hao⟩,FIN.out.2⟩
end Go.Proofs.YtaacjjhmojecnaaGreatDoor
