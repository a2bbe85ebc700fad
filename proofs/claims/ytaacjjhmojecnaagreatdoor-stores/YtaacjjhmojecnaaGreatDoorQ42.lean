import Derived.Test.YtaacjjhmojecnaaGreatDoorQ39
import Derived.Deep.DeepMust
import Derived.Deep.AppendLies
import Derived.Deep.RegionLaw
import Derived.Test.YtaacjjhmojecnaaGreatDoorP05
import Derived.Handy
namespace Go.Proofs.YtaacjjhmojecnaaGreatDoor
open Go.RowKit Go.ScT Go.Proofs
def killW (ds:List (List UInt8 × Bool)) (ws:List Bool) (key:List UInt8):List Bool:=match findK ds key with | some i=>ws.set i false | none=>ws
set_option maxHeartbeats 1000000 in
set_option maxRecDepth 1000000 in
theorem refDropX_any (w:World) (Z:Nat→Prop) (y:Nat) (ds:List (List UInt8 × Bool)) (v1 v2 v3 v4:Value) (xs:List Value) (ws:List Bool) (h:RefOk w Z y ds v1 v2 v3 v4 xs ws) (hl:ds.length≤100) (i:Nat) (hi:i < ds.length) :
 Calls Tryz.prog 190 #[.pointer (some ⟨y,0,none⟩),.int .i64 (i:Int)] w fun e w'=>e=.returned (.tuple #[])∧RefOk w' Z y (killAt ds i) v1 v2 v3 v4 xs (ws.set i false)∧Turned Z w w':=by
 obtain ⟨g2,cap2,ao2,hv2,_,hao2⟩:=ownsRow_shape h.own2
 obtain ⟨g3,cap3,ao3,hv3,_,hao3⟩:=ownsRow_shape h.own3
 have e2:=hao2 (by omega)
 have e3:=hao3 (by omega)
 subst hv2 hv3 e2 e3
 obtain ⟨c0,c1,c2,c3⟩:=cell_four h.eng
 have f2:=h.own2.frozenAt i
 have f3:=h.own3.frozenAt i
 obtain ⟨cu2,b2⟩:=ownsRow_block h.own2 (g:=g2) rfl
 have hy2:y≠g2:=tag_ne h.eng b2 (by decide)
 have c2':(w.setCell ⟨g2,i,none⟩ (.bool false)).cell? ⟨y,2,none⟩=some (.slice (some ⟨g3,0,none⟩) ds.length cap3):=by
  rw [World.cell?_of_block (w:=w) (Below.heap_setCell _ _ _ _ hy2)];exact c2
 have o2:∃ u,w.cell? ⟨g2,i,none⟩=some u:=by
  rw [h.own2.cellAt i (by omega),List.getElem?_map]
  exact ⟨_,by rw [List.getElem?_eq_getElem hi];rfl⟩
 obtain ⟨u2,o2⟩:=o2
 have h23:g3≠g2:=fun e=>h.apart g2 rfl (by rw [← e];rfl)
 have o3:∃ u,(w.setCell ⟨g2,i,none⟩ (.bool false)).cell? ⟨g3,i,none⟩=some u:=by
  rw [World.cell?_of_block (w:=w) (Below.heap_setCell _ _ _ _ h23),h.own3.cellAt i (by omega)]
  exact ⟨_,List.getElem?_eq_getElem (by rw [h.own3.1];omega)⟩
 obtain ⟨u3,o3⟩:=o3
 have f3':(w.setCell ⟨g2,i,none⟩ (.bool false)).frozen? ⟨g3,i,none⟩=false:=by
  rw [World.frozen?_of_block (w:=w) (Below.heap_setCell _ _ _ _ h23)];exact f3
 have HK:Hid (_∧_):=h.kill i
 clear h b2 c0 c3 c2 hao2 hao3
 go_enter Tryz.func190,Tryz.ntmps190
 go_wp2
 go_end0
 exact ⟨rfl,HK.out.1,HK.out.2⟩
set_option maxHeartbeats 1000000 in
set_option maxRecDepth 1000000 in
theorem refDeleteX_any (w:World) (Z:Nat→Prop) (y:Nat) (ds:List (List UInt8 × Bool)) (v1 v2 v3 v4:Value) (xs:List Value) (ws:List Bool) (hRef:RefOk w Z y ds v1 v2 v3 v4 xs ws) (hl:ds.length≤100) (key:List UInt8) (hm:key.length≤maxLen) :
 Calls Tryz.prog 120 #[.pointer (some ⟨y,0,none⟩),.string ⟨key.toArray⟩] w fun e w'=>e=.returned (.int .i64 (if keyOk key then (if (findK ds key).isSome then 0 else 5) else 1))∧RefOk w' Z y (if keyOk key then killK ds key else ds) v1 v2 v3 v4 xs (if keyOk key then killW ds ws key else ws)∧Turned Z w w':=by
 have cK:∀ w,Calls Tryz.prog 107 #[.string ⟨key.toArray⟩] w fun e w'=>e=.returned (.bool (keyOk key))∧w'=w:=fun w=>refIsKey_any ⟨key.toArray⟩ w (by show key.toArray.size≤maxLen;simpa using hm)
 have CK:Hid (∀ w,Calls Tryz.prog 107 #[.string ⟨key.toArray⟩] w fun e w'=>e=.returned (.bool (keyOk key))∧w'=w):=cK
 clear cK hm
 by_cases hk:keyOk key=true
 ·rw [hk]
  simp only [if_true]
  have cF:=refFind_any w Z y ds v1 v2 v3 v4 xs ws hRef hl key
  cases hf:findK ds key with
  | none =>
    rw [hf] at cF
    have CF:Hid (Calls Tryz.prog 189 #[.pointer (some ⟨y,0,none⟩),.string ⟨key.toArray⟩] w fun e w'=>e=.returned (.int .i64 (-1))∧∃ q,w'=w.drewN q):=cF
    clear cF
    have hks:killK ds key=ds:=by simp [killK,hf]
    have hkw:killW ds ws key=ws:=by simp [killW,hf]
    rw [hks,hkw]
    clear hks hkw hf
    go_enter Tryz.func120,Tryz.ntmps120
    go_wp2_with (first
     | (go_at_call 107;refine (CK.out _).mono ?_;rintro e w' ⟨rfl,hw⟩;rw [hw];clear hw w')
     | (go_at_call 189;refine CF.out.mono ?_;rintro e w' ⟨rfl,q,rfl⟩))
    go_ret
    exact ⟨rfl,RefOk.same hRef rfl,(Turned.refl Z w).ofDrew q⟩
  | some i =>
    have hi:=findK_lt ds key i hf
    rw [hf] at cF
    have CF:Hid (Calls Tryz.prog 189 #[.pointer (some ⟨y,0,none⟩),.string ⟨key.toArray⟩] w fun e w'=>e=.returned (.int .i64 (i:Int))∧∃ q,w'=w.drewN q):=by
     refine cF.mono fun e w' ⟨h1,h2⟩=>⟨?_,h2⟩
     rw [h1];simp [fInt]
    clear cF
    have hks:killK ds key=killAt ds i:=by simp [killK,hf]
    have hkw:killW ds ws key=ws.set i false:=by simp [killW,hf]
    rw [hks,hkw]
    clear hks hkw hf
    have CD:Hid (∀ q,Calls Tryz.prog 190 #[.pointer (some ⟨y,0,none⟩),.int .i64 (i:Int)] (w.drewN q) fun e w'=>e=.returned (.tuple #[])∧RefOk w' Z y (killAt ds i) v1 v2 v3 v4 xs (ws.set i false)∧Turned Z (w.drewN q) w'):=fun q=>refDropX_any (w.drewN q) Z y ds v1 v2 v3 v4 xs ws (RefOk.same hRef rfl) hl i hi
    go_enter Tryz.func120,Tryz.ntmps120
    go_wp2_with (first
     | (go_at_call 107;refine (CK.out _).mono ?_;rintro e w' ⟨rfl,hw⟩;rw [hw];clear hw w')
     | (go_at_call 189;refine CF.out.mono ?_;rintro e w' ⟨rfl,q,rfl⟩)
     | (go_at_call 190;refine (CD.out _).mono ?_;rintro e w2 ⟨rfl,hok,htu⟩))
    go_ret
    exact ⟨rfl,hok,((Turned.refl Z w).ofDrew q).trans htu⟩
 ·have hkf:keyOk key=false:=by simpa using hk
  clear hk
  rw [hkf]
  go_enter Tryz.func120,Tryz.ntmps120
  go_wp2_with (go_at_call 107;refine (CK.out _).mono ?_;rintro e w' ⟨rfl,hw⟩;rw [hw];clear hw w')
  go_ret
  exact ⟨rfl,hRef,Turned.refl Z w⟩
set_option maxHeartbeats 4000000 in
set_option maxRecDepth 1000000 in
theorem refAddX_new (w:World) (Z:Nat→Prop) (y:Nat) (ds:List (List UInt8 × Bool)) (v1 v2 v3 v4:Value) (xs:List Value) (ws:List Bool) (hRef:RefOk w Z y ds v1 v2 v3 v4 xs ws) (hZ:∀ b,Z b→b < w.heap.size) (hl:ds.length < 100) (key text:List UInt8)
 (hk:keyOk key=true) (hm:key.length≤maxLen) (ht:text.length≤200) (h40:(toks text).length≤40) (hf:findK ds key=none) :
 Calls Tryz.prog 119 #[.pointer (some ⟨y,0,none⟩),.string ⟨key.toArray⟩,.string ⟨text.toArray⟩] w fun e w'=>e=.returned (.int .i64 0)∧(∃ v1' v2' v3' tv,RefOk w' (grow Z w w') y (ds++[(key,true)]) v1' v2' v3' v4 (xs++[.string ⟨key.toArray⟩,.int .i64 (IntKind.i64.wrap ((ds.length:Int)+1)),tv]) (ws++[true])∧w'.ownsRow w.heap.size 9 1 tv (toks text).length ((toks text).map strV))∧Turned Z w w':=by
 have CK:Hid (∀ w,Calls Tryz.prog 107 #[.string ⟨key.toArray⟩] w fun e w'=>e=.returned (.bool true)∧w'=w):=fun w=>hk ▸ refIsKey_any ⟨key.toArray⟩ w (by show key.toArray.size≤maxLen;simpa using hm)
 have CS:Hid (∀ w,Calls Tryz.prog 57 #[.string ⟨text.toArray⟩] w fun e w'=>∃ v,e=.returned v∧w'.ownsRow w.heap.size 9 1 v (toks text).length ((toks text).map strV)∧Below w.heap.size w w'):=fun w=>refSplit_any ⟨text.toArray⟩ w (by show text.toArray.size≤1000000;simp;omega)
 have CF:Hid (∀ w',RefOk w' Z y ds v1 v2 v3 v4 xs ws→Calls Tryz.prog 189 #[.pointer (some ⟨y,0,none⟩),.string ⟨key.toArray⟩] w' fun e w''=>e=.returned (.int .i64 (-1))∧∃ q,w''=w'.drewN q):=fun w' h'=>by
  have:=refFind_any w' Z y ds v1 v2 v3 v4 xs ws h' (by omega) key
  rw [hf] at this
  exact this
 obtain ⟨D,hD⟩:∃ D,ds=D:=⟨_,rfl⟩
 have hDl:D.length=ds.length:=by rw [hD]
 obtain ⟨T,hT⟩:∃ T,toks text=T:=⟨_,rfl⟩
 rw [hT] at CS h40 ⊢
 clear hk hm hf hT
 have ht2:(text.length:Int)≤200:=by omega
 obtain ⟨i77,hi77,ha0,ha1,ha2⟩:=info_parts info77
 obtain ⟨i4,hi4,bz0,bz1,bz2⟩:=info_parts info4
 obtain ⟨g1,cap1,ao1,rfl,_,hao1⟩:=ownsRow_shape hRef.own1
 obtain ⟨g2,cap2,ao2,rfl,_,hao2⟩:=ownsRow_shape hRef.own2
 obtain ⟨g3,cap3,ao3,rfl,_,hao3⟩:=ownsRow_shape hRef.own3
 have HR:Hid (RefOk w Z y ds (.slice ao1 ds.length cap1) (.slice ao2 ds.length cap2) (.slice ao3 ds.length cap3) v4 xs ws):=hRef
 obtain ⟨c0,c1,c2,c3⟩:=cell_four hRef.eng
 clear hRef hao1 hao2 hao3 c1 c2 c3
 generalize hn:ds.length=n at *
 go_enter Tryz.func119,Tryz.ntmps119
 go_wp2_with (first
  | (go_at_call 107;refine (CK.out _).mono ?_;rintro e w' ⟨rfl,hw⟩;rw [hw];clear hw w')
  | (go_at_call 57;refine (CS.out _).mono ?_;rintro e w1 ⟨tv,rfl,htv,hb1⟩;have hR1:=HR.out.turned (Turned.ofBelow (Z:=fun _=>False) hb1) (fun _ _ h=>h);have d0:=(cell_four hR1.eng).1;obtain ⟨gt,capt,aot,htve,_,_⟩:=ownsRow_shape htv;rw [htve])
  | (go_at_call 189;refine (CF.out _ hR1).mono ?_;rintro e w' ⟨rfl,q,rfl⟩))
 have hTw:Turned Z w w1:=Turned.ofBelow hb1
 have hy1:y < w1.heap.size:=lt_of_block hR1.eng
 have hO1:=hR1.own1
 have hO2:=hR1.own2
 have hO3:=hR1.own3
 rw [hn] at hO1 hO2 hO3
 have hne1:(Value.slice ao1 n cap1).ownBlock≠some y:=fun e=>by
  obtain ⟨cu,bq⟩:=ownsRow_block hO1 e
  exact tag_ne hR1.eng bq (by decide) rfl
 have f0:=frozen_four hR1.eng 0
 have d0':∀ n' o,((w1.drewN n').alloc o).cell? ⟨y,0,none⟩=some (.slice ao1 n cap1):=fun n' o=>by rw [World.cell?_of_block (Below.heap_alloc _ _ _ hy1)];exact d0
 have f0':∀ n' o,((w1.drewN n').alloc o).frozen? ⟨y,0,none⟩=false:=fun n' o=>by rw [World.frozen?_of_block (Below.heap_alloc _ _ _ hy1)];exact f0
 go_region_law
  ((refine step_append_lies _ (by rfl) _ _ _ (by rfl) 0 185 i77 _ 3 48 Tryz.underlying100 hi77 ha0 ha1 ha2 rfl (by omega) (.slice ao1 n cap1) n xs (by rfl) (by exact hO1.alloc _)
     ⟨w1.heap.size,0,none⟩ 1 1 [.string ⟨key.toArray⟩,.int .i64 (IntKind.i64.wrap ((n:Int)+1)),.slice aot T.length capt] (by rfl) (by rfl) (World.news_of_block (cs:=#[.string ⟨key.toArray⟩,.int .i64 (IntKind.i64.wrap ((n:Int)+1)),.slice aot T.length capt]) (t:=185) (fr:=(0,0)) (heap_alloc_new w1 _)) (by simp [Value.oneCell'])
     (by omega) (by unfold maxLen;omega) (by omega) (by omega) (w1.heap.size+1) (by simp) ?_;intro gA capA w3 hownA hgrowA hatA hltA;have e0:=(hgrowA.cell_far ⟨y,0,none⟩ (by simp;omega) (Ne.symm hne1)).trans (d0' _ _);have e1:=(hgrowA.frozen_far ⟨y,0,none⟩ (by simp;omega) (Ne.symm hne1)).trans (f0' _ _)))
 all_goals
  obtain ⟨E3,O3,X3,T3,S3⟩:=push_gen (w:=(w1.drewN (q+1))) (j:=0) hR1.eng hgrowA hO1 hownA (by decide)
  have n12:∀ g,(Value.slice ao2 n cap2).ownBlock=some g→(Value.slice ao1 n cap1).ownBlock≠some g:=fun g hg e=>by
   obtain ⟨cu,bq⟩:=ownsRow_block hO2 hg
   obtain ⟨cu',bq'⟩:=ownsRow_block hO1 e
   exact tag_ne bq bq' (by decide) rfl
  have n13:∀ g,(Value.slice ao3 n cap3).ownBlock=some g→(Value.slice ao1 n cap1).ownBlock≠some g:=fun g hg e=>by
   obtain ⟨cu,bq⟩:=ownsRow_block hO3 hg
   obtain ⟨cu',bq'⟩:=ownsRow_block hO1 e
   exact tag_ne bq bq' (by decide) rfl
  have P2:=X3 _ _ _ _ _ hO2 (by decide) n12
  have P3:=X3 _ _ _ _ _ hO3 (by decide) n13
  have HD:=@ref_done w w1 (w1.drewN (q+1)) w3
  generalize hW3:w3.setCell ⟨y,0,none⟩ (Value.slice (some ⟨gA,0,none⟩) (n+1) capA)=W3 at E3 O3 X3 T3 S3 P2 P3 ⊢
  have HW3:Hid (w3.setCell ⟨y,0,none⟩ (Value.slice (some ⟨gA,0,none⟩) (n+1) capA)=W3):=hW3
  clear hW3 T3 X3 HD
  have E3':W3.heap[y]?=some (.cells #[.slice (some ⟨gA,0,none⟩) (n+1) capA,.slice ao2 n cap2,.slice ao3 n cap3,v4] 193 (0,0)):=E3
  have k1:=(cell_four E3').2.1
  have hyW:y < W3.heap.size:=lt_of_block E3'
  go_wp2_with (first
   | (at_builtin;refine wpList_append_lies _ rfl _ _ 190 rfl 0 4 i4 (.bool false) 1 1 Tryz.underlying190 hi4 bz0 bz1 bz2 rfl (by omega) (.slice ao2 n cap2) n _ rfl (P2.alloc _) ⟨W3.heap.size,0,none⟩ 1 1 [.bool true] rfl rfl (cell_one_new _ _ _) (fun x hx=>by simp at hx;subst hx;rfl) (by omega) (by unfold maxLen;omega) (by omega) (by omega) (W3.heap.size+1) (by simp) ?_;intro gB capB w4 hownB hgrowB hatB hltB;have hneB:(Value.slice ao2 n cap2).ownBlock≠some y:=(fun e=>by obtain ⟨cu,bq⟩:=ownsRow_block P2 e;exact tag_ne E3' bq (by decide) rfl);have k4:=(hgrowB.cell_far ⟨y,1,none⟩ (by simp;omega) (Ne.symm hneB)).trans (World.cell?_of_block (Below.heap_alloc _ _ _ hyW));rw [k1] at k4;have k5:=((hgrowB.frozen_far ⟨y,1,none⟩ (by simp;omega) (Ne.symm hneB)).trans (World.frozen?_of_block (Below.heap_alloc _ _ _ hyW))).trans (frozen_four E3' 1);obtain ⟨E4,O4,X4,T4,S4⟩:=push_gen (j:=1) E3' hgrowB P2 hownB (by decide);have P4:=X4 _ _ _ _ _ P3 (by decide) (fun g hg e=>hR1.apart g e hg);have E4':(w4.setCell ⟨y,1,none⟩ (Value.slice (some ⟨gB,0,none⟩) (n+1) capB)).heap[y]?=some (.cells #[.slice (some ⟨gA,0,none⟩) (n+1) capA,.slice (some ⟨gB,0,none⟩) (n+1) capB,.slice ao3 n cap3,v4] 193 (0,0)):=E4;have k6:=(cell_four E4').2.2.1;have hyW4:=lt_of_block E4';clear X4 T4)
   | (at_builtin;refine wpList_append_lies _ rfl _ _ 190 rfl 0 4 i4 (.bool false) 1 1 Tryz.underlying190 hi4 bz0 bz1 bz2 rfl (by omega) (.slice ao3 n cap3) n _ rfl (P4.alloc _) ⟨w4.heap.size,0,none⟩ 1 1 [.bool true] rfl rfl (cell_one_set _ _ _ _ _) (fun x hx=>by simp at hx;subst hx;rfl) (by omega) (by unfold maxLen;omega) (by omega) (by omega) (w4.heap.size+1) (by simp) ?_;intro gC capC w5 hownC hgrowC hatC hltC;have hneC:(Value.slice ao3 n cap3).ownBlock≠some y:=(fun e=>by obtain ⟨cu,bq⟩:=ownsRow_block P4 e;exact tag_ne E4' bq (by decide) rfl);have k7:=(hgrowC.cell_far ⟨y,2,none⟩ (by simp at hyW4 ⊢;omega) (Ne.symm hneC)).trans (World.cell?_of_block (Below.heap_alloc _ _ _ hyW4));rw [k6] at k7;have k8:=((hgrowC.frozen_far ⟨y,2,none⟩ (by simp at hyW4 ⊢;omega) (Ne.symm hneC)).trans (World.frozen?_of_block (Below.heap_alloc _ _ _ hyW4))).trans (frozen_four E4' 2)))
  go_ret
  have hW3:=HW3.out
  subst hW3
  have FIN:=ref_done (w:=w) (w1:=w1) (wq:=(w1.drewN (q+1))) (key:=key) hn hR1 hTw rfl rfl rfl rfl hgrowA hownA hatA hltA hgrowB hownB hatB hltB hgrowC hownC (by rw [size_set];exact hatC) hltC
  have FI2:=ref_done (w:=w1) (w1:=w1) (wq:=(w1.drewN (q+1))) (key:=key) hn hR1 (Turned.refl Z w1) rfl rfl rfl rfl hgrowA hownA hatA hltA hgrowB hownB hatB hltB hgrowC hownC (by rw [size_set];exact hatC) hltC
  rw [htve] at htv
  exact ⟨rfl,⟨_,_,_,_,FIN.1,ownsRow_turned htv FI2.2 (fun g hg hz=>by have h1:=(htv.lt g hg).1;have h2:=hZ g hz;omega)⟩,FIN.2⟩
set_option maxHeartbeats 4000000 in
set_option maxRecDepth 1000000 in
theorem refAddX_old (w:World) (Z:Nat→Prop) (y:Nat) (ds:List (List UInt8 × Bool)) (v1 v2 v3 v4:Value) (xs:List Value) (ws:List Bool) (hRef:RefOk w Z y ds v1 v2 v3 v4 xs ws) (hZ:∀ b,Z b→b < w.heap.size) (hl:ds.length < 100) (key text:List UInt8)
 (hk:keyOk key=true) (hm:key.length≤maxLen) (ht:text.length≤200) (h40:(toks text).length≤40) (i:Nat) (hf:findK ds key=some i) :
 Calls Tryz.prog 119 #[.pointer (some ⟨y,0,none⟩),.string ⟨key.toArray⟩,.string ⟨text.toArray⟩] w fun e w'=>e=.returned (.int .i64 0)∧(∃ v1' v2' v3' tv,RefOk w' (grow Z w w') y ((killAt ds i)++[(key,true)]) v1' v2' v3' v4 (xs++[.string ⟨key.toArray⟩,.int .i64 (IntKind.i64.wrap ((ds.length:Int)+1)),tv]) (ws.set i false++[true])∧w'.ownsRow w.heap.size 9 1 tv (toks text).length ((toks text).map strV))∧Turned Z w w':=by
 have CK:Hid (∀ w,Calls Tryz.prog 107 #[.string ⟨key.toArray⟩] w fun e w'=>e=.returned (.bool true)∧w'=w):=fun w=>hk ▸ refIsKey_any ⟨key.toArray⟩ w (by show key.toArray.size≤maxLen;simpa using hm)
 have CS:Hid (∀ w,Calls Tryz.prog 57 #[.string ⟨text.toArray⟩] w fun e w'=>∃ v,e=.returned v∧w'.ownsRow w.heap.size 9 1 v (toks text).length ((toks text).map strV)∧Below w.heap.size w w'):=fun w=>refSplit_any ⟨text.toArray⟩ w (by show text.toArray.size≤1000000;simp;omega)
 have CF:Hid (∀ w',RefOk w' Z y ds v1 v2 v3 v4 xs ws→Calls Tryz.prog 189 #[.pointer (some ⟨y,0,none⟩),.string ⟨key.toArray⟩] w' fun e w''=>e=.returned (.int .i64 (i:Int))∧∃ q,w''=w'.drewN q):=fun w' h'=>by
  have:=refFind_any w' Z y ds v1 v2 v3 v4 xs ws h' (by omega) key
  rw [hf] at this
  refine this.mono fun e w'' ⟨h1,h2⟩=>⟨?_,h2⟩
  rw [h1];simp [fInt]
 have hil:=findK_lt ds key i hf
 have CD:Hid (∀ w',RefOk w' Z y ds v1 v2 v3 v4 xs ws→Calls Tryz.prog 190 #[.pointer (some ⟨y,0,none⟩),.int .i64 (i:Int)] w' fun e w''=>e=.returned (.tuple #[])∧RefOk w'' Z y (killAt ds i) v1 v2 v3 v4 xs (ws.set i false)∧Turned Z w' w''):=fun w' h'=>refDropX_any w' Z y ds v1 v2 v3 v4 xs ws h' (by omega) i hil
 have hDl:(killAt ds i).length=ds.length:=by simp [killAt]
 obtain ⟨D,hD⟩:∃ D,killAt ds i=D:=⟨_,rfl⟩
 rw [hD] at CD hDl ⊢
 clear hD
 obtain ⟨T,hT⟩:∃ T,toks text=T:=⟨_,rfl⟩
 rw [hT] at CS h40 ⊢
 clear hk hm hf hT
 have ht2:(text.length:Int)≤200:=by omega
 obtain ⟨i77,hi77,ha0,ha1,ha2⟩:=info_parts info77
 obtain ⟨i4,hi4,bz0,bz1,bz2⟩:=info_parts info4
 obtain ⟨g1,cap1,ao1,rfl,_,hao1⟩:=ownsRow_shape hRef.own1
 obtain ⟨g2,cap2,ao2,rfl,_,hao2⟩:=ownsRow_shape hRef.own2
 obtain ⟨g3,cap3,ao3,rfl,_,hao3⟩:=ownsRow_shape hRef.own3
 have HR:Hid (RefOk w Z y ds (.slice ao1 ds.length cap1) (.slice ao2 ds.length cap2) (.slice ao3 ds.length cap3) v4 xs ws):=hRef
 obtain ⟨c0,c1,c2,c3⟩:=cell_four hRef.eng
 clear hRef hao1 hao2 hao3 c1 c2 c3
 generalize hn:ds.length=n at *
 go_enter Tryz.func119,Tryz.ntmps119
 go_wp2_with (first
  | (go_at_call 107;refine (CK.out _).mono ?_;rintro e w' ⟨rfl,hw⟩;rw [hw];clear hw w')
  | (go_at_call 57;refine (CS.out _).mono ?_;rintro e w1 ⟨tv,rfl,htv,hb1⟩;have hR1:=HR.out.turned (Turned.ofBelow (Z:=fun _=>False) hb1) (fun _ _ h=>h);have d0:=(cell_four hR1.eng).1;obtain ⟨gt,capt,aot,htve,_,_⟩:=ownsRow_shape htv;rw [htve])
  | (go_at_call 189;refine (CF.out _ hR1).mono ?_;rintro e w' ⟨rfl,q,rfl⟩;have hRq:=RefOk.same (w':=w1.drewN q) hR1 rfl)
  | (go_at_call 190;refine (CD.out _ hRq).mono ?_;rintro e w2 ⟨rfl,hR2,hT2⟩;have e00:=(cell_four hR2.eng).1))
 have hTw:Turned Z w w2:=(Turned.ofBelow hb1).trans ((Turned.ofDrew (Turned.refl Z w1) q).trans hT2)
 have hy1:y < w2.heap.size:=lt_of_block hR2.eng
 have hO1:=hR2.own1
 have hO2:=hR2.own2
 have hO3:=hR2.own3
 rw [hDl] at hO1 hO2 hO3
 have hne1:(Value.slice ao1 n cap1).ownBlock≠some y:=fun e=>by
  obtain ⟨cu,bq⟩:=ownsRow_block hO1 e
  exact tag_ne hR2.eng bq (by decide) rfl
 have f0:=frozen_four hR2.eng 0
 have d0':∀ o,(w2.drew.alloc o).cell? ⟨y,0,none⟩=some (.slice ao1 n cap1):=fun o=>by rw [World.cell?_of_block (Below.heap_alloc _ _ _ hy1)];exact e00
 have f0':∀ o,(w2.drew.alloc o).frozen? ⟨y,0,none⟩=false:=fun o=>by rw [World.frozen?_of_block (Below.heap_alloc _ _ _ hy1)];exact f0
 have d0'':∀ o,(w2.alloc o).cell? ⟨y,0,none⟩=some (.slice ao1 n cap1):=fun o=>by rw [World.cell?_of_block (Below.heap_alloc _ _ _ hy1)];exact e00
 have f0'':∀ o,(w2.alloc o).frozen? ⟨y,0,none⟩=false:=fun o=>by rw [World.frozen?_of_block (Below.heap_alloc _ _ _ hy1)];exact f0
 go_region_law
  ((refine step_append_lies _ (by rfl) _ _ _ (by rfl) 0 185 i77 _ 3 48 Tryz.underlying100 hi77 ha0 ha1 ha2 rfl (by omega) (.slice ao1 n cap1) n xs (by rfl) (by exact hO1.alloc _)
     ⟨w2.heap.size,0,none⟩ 1 1 [.string ⟨key.toArray⟩,.int .i64 (IntKind.i64.wrap ((n:Int)+1)),.slice aot T.length capt] (by rfl) (by rfl) (World.news_of_block (cs:=#[.string ⟨key.toArray⟩,.int .i64 (IntKind.i64.wrap ((n:Int)+1)),.slice aot T.length capt]) (t:=185) (fr:=(0,0)) (heap_alloc_new w2 _)) (by simp [Value.oneCell'])
     (by omega) (by unfold maxLen;omega) (by omega) (by omega) (w2.heap.size+1) (by simp) ?_;intro gA capA w3 hownA hgrowA hatA hltA;have e0:=(hgrowA.cell_far ⟨y,0,none⟩ (by simp;omega) (Ne.symm hne1)).trans (d0' _);have e1:=(hgrowA.frozen_far ⟨y,0,none⟩ (by simp;omega) (Ne.symm hne1)).trans (f0' _)))
 all_goals
  obtain ⟨E3,O3,X3,T3,S3⟩:=push_gen (w:=w2.drew) (j:=0) hR2.eng hgrowA hO1 hownA (by decide)
  have n12:∀ g,(Value.slice ao2 n cap2).ownBlock=some g→(Value.slice ao1 n cap1).ownBlock≠some g:=fun g hg e=>by
   obtain ⟨cu,bq⟩:=ownsRow_block hO2 hg
   obtain ⟨cu',bq'⟩:=ownsRow_block hO1 e
   exact tag_ne bq bq' (by decide) rfl
  have n13:∀ g,(Value.slice ao3 n cap3).ownBlock=some g→(Value.slice ao1 n cap1).ownBlock≠some g:=fun g hg e=>by
   obtain ⟨cu,bq⟩:=ownsRow_block hO3 hg
   obtain ⟨cu',bq'⟩:=ownsRow_block hO1 e
   exact tag_ne bq bq' (by decide) rfl
  have P2:=X3 _ _ _ _ _ hO2 (by decide) n12
  have P3:=X3 _ _ _ _ _ hO3 (by decide) n13
  have HD:=@ref_done w w2 w2.drew w3
  generalize hW3:w3.setCell ⟨y,0,none⟩ (Value.slice (some ⟨gA,0,none⟩) (n+1) capA)=W3 at E3 O3 X3 T3 S3 P2 P3 ⊢
  have HW3:Hid (w3.setCell ⟨y,0,none⟩ (Value.slice (some ⟨gA,0,none⟩) (n+1) capA)=W3):=hW3
  clear hW3 T3 X3 HD
  have E3':W3.heap[y]?=some (.cells #[.slice (some ⟨gA,0,none⟩) (n+1) capA,.slice ao2 n cap2,.slice ao3 n cap3,v4] 193 (0,0)):=E3
  have k1:=(cell_four E3').2.1
  have hyW:y < W3.heap.size:=lt_of_block E3'
  go_wp2_with (first
   | (at_builtin;refine wpList_append_lies _ rfl _ _ 190 rfl 0 4 i4 (.bool false) 1 1 Tryz.underlying190 hi4 bz0 bz1 bz2 rfl (by omega) (.slice ao2 n cap2) n _ rfl (P2.alloc _) ⟨W3.heap.size,0,none⟩ 1 1 [.bool true] rfl rfl (cell_one_new _ _ _) (fun x hx=>by simp at hx;subst hx;rfl) (by omega) (by unfold maxLen;omega) (by omega) (by omega) (W3.heap.size+1) (by simp) ?_;intro gB capB w4 hownB hgrowB hatB hltB;have hneB:(Value.slice ao2 n cap2).ownBlock≠some y:=(fun e=>by obtain ⟨cu,bq⟩:=ownsRow_block P2 e;exact tag_ne E3' bq (by decide) rfl);have k4:=(hgrowB.cell_far ⟨y,1,none⟩ (by simp;omega) (Ne.symm hneB)).trans (World.cell?_of_block (Below.heap_alloc _ _ _ hyW));rw [k1] at k4;have k5:=((hgrowB.frozen_far ⟨y,1,none⟩ (by simp;omega) (Ne.symm hneB)).trans (World.frozen?_of_block (Below.heap_alloc _ _ _ hyW))).trans (frozen_four E3' 1);obtain ⟨E4,O4,X4,T4,S4⟩:=push_gen (j:=1) E3' hgrowB P2 hownB (by decide);have P4:=X4 _ _ _ _ _ P3 (by decide) (fun g hg e=>hR2.apart g e hg);have E4':(w4.setCell ⟨y,1,none⟩ (Value.slice (some ⟨gB,0,none⟩) (n+1) capB)).heap[y]?=some (.cells #[.slice (some ⟨gA,0,none⟩) (n+1) capA,.slice (some ⟨gB,0,none⟩) (n+1) capB,.slice ao3 n cap3,v4] 193 (0,0)):=E4;have k6:=(cell_four E4').2.2.1;have hyW4:=lt_of_block E4';clear X4 T4)
   | (at_builtin;refine wpList_append_lies _ rfl _ _ 190 rfl 0 4 i4 (.bool false) 1 1 Tryz.underlying190 hi4 bz0 bz1 bz2 rfl (by omega) (.slice ao3 n cap3) n _ rfl (P4.alloc _) ⟨w4.heap.size,0,none⟩ 1 1 [.bool true] rfl rfl (cell_one_set _ _ _ _ _) (fun x hx=>by simp at hx;subst hx;rfl) (by omega) (by unfold maxLen;omega) (by omega) (by omega) (w4.heap.size+1) (by simp) ?_;intro gC capC w5 hownC hgrowC hatC hltC;have hneC:(Value.slice ao3 n cap3).ownBlock≠some y:=(fun e=>by obtain ⟨cu,bq⟩:=ownsRow_block P4 e;exact tag_ne E4' bq (by decide) rfl);have k7:=(hgrowC.cell_far ⟨y,2,none⟩ (by simp at hyW4 ⊢;omega) (Ne.symm hneC)).trans (World.cell?_of_block (Below.heap_alloc _ _ _ hyW4));rw [k6] at k7;have k8:=((hgrowC.frozen_far ⟨y,2,none⟩ (by simp at hyW4 ⊢;omega) (Ne.symm hneC)).trans (World.frozen?_of_block (Below.heap_alloc _ _ _ hyW4))).trans (frozen_four E4' 2)))
  go_ret
  have hW3:=HW3.out
  subst hW3
  have FIN:=ref_done (w:=w) (w1:=w2) (wq:=w2.drew) (key:=key) hDl hR2 hTw rfl rfl rfl rfl hgrowA hownA hatA hltA hgrowB hownB hatB hltB hgrowC hownC (by rw [size_set];exact hatC) hltC
  have FI2:=ref_done (w:=w1) (w1:=w2) (wq:=w2.drew) (key:=key) hDl hR2 ((Turned.ofDrew (Turned.refl Z w1) q).trans hT2) rfl rfl rfl rfl hgrowA hownA hatA hltA hgrowB hownB hatB hltB hgrowC hownC (by rw [size_set];exact hatC) hltC
  rw [htve] at htv
  exact ⟨rfl,⟨_,_,_,_,FIN.1,ownsRow_turned htv FI2.2 (fun g hg hz=>by have h1:=(htv.lt g hg).1;have h2:=hZ g hz;omega)⟩,FIN.2⟩
end Go.Proofs.YtaacjjhmojecnaaGreatDoor
namespace Go.Proofs.YtaacjjhmojecnaaGreatDoor
open Go.RowKit Go.ScT Go.Proofs Go.Shelf
theorem tot_mem:∀ (l:List (List UInt8)) (t:List UInt8),t∈l→t.length≤tot l
 | [],t,h=>by simp at h
 | x :: r,t,h=>by
   simp only [tot,List.map_cons,List.sum_cons]
   rcases List.mem_cons.1 h with rfl | h
   ·omega
   ·have:=tot_mem r t h
    simp only [tot] at this
    omega
theorem toks_word (L t:List UInt8) (h:t∈toks L):t.length≤L.length+1:=by
 have h1:=tot_mem _ t h
 have h2:=fin_tot L false [] 0 []
 rw [show fin L false [] 0 []=toks L from rfl] at h2
 simp only [tot,List.map_nil,List.sum_nil,List.length_nil] at h2 h1
 simp at h2
 omega
theorem ownsRow_base {w:World} {base:Nat} {e:TypeId} {size:Nat} {v:Value} {n:Nat} {xs:List Value} (h:w.ownsRow base e size v n xs) {g:Nat} (hg:v.ownBlock=some g):base≤g:=by
 rcases h.2 with ⟨h1,_⟩ | ⟨g',cap,cur,h1,h2,_⟩
 ·rw [h1] at hg;cases hg
 ·rw [h1] at hg;simp [Value.ownBlock] at hg;omega
theorem keyOk_len {key:List UInt8} (h:keyOk key=true):key.length≤1000:=by
 unfold keyOk at h
 simp at h
 omega
end Go.Proofs.YtaacjjhmojecnaaGreatDoor
