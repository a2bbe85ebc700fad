import Derived.Shelf.Strings.OnBuilder
import Derived.Shelf.Strings.BuilderK
import Derived.Shelf.Strings.BuilderRune
import Derived.Shelf.Strings.FieldsFuncAny
import Derived.Test.YtaacjjhmojecnaaGreatDoorChecked
import Derived.Test.YtaacjjhmojecnaaGreatDoorP04
import Derived.BigCall
import Derived.Test.YtaacjjhmojecnaaGreatDoorP01
namespace Go.Proofs.YtaacjjhmojecnaaGreatDoor
open Go.Proofs Go.Shelf Go.RowKit
def Tryz.lays169_ren:Go.Shelf.Ren:=⟨fun | 169=>91 | n=>n,fun | 0=>0 | 3=>3 | 5=>5 | 9=>9 | 37=>51 | 70=>159 | 72=>161 | 127=>260 | n=>n,fun | n=>n⟩
theorem Tryz.lays169:Go.Proofs.Lays.n169 Tryz.prog Tryz.lays169_ren:={
 mixed:=by kernel_rfl
 f169:=Tryz.func91.trans (congrArg some (by kernel_rfl))
 t0:=Tryz.underlying0
 a0:=Tryz.isAgg0
 z0:=Tryz.sizeOf0
 v0:=Tryz.zeroValue0
 t3:=Tryz.underlying3
 a3:=Tryz.isAgg3
 z3:=Tryz.sizeOf3
 v3:=Tryz.zeroValue3
 t9:=Tryz.underlying9
 a9:=Tryz.isAgg9
 z9:=Tryz.sizeOf9
 v9:=Tryz.zeroValue9
 t37:=Tryz.underlying51
 a37:=Tryz.isAgg51
 z37:=Tryz.sizeOf51
 v37:=Tryz.zeroValue51
 t70:=Tryz.underlying159
 a70:=Tryz.isAgg159
 z70:=Tryz.sizeOf159
 v70:=Tryz.zeroValue159
 t72:=Tryz.underlying161
 a72:=Tryz.isAgg161
 z72:=Tryz.sizeOf161
 v72:=Tryz.zeroValue161
 t127:=Tryz.underlying260
 a127:=Tryz.isAgg260
 z127:=Tryz.sizeOf260
 v127:=Tryz.zeroValue260 }
theorem Tryz.Builder_Extra_169:Builder.Extra Tryz.prog Tryz.lays169_ren:={
 sizeBuilder:=by kernel_rfl
 liesBuilder:=by kernel_rfl
 t5:=Tryz.underlying5
 a5:=Tryz.isAgg5
 z5:=Tryz.sizeOf5
 v5:=Tryz.zeroValue5
 infoByte:=by kernel_rfl
 cellsByte:=by kernel_rfl
 sizeByte:=by kernel_rfl
 neB5:=by decide }
def Tryz.lays156_ren:Go.Shelf.Ren:=⟨fun | 156=>56 | 165=>100 | 166=>90 | 169=>91 | 240=>171 | 241=>182 | 276=>239 | 277=>247 | n=>n,fun | 0=>0 | 3=>3 | 4=>4 | 5=>5 | 9=>9 | 20=>20 | 31=>34 | 37=>51 | 70=>159 | 72=>161 | 75=>70 | 76=>162 | 80=>170 | 127=>260 | 164=>209 | n=>n,fun | n=>n⟩
theorem Tryz.lays156:Go.Proofs.Lays.n156 Tryz.prog Tryz.lays156_ren:={
 mixed:=by kernel_rfl
 f156:=Tryz.func56.trans (congrArg some (by kernel_rfl))
 f165:=Tryz.func100.trans (congrArg some (by kernel_rfl))
 f166:=Tryz.func90.trans (congrArg some (by kernel_rfl))
 f169:=Tryz.func91.trans (congrArg some (by kernel_rfl))
 f240:=Tryz.func171.trans (congrArg some (by kernel_rfl))
 f241:=Tryz.func182.trans (congrArg some (by kernel_rfl))
 f276:=Tryz.func239.trans (congrArg some (by kernel_rfl))
 f277:=Tryz.func247.trans (congrArg some (by kernel_rfl))
 t0:=Tryz.underlying0
 a0:=Tryz.isAgg0
 z0:=Tryz.sizeOf0
 v0:=Tryz.zeroValue0
 t3:=Tryz.underlying3
 a3:=Tryz.isAgg3
 z3:=Tryz.sizeOf3
 v3:=Tryz.zeroValue3
 t4:=Tryz.underlying4
 a4:=Tryz.isAgg4
 z4:=Tryz.sizeOf4
 v4:=Tryz.zeroValue4
 t9:=Tryz.underlying9
 a9:=Tryz.isAgg9
 z9:=Tryz.sizeOf9
 v9:=Tryz.zeroValue9
 t20:=Tryz.underlying20
 a20:=Tryz.isAgg20
 z20:=Tryz.sizeOf20
 v20:=Tryz.zeroValue20
 t31:=Tryz.underlying34
 a31:=Tryz.isAgg34
 z31:=Tryz.sizeOf34
 v31:=Tryz.zeroValue34
 t37:=Tryz.underlying51
 a37:=Tryz.isAgg51
 z37:=Tryz.sizeOf51
 v37:=Tryz.zeroValue51
 t70:=Tryz.underlying159
 a70:=Tryz.isAgg159
 z70:=Tryz.sizeOf159
 v70:=Tryz.zeroValue159
 t72:=Tryz.underlying161
 a72:=Tryz.isAgg161
 z72:=Tryz.sizeOf161
 v72:=Tryz.zeroValue161
 t75:=Tryz.underlying70
 a75:=Tryz.isAgg70
 z75:=Tryz.sizeOf70
 v75:=Tryz.zeroValue70
 t76:=Tryz.underlying162
 a76:=Tryz.isAgg162
 z76:=Tryz.sizeOf162
 v76:=Tryz.zeroValue162
 t127:=Tryz.underlying260
 a127:=Tryz.isAgg260
 z127:=Tryz.sizeOf260
 v127:=Tryz.zeroValue260
 t164:=Tryz.underlying209
 a164:=Tryz.isAgg209
 z164:=Tryz.sizeOf209
 v164:=Tryz.zeroValue209 }
theorem Tryz.Builder_Extra_156:Builder.Extra Tryz.prog Tryz.lays156_ren:={
 sizeBuilder:=by kernel_rfl
 liesBuilder:=by kernel_rfl
 t5:=Tryz.underlying5
 a5:=Tryz.isAgg5
 z5:=Tryz.sizeOf5
 v5:=Tryz.zeroValue5
 infoByte:=by kernel_rfl
 cellsByte:=by kernel_rfl
 sizeByte:=by kernel_rfl
 neB5:=by decide }
theorem Tryz.strings_Join_none (a:Option Addr) (c:Nat) (sep:ByteArray) (w:World) :
 Calls Tryz.prog 56 #[.slice a 0 c,.string sep] w fun e w'=>e=.returned (.string ⟨#[]⟩)∧w'=w:=Any.strings_Join_none Tryz.lays156 Tryz.Builder_Extra_156 a c sep w
theorem Tryz.strings_Join (bk o c:Nat) (xs:List ByteArray) (sep:ByteArray) (w:World) (hcells:∀ (j:Nat) x,xs[j]?=some x→w.cell? ⟨bk,o+j,none⟩=some (.string x)) (hbk:bk < w.heap.size) (hN:xs.length≤140737488355328) (hcap:xs.length≤c) (hlen:(Lib.join (xs.map (·.data.toList)) sep.data.toList).length≤140737488355328) :
 Calls Tryz.prog 56 #[.slice (some ⟨bk,o,none⟩) xs.length c,.string sep] w fun e w'=>e=.returned (.string ⟨(Lib.join (xs.map (·.data.toList)) sep.data.toList).toArray⟩)∧Below w.heap.size w w':=Any.strings_Join Tryz.lays156 Tryz.Builder_Extra_156 bk o c xs sep w hcells hbk hN hcap hlen
theorem Tryz.Builder_String_any_k (B b:Nat) (l:List UInt8) (w:World) (h:Lib.IsBuilderF 161 5 B b (Lib.byteCells l) w) (hBw:B≤w.heap.size) :
 Calls Tryz.prog 91 #[.pointer (some ⟨b,0,none⟩)] w fun e w'=>e=.returned (.string ⟨l.toArray⟩)∧(Lib.IsBuilderF 161 5 B b (Lib.byteCells l) w'∧Below B w w'∧Lib.OthersKept 5 (some b) w w'):=Any.Builder_String_any_k Tryz.lays169 Tryz.Builder_Extra_169 B b l w h hBw
def Tryz.lays229_ren:Go.Shelf.Ren:=⟨fun | 229=>94 | n=>n,fun | 0=>0 | 3=>3 | 4=>4 | 9=>9 | 21=>21 | 31=>34 | 40=>177 | 152=>268 | 154=>270 | n=>n,fun | n=>n⟩
theorem Tryz.lays229:Go.Proofs.Lays.n229 Tryz.prog Tryz.lays229_ren:={
 mixed:=by kernel_rfl
 f229:=Tryz.func94.trans (congrArg some (by kernel_rfl))
 t0:=Tryz.underlying0
 a0:=Tryz.isAgg0
 z0:=Tryz.sizeOf0
 v0:=Tryz.zeroValue0
 t3:=Tryz.underlying3
 a3:=Tryz.isAgg3
 z3:=Tryz.sizeOf3
 v3:=Tryz.zeroValue3
 t4:=Tryz.underlying4
 a4:=Tryz.isAgg4
 z4:=Tryz.sizeOf4
 v4:=Tryz.zeroValue4
 t9:=Tryz.underlying9
 a9:=Tryz.isAgg9
 z9:=Tryz.sizeOf9
 v9:=Tryz.zeroValue9
 t21:=Tryz.underlying21
 a21:=Tryz.isAgg21
 z21:=Tryz.sizeOf21
 v21:=Tryz.zeroValue21
 t31:=Tryz.underlying34
 a31:=Tryz.isAgg34
 z31:=Tryz.sizeOf34
 v31:=Tryz.zeroValue34
 t40:=Tryz.underlying177
 a40:=Tryz.isAgg177
 z40:=Tryz.sizeOf177
 v40:=Tryz.zeroValue177
 t152:=Tryz.underlying268
 a152:=Tryz.isAgg268
 z152:=Tryz.sizeOf268
 v152:=Tryz.zeroValue268
 t154:=Tryz.underlying270
 a154:=Tryz.isAgg270
 z154:=Tryz.sizeOf270
 v154:=Tryz.zeroValue270 }
open Go.RowKit Go.Lib in
theorem Tryz.strings_FieldsFunc_runes (g:Nat) (lb:Array Value) (eg:∀ args w,(callFunc g args).run Tryz.prog w=.ok (.enter g args) w) (p:Nat→Bool) (s:ByteArray) (w:World) (hs:s.size≤4294967296) (hp:PredAtRunes Tryz.prog g lb p w) :
 Calls Tryz.prog 94 #[.string s,.func (.func g) #[] lb] w fun e w'=>∃ A,e=.returned (.slice (some ⟨A,0,none⟩) (Lib.goFieldsP p s).length (Lib.goFieldsP p s).length)∧w.heap.size≤A ∧
  w'.ownsRow w.heap.size 9 1 (.slice (some ⟨A,0,none⟩) (Lib.goFieldsP p s).length (Lib.goFieldsP p s).length) (Lib.goFieldsP p s).length ((Lib.goFieldsP p s).map Value.string)∧Below w.heap.size w w':=Any.strings_FieldsFunc_runes Tryz.lays229 g lb eg p s w hs hp (by kernel_rfl) (by kernel_rfl)
open Go.RowKit Go.Lib in
def Tryz.lays168_ren:Go.Shelf.Ren:=⟨fun | 168=>178 | 240=>171 | 242=>246 | 276=>239 | 278=>284 | n=>n,fun | 0=>0 | 3=>3 | 4=>4 | 5=>5 | 9=>9 | 20=>20 | 21=>21 | 37=>51 | 46=>201 | 51=>130 | 70=>159 | 72=>161 | 75=>70 | 80=>170 | 164=>209 | n=>n,fun | n=>n⟩
theorem Tryz.lays168:Go.Proofs.Lays.n168 Tryz.prog Tryz.lays168_ren:={
 mixed:=by kernel_rfl
 f168:=Tryz.func178.trans (congrArg some (by kernel_rfl))
 f240:=Tryz.func171.trans (congrArg some (by kernel_rfl))
 f242:=Tryz.func246.trans (congrArg some (by kernel_rfl))
 f276:=Tryz.func239.trans (congrArg some (by kernel_rfl))
 f278:=Tryz.func284.trans (congrArg some (by kernel_rfl))
 t0:=Tryz.underlying0
 a0:=Tryz.isAgg0
 z0:=Tryz.sizeOf0
 v0:=Tryz.zeroValue0
 t3:=Tryz.underlying3
 a3:=Tryz.isAgg3
 z3:=Tryz.sizeOf3
 v3:=Tryz.zeroValue3
 t4:=Tryz.underlying4
 a4:=Tryz.isAgg4
 z4:=Tryz.sizeOf4
 v4:=Tryz.zeroValue4
 t5:=Tryz.underlying5
 a5:=Tryz.isAgg5
 z5:=Tryz.sizeOf5
 v5:=Tryz.zeroValue5
 t9:=Tryz.underlying9
 a9:=Tryz.isAgg9
 z9:=Tryz.sizeOf9
 v9:=Tryz.zeroValue9
 t20:=Tryz.underlying20
 a20:=Tryz.isAgg20
 z20:=Tryz.sizeOf20
 v20:=Tryz.zeroValue20
 t21:=Tryz.underlying21
 a21:=Tryz.isAgg21
 z21:=Tryz.sizeOf21
 v21:=Tryz.zeroValue21
 t37:=Tryz.underlying51
 a37:=Tryz.isAgg51
 z37:=Tryz.sizeOf51
 v37:=Tryz.zeroValue51
 t46:=Tryz.underlying201
 a46:=Tryz.isAgg201
 z46:=Tryz.sizeOf201
 v46:=Tryz.zeroValue201
 t51:=Tryz.underlying130
 a51:=Tryz.isAgg130
 z51:=Tryz.sizeOf130
 v51:=Tryz.zeroValue130
 t70:=Tryz.underlying159
 a70:=Tryz.isAgg159
 z70:=Tryz.sizeOf159
 v70:=Tryz.zeroValue159
 t72:=Tryz.underlying161
 a72:=Tryz.isAgg161
 z72:=Tryz.sizeOf161
 v72:=Tryz.zeroValue161
 t75:=Tryz.underlying70
 a75:=Tryz.isAgg70
 z75:=Tryz.sizeOf70
 v75:=Tryz.zeroValue70
 t164:=Tryz.underlying209
 a164:=Tryz.isAgg209
 z164:=Tryz.sizeOf209
 v164:=Tryz.zeroValue209 }
theorem Tryz.Builder_Extra_168:Builder.Extra Tryz.prog Tryz.lays168_ren:={
 sizeBuilder:=by kernel_rfl
 liesBuilder:=by kernel_rfl
 t5:=Tryz.underlying5
 a5:=Tryz.isAgg5
 z5:=Tryz.sizeOf5
 v5:=Tryz.zeroValue5
 infoByte:=by kernel_rfl
 cellsByte:=by kernel_rfl
 sizeByte:=by kernel_rfl
 neB5:=by decide }
theorem Tryz.Builder_WriteRune_k (B b:Nat) (bs:List Value) (r:Int) (hr0:-2147483648≤r) (hr1:r≤2147483647) (w:World) (h:Lib.IsBuilderF 161 5 B b bs w) (hlen:bs.length+4≤140737488355328) (hBw:B≤w.heap.size) :
 Calls Tryz.prog 178 #[.pointer (some ⟨b,0,none⟩),.int .i32 r] w fun e w'=>e=.returned (.tuple #[.int .i64 (Lib.runeCells r).length,.nilIface])∧(Lib.BuilderAtF 161 5 B b (.pointer (some ⟨b,0,none⟩)) (bs++Lib.runeCells r) w'∧Below B w w'∧Lib.OthersKept 5 (some b) w w'):=Any.Builder_WriteRune_k Tryz.lays168 Tryz.Builder_Extra_168 B b bs r hr0 hr1 w h hlen hBw
end Go.Proofs.YtaacjjhmojecnaaGreatDoor
namespace Go.Proofs.YtaacjjhmojecnaaGreatDoor
open Go.RowKit Go.ScT Go.Proofs
theorem ret_str {a b:List UInt8} (h:a=b):Ending.returned (.string ⟨a.toArray⟩)=.returned (.string ⟨b.toArray⟩):=by rw [h]
theorem runF_end (f n:Nat):runF f [] n=[]:=by cases f <;> simp [runF]
theorem runF_ten (f:Nat) (l:List UInt8):runF f l 10=[]:=by
 cases f with
 | zero=>rfl
 | succ f=>simp [runF]
theorem runF_step (s:ByteArray) (f pos k:Nat) (hp:pos < s.size) (hk:k≠10) :
 runF (f+1) (s.data.toList.drop pos) k=Lib.encodeRune (smR (Utf8.decode s pos).1)++runF f (s.data.toList.drop (pos+(Utf8.decode s pos).2)) (k+1):=by
 have hne:s.data.toList.drop pos≠[]:=by
  intro h
  have:=congrArg List.length h
  simp at this
  omega
 simp only [runF,if_neg hne,if_neg hk,Lib.decodeL_drop,List.drop_drop]
set_option maxHeartbeats 1000000 in
set_option maxRecDepth 1000000 in
theorem fromRun_any (s:ByteArray) (w:World) :
 Calls Tryz.prog 96 #[.string s] w fun e w'=>e=.returned (.string ⟨(fromRun s.data.toList).toArray⟩)∧Below w.heap.size w w':=by
 go_enter Tryz.func96,Tryz.ntmps96
 go_wp2
 go_loopw [4] (fun n wr=>∃ (pos fuel k:Nat) (acc:List UInt8),n=.int .i64 (k:Int)∧k≤10∧Lib.IsBuilderF 161 5 w.heap.size w.heap.size (Lib.byteCells acc) wr∧wr.heap[w.heap.size+1]?=some (.stringIter s pos)∧Below w.heap.size w wr∧Hid (acc++runF fuel (s.data.toList.drop pos) k=fromRun s.data.toList)∧s.size≤pos+fuel∧acc.length≤4 * k) (fun _ wr=>s.size - wr.iterPos (w.heap.size+1))
 case atStart =>
  refine ⟨0,s.size,0,[],rfl,by omega,(Lib.IsBuilderF.of (Lib.fresh_isBuilder 161 5 w)).alloc _,?_,((Below.refl _ w).alloc (Nat.le_refl _) _).alloc (by simp) _,?_,by omega,by simp⟩
  ·have:=World.iter_heap (w.alloc (.cells #[.pointer none,.slice none 0 0] 161)) s 0
   simpa using this
  ·show _=_
   simp [fromRun]
 case round =>
  obtain ⟨pos,fuel,k,acc,rfl,hk,hI,hit,hbw,hacc,hfu,hal⟩:=hrel
  have hsz:w.heap.size+1 < wr.heap.size:=(Array.getElem?_eq_some_iff.1 hit).1
  by_cases hp:pos < s.size
  ·have hnx:∀ ty,(Instr.next (.pointer (some ⟨w.heap.size+1,0,none⟩)) true ty).run Tryz.prog wr=_:=fun ty=>Lib.run_next_any_at wr (w.heap.size+1) s pos ty hit hp
   have hwd:=Lib.width_pos s pos
   have hd1:=Lib.rune_le s pos
   have hI2:=hI.iterAt hit (pos+(Utf8.decode s pos).2)
   have hit2:=Lib.iterAt_heap wr (w.heap.size+1) s pos (pos+(Utf8.decode s pos).2) hit
   have hbw2:=Lib.below_iterAt hbw (k:=w.heap.size+1) (by omega) s (pos+(Utf8.decode s pos).2)
   have hsz2:w.heap.size≤(wr.iterAt (w.heap.size+1) s (pos+(Utf8.decode s pos).2)).heap.size:=by rw [Lib.iterAt_size];omega
   obtain ⟨f,rfl⟩:∃ f,fuel=f+1:=⟨fuel - 1,by omega⟩
   by_cases h10:k=10
   ·subst h10
    have hfin:Hid (acc=fromRun s.data.toList):=by
     have:=hacc.out
     rw [runF_ten,List.append_nil] at this
     exact this
    clear hacc
    go_wp2_with (go_at_call 91;refine (Tryz.Builder_String_any_k w.heap.size w.heap.size acc _ hI2 hsz2).mono ?_)
    rintro e W1 ⟨rfl,_,b1,_⟩
    go_wp2
    go_ret
    exact ⟨ret_str hfin.out,hbw2.trans b1⟩
   ·have hk9:k < 10:=by omega
    have hkb:((k:Int) == 10)=false:=beq_eq_false_iff_ne.2 (by omega)
    have hst:Hid (runF (f+1) (s.data.toList.drop pos) k=_):=runF_step s f pos k hp h10
    clear h10
    go_wp2_with (first
     | (go_at_call 179;refine (small_any _ hd1 _).mono ?_;rintro e w' ⟨rfl,rfl⟩)
     | (go_at_call 178;refine (Tryz.Builder_WriteRune_k w.heap.size w.heap.size _ _ (by omega) (by unfold smR;split <;> omega) _ hI2 (by rw [Lib.byteCells_length];omega) hsz2).mono ?_;rintro e W1 ⟨rfl,h1,b1,k1⟩))
    go_roundw
    case rel =>
     have hl4:=Lib.runeCells_le (smR (Utf8.decode s pos).1:Int)
     rw [Lib.runeCells_length] at hl4
     refine ⟨pos+(Utf8.decode s pos).2,f,k+1,acc++Lib.encodeRune (smR (Utf8.decode s pos).1),by go_num,by omega,?_,k1.iter hit2 (by omega),hbw2.trans b1,?_,by omega,by simp;omega⟩
     ·rw [Lib.byteCells_append,Lib.byteCells_encodeRune];exact Or.inr h1
     ·show _=_
      rw [← hacc.out,hst.out,List.append_assoc]
    case measure =>
     simp only [World.iterPos,k1.iter hit2 (by omega),hit]
     omega
  ·have hnx:∀ ty,(Instr.next (.pointer (some ⟨w.heap.size+1,0,none⟩)) true ty).run Tryz.prog wr=_:=fun ty=>Lib.run_next_end_at wr (w.heap.size+1) s pos ty hit hp
   have hfin:Hid (acc=fromRun s.data.toList):=by
    have:=hacc.out
    rw [List.drop_of_length_le (by simp;omega),runF_end,List.append_nil] at this
    exact this
   clear hacc
   go_wp2_with (go_at_call 91;refine (Tryz.Builder_String_any_k w.heap.size w.heap.size acc _ hI (by omega)).mono ?_)
   rintro e W1 ⟨rfl,_,b1,_⟩
   go_wp2
   go_ret
   exact ⟨ret_str hfin.out,hbw.trans b1⟩
end Go.Proofs.YtaacjjhmojecnaaGreatDoor
namespace Go.Proofs.YtaacjjhmojecnaaGreatDoor
open Go.RowKit Go.ScT Go.Proofs Go.Shelf
theorem grownB {w w':World} (h:Below w.heap.size w w') (row:Option Nat):w.grownBy w' row:=⟨h.os,h.tape,h.output,h.size,fun k hk _=>h.block k hk⟩
theorem drop_atB {α:Type} {l:List α} {k:Nat} {x:α} (h:l[k]?=some x):l.drop k=x :: l.drop (k+1):=by
 obtain ⟨h1,h2⟩:=List.getElem?_eq_some_iff.1 h
 rw [List.drop_eq_getElem_cons h1,h2]
theorem ownsRow_leB {w:World} {base base' size n:Nat} {e:TypeId} {v:Value} {xs:List Value} (h:w.ownsRow base e size v n xs) (hb:base'≤base):w.ownsRow base' e size v n xs:=by
 refine ⟨h.1,?_⟩
 rcases h.2 with h0 | ⟨g,cap,cur,h1,h2,h3⟩
 ·exact Or.inl h0
 ·exact Or.inr ⟨g,cap,cur,h1,by omega,h3⟩
def strV (t:List UInt8):Value:=.string ⟨t.toArray⟩
theorem spans_len (p:Nat→Bool) (s:ByteArray):∀ (f pos:Nat) (st:Option Nat) (acc:List (Nat × Nat)),(Lib.spansFromP p s f pos st acc).1.length≤acc.length+f
 | 0,_,_,_=>by simp [Lib.spansFromP]
 | f+1,pos,st,acc=>by
   have ih:=spans_len p s f (pos+(Utf8.decode s pos).2)
   simp only [Lib.spansFromP]
   split
   ·split
    ·cases st with
     | none=>have:=ih none acc;simp only;omega
     | some a=>have:=ih none (acc++[(a,pos)]);simp only [List.length_append,List.length_cons,List.length_nil] at this;simp only;omega
    ·cases st with
     | none=>have:=ih (some pos) acc;simp only;omega
     | some a=>have:=ih (some a) acc;simp only;omega
   ·simp
theorem fields_len (p:Nat→Bool) (s:ByteArray):(Lib.goFieldsP p s).length≤s.size+1:=by
 have h:=spans_len p s s.size 0 none []
 unfold Lib.goFieldsP Lib.spansOfP Lib.closeSpans
 rw [List.length_map]
 split <;> simp at h ⊢ <;> omega
theorem noLet_pays (w:World):PredAtRunes Tryz.prog 95 #[] noLetR w:=fun W x _ _=>by
 unfold FnGives
 exact (isNoLetter_any x W).mono fun e w' ⟨he,hw⟩=>⟨he,0,hw⟩
def tokF (fs:List ByteArray):List (List UInt8):=(fs.map fun x=>fromRun x.data.toList).filter fun t=>!comB t
theorem tokF_no (F:ByteArray) (r:List ByteArray) (h:comB (fromRun F.data.toList)=true):tokF (F :: r)=tokF r:=by simp [tokF,h]
theorem tokF_yes (F:ByteArray) (r:List ByteArray) (h:comB (fromRun F.data.toList)=false):tokF (F :: r)=fromRun F.data.toList :: tokF r:=by simp [tokF,h]
set_option maxHeartbeats 1000000 in
set_option maxRecDepth 1000000 in
theorem split_any (s:ByteArray) (w:World) (hs:s.size≤1000000) :
 Calls Tryz.prog 54 #[.string s] w fun e w'=>∃ v,e=.returned v∧w'.ownsRow w.heap.size 9 1 v (toks s.data.toList).length ((toks s.data.toList).map strV)∧Below w.heap.size w w':=by
 have cF:Calls Tryz.prog 94 #[.string s,.func (.func 95) #[] #[]] w _:=Tryz.strings_FieldsFunc_runes 95 #[] (enters_of Tryz.func95 (by kernel_rfl) rfl) noLetR s w (by omega) (noLet_pays w)
 have hN:=fields_len noLetR s
 have HT:Hid (tokF (Lib.goFieldsP noLetR s)=toks s.data.toList):=fields_toks s
 obtain ⟨T,hTe⟩:∃ T,toks s.data.toList=T:=⟨_,rfl⟩
 rw [hTe] at HT ⊢
 clear hTe
 generalize Lib.goFieldsP noLetR s=FS at cF hN HT
 have hi9:(Tryz.prog.info? 9).map (fun i=>(i.zero,i.size,i.bytes))=some (some (.string ⟨#[]⟩),1,16):=by kernel_rfl
 obtain ⟨i0,hi,hz0,hz1,hz2⟩:=info_parts hi9
 clear hi9
 go_enter Tryz.func54,Tryz.ntmps54
 go_wp2_with (go_at_call 94;refine cF.mono ?_;rintro e w1 ⟨A,rfl,hA,hown,hb⟩)
 have hAlt:A < w1.heap.size:=(hown.lt A rfl).2
 have HC:Hid (∀ (j:Nat) (F:ByteArray),FS[j]?=some F→w1.cell? ⟨A,j,none⟩=some (.string F)):=by
  intro j F hj
  have hlt:=(List.getElem?_eq_some_iff.1 hj).1
  rw [hown.cellAt j (by omega),List.getElem?_map,hj]
  rfl
 have hb1:=hb.size
 clear cF hown
 go_loopw [3,10] (fun s3 s10 wr=>∃ (k:Nat) (ks:List (List UInt8)),k≤FS.length∧s10=.int .i64 (k:Int)∧Hid (ks++tokF (FS.drop k)=T)∧ks.length≤k∧wr.ownsRow w1.heap.size 9 1 s3 ks.length (ks.map strV)∧Below w1.heap.size w1 wr) (fun _ s10 _=>FS.length - (intOf s10).toNat)
 case atStart=>exact ⟨0,[],by omega,rfl,HT,by simp,⟨rfl,Or.inl ⟨rfl,rfl⟩⟩,Below.refl _ _⟩
 case round =>
  obtain ⟨k,ks,hk,rfl,HI,hkl,hrow,hbw⟩:=hrel
  by_cases hlt:k < FS.length
  ·obtain ⟨F,hF⟩:∃ F,FS[k]?=some F:=⟨_,List.getElem?_eq_getElem hlt⟩
   have hcell:wr.cell? ⟨A,k,none⟩=some (.string F):=(hbw.cell (p:=⟨A,k,none⟩) hAlt).trans (HC.out k F hF)
   have hdrop:Hid (FS.drop k=F :: FS.drop (k+1)):=drop_atB hF
   clear hF
   by_cases hc:comB (fromRun F.data.toList)=true
   ·have HS:Hid (tokF (FS.drop k)=tokF (FS.drop (k+1))):=by show _=_;rw [hdrop.out,tokF_no F _ hc]
    go_wp2_with (first
     | (go_at_call 96;refine (fromRun_any _ _).mono ?_;rintro e w2 ⟨rfl,hb2⟩)
     | (go_at_call 97;refine (isCommon_any _ _).mono ?_;rintro e w' ⟨rfl,hw⟩;rw [hw];clear hw w'))
    go_roundw
    case rel=>exact ⟨k+1,ks,by omega,by go_num,by show _=_;rw [← HS.out];exact HI.out,by omega,hrow.kept (grownB hb2 none) (Classical.em _),hbw.trans (hb2.mono hbw.size)⟩
    case measure=>simp [intOf];omega
   ·have hcf:comB (fromRun F.data.toList)=false:=by simpa using hc
    clear hc
    have HS:Hid (tokF (FS.drop k)=fromRun F.data.toList :: tokF (FS.drop (k+1))):=by show _=_;rw [hdrop.out,tokF_yes F _ hcf]
    go_wp2_with (first
     | (at_builtin;refine wpList_append_own _ rfl _ _ 34 rfl w1.heap.size 9 i0 (.string ⟨#[]⟩) 1 16 Tryz.underlying34 hi hz0 hz1 hz2 rfl (by decide) _ _ _ rfl ((hrow.kept (grownB hb2 none) (Classical.em _)).alloc _) ⟨w2.heap.size,0,none⟩ 1 1 [strV (fromRun F.data.toList)] rfl rfl (cell_one_new _ _ _) (fun x hx=>by simp at hx;subst hx;rfl) (by unfold maxLen;omega) (by omega) (by have:=hbw.size;have:=hb2.size;simp;omega) ?_;intro v' w3 hown3 hgrow3 hnil3)
     | (go_at_call 96;refine (fromRun_any _ _).mono ?_;rintro e w2 ⟨rfl,hb2⟩)
     | (go_at_call 97;refine (isCommon_any _ _).mono ?_;rintro e w' ⟨rfl,hw⟩;rw [hw];clear hw w'))
    go_roundw
    case rel =>
     refine ⟨k+1,ks++[fromRun F.data.toList],by omega,by go_num,?_,by simp;omega,?_,?_⟩
     ·show _=_
      rw [← HI.out,HS.out];simp
     ·simpa using hown3
     ·have hb3:Below w1.heap.size w1 (w2.alloc (.cells #[strV (fromRun F.data.toList)] 9)):=(hbw.trans (hb2.mono hbw.size)).alloc (by have:=hbw.size;have:=hb2.size;omega) _
      exact hb3.grown hgrow3 (by have:=hbw.size;have:=hb2.size;simp;omega) (fun j hj=>((hrow.kept (grownB hb2 none) (Classical.em _)).lt j hj).1)
    case measure=>simp [intOf];omega
  ·have hkz:¬ ((k:Int) < (FS.length:Int)):=by omega
   have HE:Hid (ks=T):=by
    have:=HI.out
    rw [List.drop_of_length_le (by omega)] at this
    have h2:ks=T:=by simpa [tokF] using this
    exact h2
   clear HI
   go_wp2
   go_ret
   have hE:=HE.out
   subst hE
   exact ⟨_,rfl,ownsRow_leB hrow hb1,hb.trans (hbw.mono hb1)⟩
end Go.Proofs.YtaacjjhmojecnaaGreatDoor
namespace Go.Proofs.YtaacjjhmojecnaaGreatDoor
open Go.RowKit Go.ScT Go.Proofs
def letW (b:UInt8) (r:List UInt8):Nat:=if letL b r=[] then 1 else if b=195 then 2 else 1
def LetC (s:ByteArray) (n:Nat) (c:List UInt8) (k:Nat):Prop :=
 ∀ w,Calls Tryz.prog 101 #[.string s,.int .i64 (n:Int)] w fun e w'=>e=.returned (.tuple #[.string ⟨c.toArray⟩,.int .i64 (k:Int)])∧Below w.heap.size w w'
theorem drop_head (s:ByteArray) (n:Nat) (h:n < s.size):s.data.toList.drop n=s[n] :: s.data.toList.drop (n+1):=by
 rw [List.drop_eq_getElem_cons (by simpa using h)]
 rfl
theorem letter_any (s:ByteArray) (n:Nat) (hn:n < s.size) (hs:s.size≤1000000):LetC s n (letL s[n] (s.data.toList.drop (n+1))) (letW s[n] (s.data.toList.drop (n+1))):=by
 intro w
 have hlt:s[n].toNat < 256:=UInt8.toNat_lt _
 have h195:∀ x:UInt8,ascB x=true→x≠195:=by
  intro x hx e
  rw [e] at hx
  simp [ascB] at hx
 have asc:ascB s[n]=true→letL s[n] (s.data.toList.drop (n+1))=[smA s[n]]∧letW s[n] (s.data.toList.drop (n+1))=1:=by
  intro h
  have:letL s[n] (s.data.toList.drop (n+1))=[smA s[n]]:=by simp [letL,h]
  exact ⟨this,by simp [letW,this,h195 _ h]⟩
 have non:ascB s[n]=false→s[n]≠195→letL s[n] (s.data.toList.drop (n+1))=[]∧letW s[n] (s.data.toList.drop (n+1))=1:=by
  intro h h2
  have:letL s[n] (s.data.toList.drop (n+1))=[]:=by simp [letL,h,h2]
  exact ⟨this,by simp [letW,this]⟩
 have na:¬ ((48≤s[n].toNat∧s[n].toNat≤57)∨(65≤s[n].toNat∧s[n].toNat≤90)∨(97≤s[n].toNat∧s[n].toNat≤122))→ascB s[n]=false:=by
  intro h
  rw [← ascB_iff] at h
  simpa using h
 by_cases a1:48≤s[n].toNat∧s[n].toNat≤57
 ·obtain ⟨e1,e2⟩:=asc ((ascB_iff _).2 (by omega))
  rw [e1,e2,smA_id _ (by omega)]
  exact letter_d s n w hn hs a1.1 a1.2
 by_cases a2:97≤s[n].toNat∧s[n].toNat≤122
 ·obtain ⟨e1,e2⟩:=asc ((ascB_iff _).2 (by omega))
  rw [e1,e2,smA_id _ (by omega)]
  exact letter_l s n w hn hs a2.1 a2.2
 by_cases a3:65≤s[n].toNat∧s[n].toNat≤90
 ·obtain ⟨e1,e2⟩:=asc ((ascB_iff _).2 (by omega))
  have e3:smA s[n]=s[n]+32:=by
   unfold smA
   rw [if_pos (by simp [UInt8.le_iff_toNat_le];omega)]
  rw [e1,e2,e3]
  exact letter_u s n w hn hs a3.1 a3.2
 have hna:=na (by omega)
 by_cases h9:s[n]=195
 ·have ha:ascB 195=false:=rfl
  by_cases hend:n+1=s.size
  ·have hd:s.data.toList.drop (n+1)=[]:=List.drop_of_length_le (by simp;omega)
   have e1:letL s[n] (s.data.toList.drop (n+1))=[]:=by rw [hd];simp [letL,ha,h9]
   have e2:letW s[n] (s.data.toList.drop (n+1))=1:=by unfold letW;rw [e1,if_pos rfl]
   rw [e1,e2]
   exact letter_e s n w hn hs h9 hend
  ·have h2:n+1 < s.size:=by omega
   have hd:=drop_head s (n+1) h2
   have hlt2:s[n+1].toNat < 256:=UInt8.toNat_lt _
   by_cases hc:cntB s[n+1]=true
   ·have hcc:=(cntB_iff _).1 hc
    have e1:letL s[n] (s.data.toList.drop (n+1))=[195,smC s[n+1]]:=by rw [hd];simp [letL,ha,h9,hc]
    have e2:letW s[n] (s.data.toList.drop (n+1))=2:=by unfold letW;rw [e1,if_neg (by simp),if_pos h9]
    rw [e1,e2]
    by_cases h158:s[n+1].toNat≤158
    ·have e3:smC s[n+1]=s[n+1]+32:=by
      unfold smC
      rw [if_pos (by simp [UInt8.le_iff_toNat_le];omega)]
     rw [e3]
     by_cases h151:s[n+1].toNat < 151
     ·exact letter_k0 s n w hn hs h9 h2 (by omega) h151
     ·exact letter_k1 s n w hn hs h9 h2 (by omega) (by omega)
    ·rw [smC_id _ h158]
     by_cases h183:s[n+1].toNat < 183
     ·exact letter_k2 s n w hn hs h9 h2 (by omega) h183
     ·exact letter_k3 s n w hn hs h9 h2 (by omega) (by omega)
   ·have hcc:¬ (128≤s[n+1].toNat∧s[n+1].toNat≤191∧s[n+1].toNat≠151∧s[n+1].toNat≠183):=by rw [← cntB_iff];exact hc
    have e1:letL s[n] (s.data.toList.drop (n+1))=[]:=by rw [hd];simp [letL,ha,h9,hc]
    have e2:letW s[n] (s.data.toList.drop (n+1))=1:=by unfold letW;rw [e1,if_pos rfl]
    rw [e1,e2]
    by_cases q1:s[n+1].toNat < 128
    ·exact letter_c0 s n w hn hs h9 h2 q1
    by_cases q2:191 < s[n+1].toNat
    ·exact letter_c1 s n w hn hs h9 h2 q2
    by_cases q3:s[n+1].toNat=151
    ·exact letter_c2 s n w hn hs h9 h2 q3
    ·exact letter_c3 s n w hn hs h9 h2 (by omega)
 ·obtain ⟨e1,e2⟩:=non hna h9
  have h9n:s[n].toNat≠195:=fun e=>h9 ((u8_eq _ _).2 e)
  rw [e1,e2]
  by_cases q1:s[n].toNat < 48
  ·exact letter_n0 s n w hn hs q1
  by_cases q2:s[n].toNat < 65
  ·exact letter_n1 s n w hn hs (by omega) q2
  by_cases q3:s[n].toNat < 97
  ·exact letter_n2 s n w hn hs (by omega) q3
  by_cases q4:s[n].toNat < 195
  ·exact letter_n3 s n w hn hs (by omega) q4
  ·exact letter_n4 s n w hn hs (by omega)
theorem cat_two (a b:List UInt8):((⟨a.toArray⟩:ByteArray)++⟨b.toArray⟩)=⟨(a++b).toArray⟩:=by
 apply ByteArray.ext
 simp
theorem letL_len (b:UInt8) (r:List UInt8):(letL b r).length≤2:=by
 rcases head_cases b r with ⟨_,hl⟩ | ⟨c,r',rfl,rfl,_,hl⟩ | hl <;> rw [hl] <;> simp
theorem fin_none (s:ByteArray) (n:Nat) (h:n < s.size) (run:List UInt8) (m:Nat) (l:List (List UInt8)) (he:letL s[n] (s.data.toList.drop (n+1))=[]) :
 fin (s.data.toList.drop n) false run m l=fin (s.data.toList.drop (n+1)) false [] 0 (flush run l):=by
 rw [drop_head s n h]
 simp only [fin,if_pos he]
theorem fin_some (s:ByteArray) (n:Nat) (h:n < s.size) (run:List UInt8) (m:Nat) (l:List (List UInt8)) (he:letL s[n] (s.data.toList.drop (n+1))≠[]) :
 fin (s.data.toList.drop n) false run m l=if m < 10 then fin (s.data.toList.drop (n+letW s[n] (s.data.toList.drop (n+1)))) false (run++letL s[n] (s.data.toList.drop (n+1))) (m+1) l else fin (s.data.toList.drop (n+letW s[n] (s.data.toList.drop (n+1)))) false run m l:=by
 have hd:=drop_head s n h
 have key:∀ R k A,fin (s.data.toList.drop (n+1)) (s[n] == 195) R k A=fin (s.data.toList.drop (n+letW s[n] (s.data.toList.drop (n+1)))) false R k A:=by
  intro R k A
  unfold letW
  rw [if_neg he]
  by_cases h9:s[n]=195
  ·rw [if_pos h9]
   have hb:(s[n] == 195)=true:=by simp [h9]
   rw [hb]
   have hne:s.data.toList.drop (n+1)≠[]:=by
    intro e
    rw [e,h9] at he
    simp [letL,ascB] at he
   cases hx:s.data.toList.drop (n+1) with
   | nil=>exact absurd hx hne
   | cons c r =>
     have:s.data.toList.drop (n+2)=r:=by rw [show n+2=(n+1)+1 from rfl,← List.drop_drop,hx];rfl
     rw [this]
     simp only [fin]
  ·rw [if_neg h9]
   have hb:(s[n] == 195)=false:=by simp [h9]
   rw [hb]
 rw [hd]
 simp only [fin,if_neg he,key]
theorem letW_le (s:ByteArray) (n:Nat) (h:n < s.size):1≤letW s[n] (s.data.toList.drop (n+1))∧n+letW s[n] (s.data.toList.drop (n+1))≤s.size:=by
 unfold letW
 split
 ·omega
 ·rename_i hne
  split
  ·rename_i h9
   refine ⟨by omega,?_⟩
   apply Classical.byContradiction
   intro hc
   apply hne
   rw [List.drop_of_length_le (by simp;omega),h9]
   simp [letL,ascB]
  ·omega
set_option maxHeartbeats 1000000 in
set_option maxRecDepth 1000000 in
theorem refSplit_any (s:ByteArray) (w:World) (hs:s.size≤1000000) :
 Calls Tryz.prog 57 #[.string s] w fun e w'=>∃ v,e=.returned v∧w'.ownsRow w.heap.size 9 1 v (toks s.data.toList).length ((toks s.data.toList).map strV)∧Below w.heap.size w w':=by
 obtain ⟨T,hTe⟩:∃ T,toks s.data.toList=T:=⟨_,rfl⟩
 have HT:Hid (fin (s.data.toList.drop 0) false [] 0 []=T):=hTe
 rw [hTe]
 clear hTe
 have hi9:(Tryz.prog.info? 9).map (fun i=>(i.zero,i.size,i.bytes))=some (some (.string ⟨#[]⟩),1,16):=by kernel_rfl
 obtain ⟨i0,hi,hz0,hz1,hz2⟩:=info_parts hi9
 clear hi9
 go_enter Tryz.func57,Tryz.ntmps57
 go_wp2
 go_loopw [3,4,5,6] (fun s3 s4 s5 s6 wr=>∃ (n m:Nat) (run:List UInt8) (l:List (List UInt8)),s6=.int .i64 (n:Int)∧s5=.int .i64 (m:Int)∧s4=.string ⟨run.toArray⟩∧wr.ownsRow w.heap.size 9 1 s3 l.length (l.map strV)∧Below w.heap.size w wr∧m≤10∧l.length≤n∧run.length≤2 * m∧n≤s.size+1∧Hid ((n≤s.size→fin (s.data.toList.drop n) false run m l=T)∧(n=s.size+1→l=T))) (fun _ _ _ s6 _=>s.size+1 - (intOf s6).toNat)
 case atStart=>exact ⟨0,0,[],[],rfl,rfl,rfl,⟨rfl,Or.inl ⟨rfl,rfl⟩⟩,Below.refl _ _,by omega,by simp,by simp,by omega,fun _=>HT.out,fun h=>by omega⟩
 case round =>
  obtain ⟨n,m,run,l,rfl,rfl,rfl,hrow,hbw,hm,hln,hrl,hn1,HI⟩:=hrel
  have hbs:=hbw.size
  by_cases hlt:n < s.size
  ·have hnz:(n:Int)≤(s.size:Int):=by omega
   have cL:=letter_any s n hlt hs
   have hle:=letL_len s[n] (s.data.toList.drop (n+1))
   have hwl:=letW_le s n hlt
   have hI:=HI.out.1 (by omega)
   by_cases he:letL s[n] (s.data.toList.drop (n+1))=[]
   ·have hw1:letW s[n] (s.data.toList.drop (n+1))=1:=by simp [letW,he]
    rw [fin_none s n hlt run m l he] at hI
    have HI2:Hid ((n+1≤s.size→fin (s.data.toList.drop (n+1)) false [] 0 (flush run l)=T)∧(n+1=s.size+1→flush run l=T)):=⟨fun _=>hI,fun h=>by omega⟩
    rw [he,hw1] at cL
    clear hI HI he hle hwl hw1
    have cL2:LetC s n [] 1:=cL
    clear cL
    by_cases hst:stopB run=true
    ·have hfl:Hid (flush run l=l):=show _=_ by simp [flush,hst]
     go_wp2_with (first
      | (go_at_call 101;refine (cL2 _).mono ?_;rintro e w2 ⟨rfl,hb2⟩)
      | (go_at_call 102;refine (stops_any _ _).mono ?_;rintro e w' ⟨rfl,hw⟩;rw [hw];clear hw w'))
     go_roundw
     case rel=>exact ⟨n+1,0,[],l,by go_num,by first | rfl | go_num,rfl,hrow.kept (grownB hb2 none) (Classical.em _),hbw.trans (hb2.mono hbw.size),by omega,by omega,by simp,by omega,by have:=HI2.out;rw [hfl.out] at this;exact this⟩
     case measure=>simp [intOf];omega
    ·have hsf:stopB run=false:=by simpa using hst
     clear hst
     have hfl:Hid (flush run l=l++[run]):=show _=_ by simp [flush,hsf]
     go_wp2_with (first
      | (at_builtin;refine wpList_append_own _ rfl _ _ 34 rfl w.heap.size 9 i0 (.string ⟨#[]⟩) 1 16 Tryz.underlying34 hi hz0 hz1 hz2 rfl (by decide) _ _ _ rfl ((hrow.kept (grownB hb2 none) (Classical.em _)).alloc _) ⟨w2.heap.size,0,none⟩ 1 1 [strV run] rfl rfl (cell_one_new _ _ _) (fun x hx=>by simp at hx;subst hx;rfl) (by unfold maxLen;omega) (by omega) (by have:=hbw.size;have:=hb2.size;simp;omega) ?_;intro v' w3 hown3 hgrow3 hnil3)
      | (go_at_call 101;refine (cL2 _).mono ?_;rintro e w2 ⟨rfl,hb2⟩)
      | (go_at_call 102;refine (stops_any _ _).mono ?_;rintro e w' ⟨rfl,hw⟩;rw [hw];clear hw w'))
     go_roundw
     case rel =>
      refine ⟨n+1,0,[],l++[run],by go_num,by first | rfl | go_num,rfl,by simpa using hown3,?_,by omega,by simp;omega,by simp,by omega,by have:=HI2.out;rw [hfl.out] at this;exact this⟩
      have hb3:Below w.heap.size w (w2.alloc (.cells #[strV run] 9)):=(hbw.trans (hb2.mono hbw.size)).alloc (by have:=hbw.size;have:=hb2.size;omega) _
      exact hb3.grown hgrow3 (by have:=hbw.size;have:=hb2.size;simp;omega) (fun j hj=>((hrow.kept (grownB hb2 none) (Classical.em _)).lt j hj).1)
     case measure=>simp [intOf];omega
   ·rw [fin_some s n hlt run m l he] at hI
    generalize letL s[n] (s.data.toList.drop (n+1))=C at cL hle he hI
    generalize letW s[n] (s.data.toList.drop (n+1))=K at cL hwl hI
    obtain ⟨hK1,hK2⟩:=hwl
    have hCe:C.isEmpty=false:=by simpa using he
    by_cases h10:m < 10
    ·rw [if_pos h10] at hI
     have HI2:Hid ((n+K≤s.size→fin (s.data.toList.drop (n+K)) false (run++C) (m+1) l=T)∧(n+K=s.size+1→l=T)):=⟨fun _=>hI,fun h=>by omega⟩
     clear hI HI
     go_wp2_with (first
      | (go_at_call 101;refine (cL _).mono ?_;rintro e w2 ⟨rfl,hb2⟩))
     go_roundw
     case rel=>exact ⟨n+K,m+1,run++C,l,by go_num,by go_num,congrArg Value.string (cat_two run C),hrow.kept (grownB hb2 none) (Classical.em _),hbw.trans (hb2.mono hbw.size),by omega,by omega,by simp;omega,by omega,HI2⟩
     case measure=>simp [intOf];omega
    ·rw [if_neg h10] at hI
     have HI2:Hid ((n+K≤s.size→fin (s.data.toList.drop (n+K)) false run m l=T)∧(n+K=s.size+1→l=T)):=⟨fun _=>hI,fun h=>by omega⟩
     clear hI HI
     go_wp2_with (first
      | (go_at_call 101;refine (cL _).mono ?_;rintro e w2 ⟨rfl,hb2⟩))
     go_roundw
     case rel=>exact ⟨n+K,m,run,l,by go_num,rfl,rfl,hrow.kept (grownB hb2 none) (Classical.em _),hbw.trans (hb2.mono hbw.size),by omega,by omega,by omega,by omega,HI2⟩
     case measure=>simp [intOf];omega
  ·by_cases hend:n=s.size
   ·have hnz:(n:Int)≤(s.size:Int):=by omega
    have hnz2:¬ ((n:Int) < (s.size:Int)):=by omega
    have hI:=HI.out.1 (by omega)
    rw [List.drop_of_length_le (by simp;omega)] at hI
    have HI2:Hid ((n+1≤s.size→fin (s.data.toList.drop (n+1)) false [] 0 (flush run l)=T)∧(n+1=s.size+1→flush run l=T)):=⟨fun h=>by omega,fun _=>hI⟩
    clear hI HI hend
    by_cases hst:stopB run=true
    ·have hfl:Hid (flush run l=l):=show _=_ by simp [flush,hst]
     go_wp2_with (first
      | (go_at_call 102;refine (stops_any _ _).mono ?_;rintro e w' ⟨rfl,hw⟩;rw [hw];clear hw w'))
     go_roundw
     case rel=>exact ⟨n+1,0,[],l,by go_num,by first | rfl | go_num,rfl,hrow,hbw,by omega,by omega,by simp,by omega,by have:=HI2.out;rw [hfl.out] at this;exact this⟩
     case measure=>simp [intOf];omega
    ·have hsf:stopB run=false:=by simpa using hst
     clear hst
     have hfl:Hid (flush run l=l++[run]):=show _=_ by simp [flush,hsf]
     go_wp2_with (first
      | (at_builtin;refine wpList_append_own _ rfl _ _ 34 rfl w.heap.size 9 i0 (.string ⟨#[]⟩) 1 16 Tryz.underlying34 hi hz0 hz1 hz2 rfl (by decide) _ _ _ rfl (hrow.alloc _) ⟨wr.heap.size,0,none⟩ 1 1 [strV run] rfl rfl (cell_one_new _ _ _) (fun x hx=>by simp at hx;subst hx;rfl) (by unfold maxLen;omega) (by omega) (by have:=hbw.size;simp;omega) ?_;intro v' w3 hown3 hgrow3 hnil3)
      | (go_at_call 102;refine (stops_any _ _).mono ?_;rintro e w' ⟨rfl,hw⟩;rw [hw];clear hw w'))
     go_roundw
     case rel =>
      refine ⟨n+1,0,[],l++[run],by go_num,by first | rfl | go_num,rfl,by simpa using hown3,?_,by omega,by simp;omega,by simp,by omega,by have:=HI2.out;rw [hfl.out] at this;exact this⟩
      have hb3:Below w.heap.size w (wr.alloc (.cells #[strV run] 9)):=hbw.alloc hbw.size _
      exact hb3.grown hgrow3 (by have:=hbw.size;simp;omega) (fun j hj=>(hrow.lt j hj).1)
     case measure=>simp [intOf];omega
   ·have hnz:¬ ((n:Int)≤(s.size:Int)):=by omega
    have hE:=HI.out.2 (by omega)
    have HE:Hid (l=T):=hE
    clear hE HI
    go_wp2
    go_ret
    have hE:=HE.out
    subst hE
    exact ⟨_,rfl,hrow,hbw⟩
end Go.Proofs.YtaacjjhmojecnaaGreatDoor
