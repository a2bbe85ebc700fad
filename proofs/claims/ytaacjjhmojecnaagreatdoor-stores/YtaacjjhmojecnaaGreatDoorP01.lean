import Derived.Lib.FieldsP
import Derived.Lib.TrimUEq
import Derived.Lib.SpaceUEq
import Derived.Lib.RuneBytes
import Derived.Lib.Join
import Derived.Test.YtaacjjhmojecnaaGreatDoorRows
import Derived.WalkKit
import Derived.WalkSpells
import Derived.WalkLawsBesides
import Derived.BigQuiet
import Derived.Lib.ConvBytes
namespace Go.ScT
open Go.Lib
def ascB (b:UInt8):Bool:=(48≤b && b≤57) || (65≤b && b≤90) || (97≤b && b≤122)
def smA (b:UInt8):UInt8:=if 65≤b && b≤90 then b+32 else b
def cntB (c:UInt8):Bool:=128≤c && c≤191 && c != 151 && c != 183
def smC (c:UInt8):UInt8:=if c≤158 then c+32 else c
def letL (b:UInt8) (r:List UInt8):List UInt8 :=
 if ascB b then [smA b] else if b=195 then (match r with | c :: _=>if cntB c then [195,smC c] else [] | []=>[]) else []
def comL:List (List UInt8):=[[97],[97,110],[97,110,100],[105,110],[105,115],[111,102],[116,104,101],[116,111]]
def comB (t:List UInt8):Bool:=comL.contains t
def stopB (t:List UInt8):Bool:=t.isEmpty || comB t
def flush (run:List UInt8) (l:List (List UInt8)):List (List UInt8):=if stopB run then l else l++[run]
def fin:List UInt8→Bool→List UInt8→Nat→List (List UInt8)→List (List UInt8)
 | [],_,run,_,l=>flush run l
 | _ :: r,true,run,n,l=>fin r false run n l
 | b :: r,false,run,n,l =>
   if letL b r=[] then fin r false [] 0 (flush run l)
   else if n < 10 then fin r (b == 195) (run++letL b r) (n+1) l
   else fin r (b == 195) run n l
def toks (l:List UInt8):List (List UInt8):=fin l false [] 0 []
def isLetR (r:Nat):Bool:=decide ((48≤r∧r≤57)∨(65≤r∧r≤90)∨(97≤r∧r≤122)∨(192≤r∧r≤255∧r≠215∧r≠247))
def noLetR (r:Nat):Bool:=!isLetR r
def smR (r:Nat):Nat:=if (65≤r∧r≤90)∨(192≤r∧r≤222) then r+32 else r
def runF:Nat→List UInt8→Nat→List UInt8
 | 0,_,_=>[]
 | f+1,l,n=>if l=[] then [] else if n=10 then [] else encodeRune (smR (decodeL l).1)++runF f (l.drop (decodeL l).2) (n+1)
def fromRun (t:List UInt8):List UInt8:=runF t.length t 0
def IsLet (x:List UInt8):Prop:=(∃ b,x=[b]∧ascB b=true)∨(∃ c,x=[195,c]∧cntB c=true)
def smL (x:List UInt8):List UInt8:=match x with | [b]=>[smA b] | [b,c]=>[b,smC c] | _=>[]
def smT (ls:List (List UInt8)):List UInt8:=(ls.take 10).flatMap smL
theorem ascB_iff (b:UInt8):ascB b=true ↔ ((48≤b.toNat∧b.toNat≤57)∨(65≤b.toNat∧b.toNat≤90)∨(97≤b.toNat∧b.toNat≤122)):=by
 simp [ascB,UInt8.le_iff_toNat_le,or_assoc]
theorem u8_eq (a b:UInt8):a=b ↔ a.toNat=b.toNat:=⟨fun h=>by rw [h],fun h=>UInt8.toNat_inj.1 h⟩
theorem cntB_iff (c:UInt8):cntB c=true ↔ (128≤c.toNat∧c.toNat≤191∧c.toNat≠151∧c.toNat≠183):=by
 simp [cntB,UInt8.le_iff_toNat_le,and_assoc,u8_eq]
theorem asc_dec (b:UInt8) (r:List UInt8) (h:ascB b=true):decodeL (b :: r)=(b.toNat,1):=by
 rw [decodeL_N]
 have:=(ascB_iff b).1 h
 exact decodeN_ascii _ _ _ _ _ (by simp [List.getD];omega)
theorem two_dec (c:UInt8) (r:List UInt8) (h:128≤c.toNat∧c.toNat≤191):decodeL (195 :: c :: r)=(c.toNat+64,2):=by
 rw [decodeL_N]
 simp only [List.getD,List.getElem?_cons_zero,List.getElem?_cons_succ,Option.getD_some,List.length_cons]
 rw [show (195:UInt8).toNat=195 from rfl]
 unfold decodeN
 rw [if_neg (by omega),if_pos (by omega),if_pos (by omega)]
 exact Prod.ext (by simp only;omega) rfl
theorem none_dec (b:UInt8) (r:List UInt8) (h:letL b r=[]) :
 isLetR (decodeL (b :: r)).1=false∧1≤(decodeL (b :: r)).2∧(decodeL (b :: r)).2≤(b :: r).length ∧
 ∀ j b' r',j < (decodeL (b :: r)).2→(b :: r).drop j=b' :: r'→letL b' r'=[]:=by
 have hasc:ascB b=false:=by
  cases ha:ascB b with
  | false=>rfl
  | true=>simp [letL,ha] at h
 have hna:¬ ((48≤b.toNat∧b.toNat≤57)∨(65≤b.toNat∧b.toNat≤90)∨(97≤b.toNat∧b.toNat≤122)):=by
  rw [← ascB_iff];simp [hasc]
 have hD:=decodeL_N (b :: r)
 have hcs:=decodeN_cases (b :: r).length ((b :: r).getD 0 0).toNat ((b :: r).getD 1 0).toNat ((b :: r).getD 2 0).toNat ((b :: r).getD 3 0).toNat
 have hcc:=decodeN_conts (b :: r).length ((b :: r).getD 0 0).toNat ((b :: r).getD 1 0).toNat ((b :: r).getD 2 0).toNat ((b :: r).getD 3 0).toNat
 have hge:=decodeN_ge1 (b :: r).length ((b :: r).getD 0 0).toNat ((b :: r).getD 1 0).toNat ((b :: r).getD 2 0).toNat ((b :: r).getD 3 0).toNat
 have hle:=decodeN_le_n' (b :: r).length ((b :: r).getD 0 0).toNat ((b :: r).getD 1 0).toNat ((b :: r).getD 2 0).toNat ((b :: r).getD 3 0).toNat (by simp)
 rw [← hD] at hcs hcc hge hle
 have hb0:((b :: r).getD 0 0)=b:=rfl
 have hlt:b.toNat < 256:=UInt8.toNat_lt b
 rw [hb0] at hcs
 refine ⟨?_,hge,hle,?_⟩
 ·
  have hC:b.toNat=195→1 < (b :: r).length→((b :: r).getD 1 0).toNat / 64=2→((b :: r).getD 1 0).toNat=151∨((b :: r).getD 1 0).toNat=183:=by
   intro h195 hn hc1
   match r,hn,h,hc1 with
   | c :: r',_,h,hc1 =>
     have hb:b=195:=(u8_eq b 195).2 h195
     subst hb
     have hc1':c.toNat / 64=2:=hc1
     have hcn:cntB c=false:=by
      cases hb:cntB c with
      | false=>rfl
      | true=>simp [letL,hb,ascB] at h
     have:¬ (128≤c.toNat∧c.toNat≤191∧c.toNat≠151∧c.toNat≠183):=by rw [← cntB_iff];simp [hcn]
     show c.toNat=151∨c.toNat=183
     omega
  unfold isLetR
  rw [decide_eq_false_iff_not]
  rcases hcs with ⟨h1,h2⟩ | ⟨h1,h2,h3,h4,h5⟩ | ⟨h1,h2,h3,h4,h5,h6⟩ | ⟨h1,h2⟩ | h1
  ·rw [h2];simp only;omega
  ·rw [h5];simp only
   have hlt1:((b :: r).getD 1 0).toNat < 256:=UInt8.toNat_lt _
   by_cases e:b.toNat=195
   ·have:=hC e h2 h3
    omega
   ·omega
  ·rw [h6];simp only;omega
  ·omega
  ·rw [h1];simp only;omega
 ·intro j b' r' hj hd
  have hget:∀ k,((b :: r).drop k)=b' :: r'→(b :: r).getD k 0=b':=by
   intro k hk
   have:=getD_dropU (b :: r) k 0
   rw [hk] at this
   simpa [List.getD] using this.symm
  by_cases hj0:j=0
  ·subst hj0
   simp at hd
   obtain ⟨rfl,rfl⟩:=hd
   exact h
  ·have hg:=hget j hd
   have hc:b'.toNat / 64=2:=by
    rw [← hg]
    obtain ⟨c2,c3,c4,c5⟩:=hcc
    have:j=1∨j=2∨j=3:=by omega
    rcases this with rfl | rfl | rfl
    ·exact (c2 (by omega)).1
    ·exact (c3 (by omega)).1
    ·exact (c4 (by omega)).1
   have hlt':b'.toNat < 256:=UInt8.toNat_lt _
   have h1:ascB b'=false:=by
    cases ha:ascB b' with
    | false=>rfl
    | true=>have:=(ascB_iff b').1 ha;omega
   have h2:b'≠195:=by
    intro e
    have:=congrArg UInt8.toNat e
    rw [show (195:UInt8).toNat=195 from rfl] at this
    omega
   simp [letL,h1,h2]
theorem head_cases (b:UInt8) (r:List UInt8) :
 (ascB b=true∧letL b r=[smA b])∨(∃ c r',b=195∧r=c :: r'∧cntB c=true∧letL b r=[195,smC c])∨letL b r=[]:=by
 by_cases ha:ascB b=true
 ·exact Or.inl ⟨ha,by simp [letL,ha]⟩
 ·by_cases hb:b=195
  ·subst hb
   match r with
   | []=>right;right;simp [letL,ha]
   | c :: r' =>
     by_cases hc:cntB c=true
     ·right;left;exact ⟨c,r',rfl,rfl,hc,by simp [letL,ha,hc]⟩
     ·right;right;simp [letL,ha,hc]
  ·right;right;simp [letL,ha,hb]
theorem fin_skip:∀ (k:Nat) (l run:List UInt8) (n:Nat) (acc:List (List UInt8)),k < l.length →
 (∀ j b' r',j < k+1→l.drop j=b' :: r'→letL b' r'=[])→fin l false run n acc=fin (l.drop (k+1)) false [] 0 (flush run acc)
 | k,[],_,_,_,hk,_=>by simp at hk
 | 0,b :: r,run,n,acc,_,h=>by
   have h0:=h 0 b r (by omega) rfl
   simp [fin,h0]
 | k+1,b :: r,run,n,acc,hk,h=>by
   have h0:=h 0 b r (by omega) rfl
   have ih:=fin_skip k r [] 0 (flush run acc) (by simp at hk;omega) (fun j b' r' hj hd=>h (j+1) b' r' (by omega) (by simpa using hd))
   simp only [fin,h0,if_true]
   rw [ih]
   simp [flush,stopB]
theorem enc_one (r:Nat) (h:r≤127):encodeRune (r:Int)=[r.toUInt8]:=by
 unfold encodeRune
 rw [encodeRuneZ_one (by omega) (by omega)]
 simp
theorem enc_two (r:Nat) (h0:192≤r) (h1:r≤255):encodeRune (r:Int)=[195,(r - 64).toUInt8]:=by
 unfold encodeRune
 rw [encodeRuneZ_two (by omega) (by omega)]
 have e1:(192+(r:Int) / 64).toNat=195:=by omega
 have e2:(128+(r:Int) % 64).toNat=r - 64:=by omega
 simp only [List.map_cons,List.map_nil,e1,e2]
 rfl
theorem smA_enc (b:UInt8) (h:ascB b=true):encodeRune (smR b.toNat:Int)=[smA b]:=by
 have hb:=(ascB_iff b).1 h
 rw [enc_one _ (by unfold smR;split <;> omega)]
 congr 1
 rw [u8_eq]
 unfold smR smA
 by_cases hc:65≤b.toNat∧b.toNat≤90
 ·rw [if_pos (Or.inl hc)]
  have:(65≤b && b≤90)=true:=by simp [UInt8.le_iff_toNat_le,hc]
  rw [if_pos this]
  simp [UInt8.toNat_add]
 ·rw [if_neg (by omega)]
  have:¬ (65≤b && b≤90)=true:=by simp [UInt8.le_iff_toNat_le];omega
  rw [if_neg this]
  simp
theorem smC_enc (c:UInt8) (h:cntB c=true):encodeRune (smR (c.toNat+64):Int)=[195,smC c]:=by
 have hb:=(cntB_iff c).1 h
 rw [enc_two _ (by unfold smR;split <;> omega) (by unfold smR;split <;> omega)]
 congr 2
 rw [u8_eq]
 unfold smR smC
 by_cases hc:c.toNat≤158
 ·rw [if_pos (by omega)]
  have:c≤158:=by simp [UInt8.le_iff_toNat_le,hc]
  rw [if_pos this]
  simp [UInt8.toNat_add]
 ·rw [if_neg (by omega)]
  have:¬ c≤158:=by simp [UInt8.le_iff_toNat_le];omega
  rw [if_neg this]
  simp
theorem let_ne {x:List UInt8} (h:IsLet x):x≠[]:=by rcases h with ⟨b,rfl,_⟩ | ⟨c,rfl,_⟩ <;> simp
theorem let_dec {x:List UInt8} (h:IsLet x) (r:List UInt8):encodeRune (smR (decodeL (x++r)).1:Int)=smL x∧(decodeL (x++r)).2=x.length∧isLetR (decodeL (x++r)).1=true:=by
 rcases h with ⟨b,rfl,hb⟩ | ⟨c,rfl,hc⟩
 ·have:=(ascB_iff b).1 hb
  simp only [List.cons_append,List.nil_append,asc_dec b r hb]
  exact ⟨smA_enc b hb,rfl,by unfold isLetR;rw [decide_eq_true_eq];omega⟩
 ·have:=(cntB_iff c).1 hc
  simp only [List.cons_append,List.nil_append,two_dec c r (by omega)]
  exact ⟨smC_enc c hc,rfl,by unfold isLetR;rw [decide_eq_true_eq];omega⟩
theorem runF_lets:∀ (ls:List (List UInt8)) (f n:Nat),(∀ x∈ls,IsLet x)→ls.flatten.length≤f→n≤10→runF f ls.flatten n=(ls.take (10 - n)).flatMap smL
 | [],f,n,_,_,_=>by cases f <;> simp [runF]
 | x :: ls,f,n,h,hf,hn=>by
   have hx:=h x (by simp)
   have hne:=let_ne hx
   have hpos:0 < x.length:=List.length_pos_iff.2 hne
   obtain ⟨f',rfl⟩:∃ f',f=f'+1:=⟨f - 1,by simp at hf;omega⟩
   have hl:(x :: ls).flatten≠[]:=by simp [hne]
   simp only [runF,hl,if_false]
   by_cases h10:n=10
   ·subst h10;simp
   ·rw [if_neg h10]
    rw [List.flatten_cons]
    obtain ⟨e1,e2,_⟩:=let_dec hx ls.flatten
    rw [e1,e2,List.drop_left]
    rw [runF_lets ls f' (n+1) (fun y hy=>h y (by simp [hy])) (by simp only [List.flatten_cons,List.length_append] at hf;omega) (by omega)]
    rw [show 10 - n=(10 - (n+1))+1 by omega,List.take_succ_cons,List.flatMap_cons]
theorem fromRun_lets (ls:List (List UInt8)) (h:∀ x∈ls,IsLet x):fromRun ls.flatten=smT ls:=runF_lets ls _ 0 h (Nat.le_refl _) (by omega)
theorem smL_ne {x:List UInt8} (h:IsLet x):smL x≠[]:=by rcases h with ⟨b,rfl,_⟩ | ⟨c,rfl,_⟩ <;> simp [smL]
theorem smT_ne (ls:List (List UInt8)) (hne:ls≠[]) (h:∀ x∈ls,IsLet x):smT ls≠[]:=by
 match ls,hne with
 | x :: t,_ =>
   have:=smL_ne (h x (by simp))
   simp [smT,this]
theorem smT_snoc (ls:List (List UInt8)) (x:List UInt8):smT (ls++[x])=if ls.length < 10 then smT ls++smL x else smT ls:=by
 unfold smT
 by_cases h:ls.length < 10
 ·rw [if_pos h,List.take_append,List.take_of_length_le (by omega:ls.length≤10),List.flatMap_append]
  congr 1
  obtain ⟨k,hk⟩:∃ k,10 - ls.length=k+1:=⟨10 - ls.length - 1,by omega⟩
  rw [hk];simp
 ·rw [if_neg h,List.take_append_of_le_length (by omega)]
def tk (s:ByteArray) (sp:List (Nat × Nat)):List (List UInt8):=((sp.map fun x=>fromRun (s.extract x.1 x.2).data.toList).filter fun t=>!comB t)
theorem tk_snoc (s:ByteArray) (sp:List (Nat × Nat)) (a b:Nat) (ls:List (List UInt8)) (hne:ls≠[]) (hl:∀ x∈ls,IsLet x) (he:(s.data.toList.drop a).take (b - a)=ls.flatten) :
 tk s (sp++[(a,b)])=flush (smT ls) (tk s sp):=by
 unfold tk flush
 rw [List.map_append,List.filter_append]
 simp only [List.map_cons,List.map_nil,extract_data,he,fromRun_lets ls hl]
 have hn:=smT_ne ls hne hl
 have hn':(smT ls).isEmpty=false:=by simpa using hn
 cases hc:comB (smT ls) <;> simp [stopB,hc,hn']
def Ok (L:List UInt8) (pos:Nat) (st:Option Nat) (ls:List (List UInt8)):Prop :=
 (∀ x∈ls,IsLet x)∧match st with
 | none=>ls=[]
 | some a=>ls≠[]∧a≤pos∧(L.drop a).take (pos - a)=ls.flatten
theorem ok_more (L:List UInt8) (pos:Nat) (st:Option Nat) (ls:List (List UInt8)) (h:Ok L pos st ls) (x r:List UInt8) (hx:IsLet x) (hd:L.drop pos=x++r) :
 Ok L (pos+x.length) (some (st.getD pos)) (ls++[x]):=by
 obtain ⟨hl,hs⟩:=h
 refine ⟨fun y hy=>?_,by simp,?_,?_⟩
 ·rcases List.mem_append.1 hy with h1 | h1
  ·exact hl y h1
  ·simp at h1;subst h1;exact hx
 ·cases st with
  | none=>simp
  | some a=>have:=hs.2.1;simp;omega
 ·have hxp:(L.drop pos).take x.length=x:=by rw [hd];simp
  cases st with
  | none =>
    simp only at hs
    subst hs
    simp only [Option.getD_none,Nat.add_sub_cancel_left,List.nil_append,List.flatten_cons,List.flatten_nil,List.append_nil]
    exact hxp
  | some a =>
    obtain ⟨_,hap,he⟩:=hs
    simp only [Option.getD_some,List.flatten_append,List.flatten_cons,List.flatten_nil,List.append_nil]
    rw [show pos+x.length - a=(pos - a)+x.length by omega,List.take_add,he,List.drop_drop,show a+(pos - a)=pos by omega,hxp]
theorem spans_fin (s:ByteArray):∀ (f pos:Nat) (st:Option Nat) (acc:List (Nat × Nat)) (ls:List (List UInt8)),pos≤s.size→s.size≤pos+f→Ok s.data.toList pos st ls →
 tk s (closeSpans s (spansFromP noLetR s f pos st acc))=fin (s.data.toList.drop pos) false (smT ls) (min 10 ls.length) (tk s acc):=by
 have hsz:s.data.toList.length=s.size:=by simp
 have hend:∀ (pos:Nat) (st:Option Nat) (acc:List (Nat × Nat)) (ls:List (List UInt8)),pos=s.size→Ok s.data.toList pos st ls →
  tk s (closeSpans s (acc,st))=fin (s.data.toList.drop pos) false (smT ls) (min 10 ls.length) (tk s acc):=by
  intro pos st acc ls hp h
  rw [List.drop_of_length_le (by omega)]
  obtain ⟨hl,hs⟩:=h
  cases st with
  | none=>simp only at hs;subst hs;simp [closeSpans,fin,smT,flush,stopB]
  | some a =>
    obtain ⟨h1,h2,h3⟩:=hs
    simp only [closeSpans,fin]
    exact tk_snoc s acc a s.size ls h1 hl (by rw [← hp];exact h3)
 intro f
 induction f with
 | zero =>
   intro pos st acc ls hp hf h
   exact hend pos st acc ls (by omega) h
 | succ f ih =>
   intro pos st acc ls hp hf h
   by_cases hlt:pos < s.size
   ·obtain ⟨b,r,hd⟩:∃ b r,s.data.toList.drop pos=b :: r:=by
     cases hx:s.data.toList.drop pos with
     | nil=>have:=congrArg List.length hx;simp at this;omega
     | cons b r=>exact ⟨b,r,rfl⟩
    have hdec:=decodeL_drop s pos
    have hlen:(s.data.toList.drop pos).length=s.size - pos:=by simp
    have letter:∀ (x rest:List UInt8),IsLet x→b :: r=x++rest→letL b r=smL x→(∀ R n A,fin r (b == 195) R n A=fin rest false R n A) →
     tk s (closeSpans s (spansFromP noLetR s (f+1) pos st acc))=fin (b :: r) false (smT ls) (min 10 ls.length) (tk s acc):=by
     intro x rest hx hbr hlet hrest
     obtain ⟨_,e2,e3⟩:=let_dec hx rest
     rw [← hbr,← hd,hdec] at e2 e3
     have hxl:x.length≤s.size - pos:=by rw [← hlen,hd,hbr];simp
     have hok:=ok_more _ pos st ls h x rest hx (hd.trans hbr)
     have hih:=ih (pos+x.length) (some (st.getD pos)) acc (ls++[x]) (by omega) (by have:=List.length_pos_iff.2 (let_ne hx);omega) hok
     have hsp:spansFromP noLetR s (f+1) pos st acc=spansFromP noLetR s f (pos+x.length) (some (st.getD pos)) acc:=by
      simp only [spansFromP,hlt,if_true,noLetR,e3,e2]
      cases st <;> rfl
     rw [hsp,hih]
     have hdr:s.data.toList.drop (pos+x.length)=rest:=by rw [← List.drop_drop,hd,hbr,List.drop_left]
     rw [hdr]
     simp only [fin,hlet,if_neg (smL_ne hx),hrest]
     rw [smT_snoc]
     by_cases h10:ls.length < 10
     ·rw [if_pos h10,if_pos (by omega),show min 10 (ls++[x]).length=min 10 ls.length+1 by simp;omega]
     ·rw [if_neg h10,if_neg (by omega),show min 10 (ls++[x]).length=min 10 ls.length by simp;omega]
    rw [hd]
    rcases head_cases b r with ⟨ha,hl⟩ | ⟨c,r',rfl,rfl,hc,hl⟩ | hl
    ·refine letter [b] r (Or.inl ⟨b,rfl,ha⟩) rfl hl (fun R n A=>?_)
     have:(b == 195)=false:=by
      have:=(ascB_iff b).1 ha
      rw [beq_eq_false_iff_ne];intro e;rw [e] at this;simp at this
     rw [this]
    ·exact letter [195,c] r' (Or.inr ⟨c,rfl,hc⟩) rfl hl (fun R n A=>rfl)
    ·obtain ⟨n1,n2,n3,n4⟩:=none_dec b r hl
     have e1:=hdec
     rw [hd] at e1
     rw [e1] at n1 n2 n3 n4
     obtain ⟨k,hk⟩:∃ k,(Utf8.decode s pos).2=k+1:=⟨(Utf8.decode s pos).2 - 1,by omega⟩
     rw [hk] at n3 n4
     have hsk:=fin_skip k (b :: r) (smT ls) (min 10 ls.length) (tk s acc) (by omega) n4
     rw [hsk]
     have hdr:(b :: r).drop (k+1)=s.data.toList.drop (pos+(k+1)):=by rw [← hd,List.drop_drop]
     rw [hdr]
     have hkl:k+1≤s.size - pos:=by rw [← hlen,hd];exact n3
     obtain ⟨hL,hs⟩:=h
     cases st with
     | none =>
       simp only at hs
       subst hs
       have hih:=ih (pos+(k+1)) none acc [] (by omega) (by omega) ⟨by simp,rfl⟩
       simp only [spansFromP,hlt,if_true,noLetR,n1,Bool.not_false,hk]
       rw [hih]
       simp [smT,flush,stopB]
     | some a =>
       obtain ⟨h1,h2,h3⟩:=hs
       have hih:=ih (pos+(k+1)) none (acc++[(a,pos)]) [] (by omega) (by omega) ⟨by simp,rfl⟩
       simp only [spansFromP,hlt,if_true,noLetR,n1,Bool.not_false,hk]
       rw [hih,tk_snoc s acc a pos ls h1 hL h3]
       simp [smT]
   ·rw [spansFromP_end _ _ _ _ _ _ hlt]
    exact hend pos st acc ls (by omega) h
theorem fields_toks (s:ByteArray):(((goFieldsP noLetR s).map fun x=>fromRun x.data.toList).filter fun t=>!comB t)=toks s.data.toList:=by
 have h:=spans_fin s s.size 0 none [] [] (by omega) (by omega) ⟨by simp,rfl⟩
 unfold tk at h
 unfold goFieldsP spansOfP toks
 rw [List.map_map]
 exact h
def tot (l:List (List UInt8)):Nat:=(l.map fun t=>t.length+1).sum
theorem tot_snoc (l:List (List UInt8)) (t:List UInt8):tot (l++[t])=tot l+t.length+1:=by simp [tot];omega
theorem tot_flush (run:List UInt8) (l:List (List UInt8)):tot (flush run l)≤tot l+run.length+1:=by
 unfold flush
 split
 ·omega
 ·rw [tot_snoc];omega
theorem fin_tot:∀ (L:List UInt8) (sk:Bool) (run:List UInt8) (n:Nat) (l:List (List UInt8)),tot (fin L sk run n l)≤tot l+run.length+1+(L.length - sk.toNat)
 | [],sk,run,n,l=>by
   have:=tot_flush run l
   simp only [fin]
   omega
 | b :: r,true,run,n,l=>by
   have:=fin_tot r false run n l
   simp only [fin,List.length_cons,Bool.toNat_true,Bool.toNat_false] at this ⊢
   omega
 | b :: r,false,run,n,l=>by
   simp only [fin,List.length_cons,Bool.toNat_false]
   rcases head_cases b r with ⟨ha,hl⟩ | ⟨c,r',rfl,rfl,hc,hl⟩ | hl
   ·have hb:(b == 195)=false:=by
     have:=(ascB_iff b).1 ha
     rw [beq_eq_false_iff_ne];intro e;rw [e] at this;simp at this
    rw [hl,hb,if_neg (by simp)]
    split
    ·have:=fin_tot r false (run++[smA b]) (n+1) l
     simp at this
     omega
    ·have:=fin_tot r false run n l
     simp at this
     omega
   ·rw [hl,if_neg (by simp)]
    have hb:((195:UInt8) == 195)=true:=rfl
    rw [hb]
    split
    ·have:=fin_tot (c :: r') true (run++[195,smC c]) (n+1) l
     simp at this
     simp only [List.length_cons]
     omega
    ·have:=fin_tot (c :: r') true run n l
     simp at this
     simp only [List.length_cons]
     omega
   ·rw [hl,if_pos rfl]
    have h1:=fin_tot r false [] 0 (flush run l)
    have h2:=tot_flush run l
    simp at h1
    omega
theorem join_tot (x:List UInt8) (r:List (List UInt8)):(join (x :: r) [32]).length+1=tot (x :: r):=by
 rw [join_cons,List.length_append]
 have:(joinTail [32] r).length=tot r:=by
  induction r with
  | nil=>rfl
  | cons y r ih=>simp [joinTail,tot] at ih ⊢;omega
 rw [this]
 simp [tot]
 omega
theorem toks_join_le (L:List UInt8):(join (toks L) [32]).length≤L.length:=by
 have h:=fin_tot L false [] 0 []
 rw [show fin L false [] 0 []=toks L from rfl] at h
 simp only [tot,List.map_nil,List.sum_nil,List.length_nil,Bool.toNat_false] at h
 match ht:toks L with
 | []=>simp [join,List.intercalate]
 | x :: r =>
   rw [ht] at h
   have:=join_tot x r
   simp only [tot] at this
   omega
theorem toks_len_le (L:List UInt8):(toks L).length≤L.length+1:=by
 have h:=fin_tot L false [] 0 []
 rw [show fin L false [] 0 []=toks L from rfl] at h
 have h2:∀ l:List (List UInt8),l.length≤tot l:=by
  intro l
  induction l with
  | nil=>simp [tot]
  | cons x r ih=>simp [tot] at ih ⊢;omega
 have:=h2 (toks L)
 simp only [tot,List.map_nil,List.sum_nil,List.length_nil,Bool.toNat_false] at h this
 omega
def SmLet (x:List UInt8):Prop:=(∃ b,x=[b]∧ascB b=true∧smA b=b)∨(∃ c,x=[195,c]∧cntB c=true∧smC c=c)
def GoodRun (t:List UInt8) (n:Nat):Prop:=∃ ls:List (List UInt8),t=ls.flatten∧ls.length=n∧n≤10∧∀ x∈ls,SmLet x
def Good (t:List UInt8):Prop:=stopB t=false∧∃ n,GoodRun t n
theorem smA_id (b:UInt8) (h:¬ (65≤b.toNat∧b.toNat≤90)):smA b=b:=by
 unfold smA
 rw [if_neg (by simp [UInt8.le_iff_toNat_le];omega)]
theorem smC_id (c:UInt8) (h:¬ c.toNat≤158):smC c=c:=by
 unfold smC
 rw [if_neg (by simp [UInt8.le_iff_toNat_le];omega)]
theorem sm_asc (b:UInt8) (h:ascB b=true):ascB (smA b)=true∧smA (smA b)=smA b:=by
 have h1:=(ascB_iff b).1 h
 by_cases hc:65≤b.toNat∧b.toNat≤90
 ·have e:(smA b).toNat=b.toNat+32:=by
   unfold smA
   rw [if_pos (by simp [UInt8.le_iff_toNat_le,hc])]
   simp [UInt8.toNat_add]
   omega
  refine ⟨(ascB_iff _).2 (by omega),?_⟩
  exact smA_id _ (by omega)
 ·have e:smA b=b:=by
   unfold smA
   rw [if_neg (by simp [UInt8.le_iff_toNat_le];omega)]
  rw [e,e]
  exact ⟨h,rfl⟩
theorem sm_cnt (c:UInt8) (h:cntB c=true):cntB (smC c)=true∧smC (smC c)=smC c:=by
 have h1:=(cntB_iff c).1 h
 by_cases hc:c.toNat≤158
 ·have e:(smC c).toNat=c.toNat+32:=by
   unfold smC
   rw [if_pos (by simp [UInt8.le_iff_toNat_le,hc])]
   simp [UInt8.toNat_add]
   omega
  refine ⟨(cntB_iff _).2 (by omega),?_⟩
  exact smC_id _ (by omega)
 ·have e:smC c=c:=by
   unfold smC
   rw [if_neg (by simp [UInt8.le_iff_toNat_le];omega)]
  rw [e,e]
  exact ⟨h,rfl⟩
theorem letL_sm (b:UInt8) (r:List UInt8) (h:letL b r≠[]):SmLet (letL b r):=by
 rcases head_cases b r with ⟨ha,hl⟩ | ⟨c,r',rfl,rfl,hc,hl⟩ | hl
 ·rw [hl];exact Or.inl ⟨smA b,rfl,(sm_asc b ha).1,(sm_asc b ha).2⟩
 ·rw [hl];exact Or.inr ⟨smC c,rfl,(sm_cnt c hc).1,(sm_cnt c hc).2⟩
 ·exact absurd hl h
theorem flush_good (run:List UInt8) (n:Nat) (l:List (List UInt8)) (hr:GoodRun run n) (hl:∀ t∈l,Good t):∀ t∈flush run l,Good t:=by
 unfold flush
 split
 ·exact hl
 ·rename_i hs
  intro t ht
  rcases List.mem_append.1 ht with h1 | h1
  ·exact hl t h1
  ·simp at h1;subst h1;exact ⟨by simpa using hs,n,hr⟩
theorem fin_good:∀ (L:List UInt8) (sk:Bool) (run:List UInt8) (n:Nat) (l:List (List UInt8)),GoodRun run n→(∀ t∈l,Good t)→∀ t∈fin L sk run n l,Good t
 | [],sk,run,n,l,hr,hl=>flush_good run n l hr hl
 | b :: r,true,run,n,l,hr,hl=>fin_good r false run n l hr hl
 | b :: r,false,run,n,l,hr,hl=>by
   simp only [fin]
   split
   ·exact fin_good r false [] 0 _ ⟨[],rfl,rfl,by omega,by simp⟩ (flush_good run n l hr hl)
   ·rename_i hne
    split
    ·rename_i hn
     obtain ⟨ls,h1,h2,h3,h4⟩:=hr
     refine fin_good r _ _ _ l ⟨ls++[letL b r],by simp [h1],by simp [h2],by omega,fun x hx=>?_⟩ hl
     rcases List.mem_append.1 hx with h5 | h5
     ·exact h4 x h5
     ·simp at h5;subst h5;exact letL_sm b r hne
    ·exact fin_good r _ _ _ l hr hl
theorem toks_good (L:List UInt8):∀ t∈toks L,Good t:=fin_good L false [] 0 [] ⟨[],rfl,rfl,by omega,by simp⟩ (by simp)
theorem fin_lets:∀ (ls:List (List UInt8)) (run:List UInt8) (n:Nat) (l:List (List UInt8)),(∀ x∈ls,SmLet x)→n+ls.length≤10 →
 fin ls.flatten false run n l=flush (run++ls.flatten) l
 | [],run,n,l,_,_=>by simp [fin]
 | x :: ls,run,n,l,h,hn=>by
   have ih:=fin_lets ls (run++x) (n+1) l (fun y hy=>h y (by simp [hy])) (by simp at hn;omega)
   have hn10:n < 10:=by simp at hn;omega
   rcases h x (by simp) with ⟨b,rfl,hb,hs⟩ | ⟨c,rfl,hc,hs⟩
   ·have hl:letL b ls.flatten=[b]:=by simp [letL,hb,hs]
    have hb':(b == 195)=false:=by
     have:=(ascB_iff b).1 hb
     rw [beq_eq_false_iff_ne];intro e;rw [e] at this;simp at this
    simp only [List.flatten_cons,List.cons_append,List.nil_append,fin,hl,hb',if_pos hn10]
    rw [if_neg (by simp),ih]
    simp
   ·have ha:ascB 195=false:=rfl
    have hl:letL 195 (c :: ls.flatten)=[195,c]:=by simp [letL,hc,hs,ha]
    simp only [List.flatten_cons,List.cons_append,List.nil_append,fin,hl,if_pos hn10]
    rw [if_neg (by simp)]
    show fin (c :: ls.flatten) true (run++[195,c]) (n+1) l=_
    simp only [fin]
    rw [ih]
    simp
theorem good_toks (t:List UInt8) (h:Good t):toks t=[t]:=by
 obtain ⟨hs,n,ls,h1,h2,h3,h4⟩:=h
 unfold toks
 rw [h1,fin_lets ls [] 0 [] h4 (by omega)]
 rw [← h1,List.nil_append]
 simp [flush,hs]
theorem join_append (a b:List (List UInt8)) (ha:a≠[]) (hb:b≠[]):join (a++b) [32]=join a [32]++32 :: join b [32]:=by
 match a,ha,b,hb with
 | x :: a,_,y :: b,_ =>
   rw [List.cons_append,join_cons,join_cons,join_cons]
   simp [joinTail]
end Go.ScT
namespace Go.ScT
def keyB (b:UInt8):Bool:=(97≤b && b≤122) || (48≤b && b≤57)
def keyOk (l:List UInt8):Bool:=decide (1≤l.length) && decide (l.length≤8) && l.all keyB
theorem keyB_iff (b:UInt8):keyB b=true ↔ ((97≤b.toNat∧b.toNat≤122)∨(48≤b.toNat∧b.toNat≤57)):=by
 simp [keyB,UInt8.le_iff_toNat_le]
end Go.ScT
namespace Go.Proofs.YtaacjjhmojecnaaGreatDoor
open Go.RowKit Go.ScT
theorem ret_boolK {a b:Bool} (h:a=b):Ending.returned (.bool b)=.returned (.bool a):=by rw [h]
set_option maxHeartbeats 400000 in
theorem isKeyByte_any (b:UInt8) (w:World) :
 Calls Tryz.prog 82 #[.int .u8 (b.toNat:Int)] w fun e w'=>e=.returned (.bool (keyB b))∧w'=w:=by
 obtain ⟨z,hz⟩:∃ z:Int,z=(b.toNat:Int):=⟨_,rfl⟩
 have hlt:b.toNat < 256:=UInt8.toNat_lt _
 have hz0:0≤z:=by omega
 have hz1:z < 256:=by omega
 rw [← hz]
 have fin:∀ v:Bool,(((97≤b.toNat∧b.toNat≤122)∨(48≤b.toNat∧b.toNat≤57)) ↔ v=true)→keyB b=v:=by
  intro v h
  rw [← keyB_iff] at h
  cases v <;> simpa using h
 have cs:z≤47∨(48≤z∧z≤57)∨(58≤z∧z≤96)∨(97≤z∧z≤122)∨123≤z:=by omega
 rcases cs with c1 | ⟨c1,c2⟩ | ⟨c1,c2⟩ | ⟨c1,c2⟩ | c1
 ·have H:Hid (keyB b=false):=fin false (by simp;omega)
  clear hz fin
  go_enter Tryz.func82,Tryz.ntmps82
  go_wp2
  go_ret
  exact ⟨ret_boolK H.out,rfl⟩
 ·have H:Hid (keyB b=true):=fin true (by simp;omega)
  clear hz fin
  go_enter Tryz.func82,Tryz.ntmps82
  go_wp2
  go_ret
  exact ⟨ret_boolK H.out,rfl⟩
 ·have H:Hid (keyB b=false):=fin false (by simp;omega)
  clear hz fin
  go_enter Tryz.func82,Tryz.ntmps82
  go_wp2
  go_ret
  exact ⟨ret_boolK (H.out.trans (by symm;simp;omega)),rfl⟩
 ·have H:Hid (keyB b=true):=fin true (by simp;omega)
  clear hz fin
  go_enter Tryz.func82,Tryz.ntmps82
  go_wp2
  go_ret
  exact ⟨ret_boolK H.out,rfl⟩
 ·have H:Hid (keyB b=false):=fin false (by simp;omega)
  clear hz fin
  go_enter Tryz.func82,Tryz.ntmps82
  go_wp2
  go_ret
  exact ⟨ret_boolK (H.out.trans (by symm;simp;omega)),rfl⟩
set_option maxHeartbeats 400000 in
theorem isKey_no (s:ByteArray) (w:World) (hm:s.size≤maxLen) (h:s.size < 1∨8 < s.size) :
 Calls Tryz.prog 46 #[.string s] w fun e w'=>e=.returned (.bool false)∧w'=w:=by
 unfold maxLen at hm
 rcases h with h | h
 ·go_enter Tryz.func46,Tryz.ntmps46
  go_wp2
  go_ret
  exact ⟨rfl,rfl⟩
 ·go_enter Tryz.func46,Tryz.ntmps46
  go_wp2
  go_ret
  exact ⟨rfl,rfl⟩
theorem all_drop (l:List UInt8) (k:Nat) (b:UInt8) (h:l[k]?=some b):(l.drop k).all keyB=(keyB b && (l.drop (k+1)).all keyB):=by
 obtain ⟨h1,h2⟩:=List.getElem?_eq_some_iff.1 h
 rw [List.drop_eq_getElem_cons h1,h2]
 rfl
set_option maxHeartbeats 1000000 in
set_option maxRecDepth 1000000 in
theorem isKey_yes (s:ByteArray) (w:World) (h1:1≤s.size) (h8:s.size≤8) :
 Calls Tryz.prog 46 #[.string s] w fun e w'=>e=.returned (.bool (s.data.toList.all keyB))∧Below w.heap.size w w':=by
 obtain ⟨T,hT⟩:∃ T,s.data.toList.all keyB=T:=⟨_,rfl⟩
 have HT:Hid (s.data.toList.all keyB=T):=hT
 rw [hT]
 clear hT
 have hcv:=Lib.run_convert_string_bytes (P:=Tryz.prog) w 9 51 5 s Tryz.underlying9 Tryz.underlying51 Tryz.underlying5
 have HC:Hid (∀ j,j < s.size→(Lib.bytesWorld w 5 s).cell? ⟨w.heap.size,j,none⟩=some (.int .u8 (s.data.toList.getD j 0).toNat)):=fun j hj=>Lib.bytesWorld_cell w 5 s j hj
 have HB:Hid (Below w.heap.size w (Lib.bytesWorld w 5 s)):=⟨rfl,rfl,rfl,by rw [Lib.bytesWorld_size];omega,fun j hj=>Lib.bytesWorld_at_old w 5 s j hj⟩
 generalize Lib.bytesWorld w 5 s=w1 at hcv HC HB
 generalize grownCap w s.size 0 5=cap at hcv
 go_enter Tryz.func46,Tryz.ntmps46
 go_wp2
 go_loopw [16] (fun s16 wr=>∃ k:Nat,k≤s.size∧s16=.int .i64 (k:Int)∧Hid ((s.data.toList.drop k).all keyB=T)∧wr=w1) (fun s16 _=>s.size - (intOf s16).toNat)
 case atStart=>exact ⟨0,by omega,rfl,HT,rfl⟩
 case round =>
  obtain ⟨k,hk,rfl,HK,rfl⟩:=hrel
  by_cases hlt:k < s.size
  ·have hc:=HC.out k hlt
   obtain ⟨b,hb⟩:∃ b,s.data.toList[k]?=some b:=⟨_,List.getElem?_eq_getElem (by simpa using hlt)⟩
   have hbd:s.data.toList.getD k 0=b:=by simp [List.getD,hb]
   rw [hbd] at hc
   have HA:Hid ((s.data.toList.drop k).all keyB=(keyB b && (s.data.toList.drop (k+1)).all keyB)):=all_drop _ k b hb
   clear hb hbd
   by_cases hkb:keyB b=true
   ·go_wp2_with (go_at_call 82;refine (isKeyByte_any _ _).mono ?_;rintro e w' ⟨rfl,hw⟩;rw [hw];clear hw w')
    go_roundw
    case rel=>exact ⟨k+1,by omega,by go_num,by show _=_;rw [← HK.out,HA.out,hkb];rfl,by first | rfl | trivial⟩
    case measure=>simp [intOf];omega
   ·have hkf:keyB b=false:=by simpa using hkb
    clear hkb
    have HF:Hid (T=false):=show _=_ by rw [← HK.out,HA.out,hkf];rfl
    go_wp2_with (go_at_call 82;refine (isKeyByte_any _ _).mono ?_;rintro e w' ⟨rfl,hw⟩;rw [hw];clear hw w')
    go_ret
    exact ⟨ret_boolK HF.out,HB.out⟩
  ·have HF:Hid (T=true):=show _=_ by
    rw [← HK.out,List.drop_of_length_le (by simp;omega)];rfl
   have hkz:¬ ((k:Int) < (s.size:Int)):=by omega
   go_wp2
   go_ret
   exact ⟨ret_boolK HF.out,HB.out⟩
theorem isKey_any (s:ByteArray) (w:World) (hm:s.size≤maxLen) :
 Calls Tryz.prog 46 #[.string s] w fun e w'=>e=.returned (.bool (keyOk s.data.toList))∧Below w.heap.size w w':=by
 have hsz:s.data.toList.length=s.size:=by simp
 by_cases h:s.size < 1∨8 < s.size
 ·have:keyOk s.data.toList=false:=by
   unfold keyOk
   rw [hsz]
   rcases h with h | h
   ·have:decide (1≤s.size)=false:=decide_eq_false (by omega)
    rw [this];rfl
   ·have:decide (s.size≤8)=false:=decide_eq_false (by omega)
    rw [this];simp
  rw [this]
  exact (isKey_no s w hm h).mono fun e w' ⟨he,hw⟩=>⟨he,hw ▸ Below.refl _ _⟩
 ·have:keyOk s.data.toList=s.data.toList.all keyB:=by
   unfold keyOk
   rw [hsz,decide_eq_true (by omega:1≤s.size),decide_eq_true (by omega:s.size≤8)]
   rfl
  rw [this]
  exact isKey_yes s w (by omega) (by omega)
set_option maxHeartbeats 400000 in
theorem refIsKey_no (s:ByteArray) (w:World) (hm:s.size≤maxLen) (h:s.size < 1∨8 < s.size) :
 Calls Tryz.prog 107 #[.string s] w fun e w'=>e=.returned (.bool false)∧w'=w:=by
 unfold maxLen at hm
 rcases h with h | h
 ·go_enter Tryz.func107,Tryz.ntmps107
  go_wp2
  go_ret
  exact ⟨rfl,rfl⟩
 ·go_enter Tryz.func107,Tryz.ntmps107
  go_wp2
  go_ret
  exact ⟨rfl,rfl⟩
set_option maxHeartbeats 1000000 in
set_option maxRecDepth 1000000 in
theorem refIsKey_yes (s:ByteArray) (w:World) (h1:1≤s.size) (h8:s.size≤8) :
 Calls Tryz.prog 107 #[.string s] w fun e w'=>e=.returned (.bool (s.data.toList.all keyB))∧w'=w:=by
 obtain ⟨T,hT⟩:∃ T,s.data.toList.all keyB=T:=⟨_,rfl⟩
 have HT:Hid (s.data.toList.all keyB=T):=hT
 rw [hT]
 clear hT
 go_enter Tryz.func107,Tryz.ntmps107
 go_wp2
 go_loop [3] (fun s3=>∃ k:Nat,k≤s.size∧s3=.int .i64 (k:Int)∧Hid ((s.data.toList.drop k).all keyB=T)) (fun s3=>s.size - (intOf s3).toNat)
 case atStart=>exact ⟨0,by omega,rfl,HT⟩
 case round =>
  obtain ⟨k,hk,rfl,HK⟩:=hrel
  by_cases hlt:k < s.size
  ·have hb:s.data.toList[k]?=some s[k]:=by rw [List.getElem?_eq_getElem (by simpa using hlt)];rfl
   have HA:Hid ((s.data.toList.drop k).all keyB=(keyB s[k] && (s.data.toList.drop (k+1)).all keyB)):=all_drop _ k _ hb
   clear hb
   have hl:=UInt8.toNat_lt s[k]
   have hkk:=keyB_iff s[k]
   have cs:s[k].toNat≤47∨(48≤s[k].toNat∧s[k].toNat≤57)∨(58≤s[k].toNat∧s[k].toNat≤96)∨(97≤s[k].toNat∧s[k].toNat≤122)∨123≤s[k].toNat:=by omega
   have no:¬ ((97≤s[k].toNat∧s[k].toNat≤122)∨(48≤s[k].toNat∧s[k].toNat≤57))→Hid (T=false):=by
    intro hn
    have:keyB s[k]=false:=by rw [← hkk] at hn;simpa using hn
    show _=_
    rw [← HK.out,HA.out,this];rfl
   have yes:((97≤s[k].toNat∧s[k].toNat≤122)∨(48≤s[k].toNat∧s[k].toNat≤57))→Hid ((s.data.toList.drop (k+1)).all keyB=T):=by
    intro hn
    have:keyB s[k]=true:=hkk.2 hn
    show _=_
    rw [← HK.out,HA.out,this];rfl
   clear hkk HA HK
   rcases cs with c1 | ⟨c1,c2⟩ | ⟨c1,c2⟩ | ⟨c1,c2⟩ | c1
   ·have HF:=no (by omega)
    clear no yes
    have d57:decide ((s[k].toNat:Int)≤57)=true:=by simp;omega
    have d122:decide ((s[k].toNat:Int)≤122)=true:=by simp;omega
    go_wp2
    go_ret
    exact ⟨ret_boolK HF.out,rfl⟩
   ·have HF:=yes (by omega)
    clear no yes
    have d57:decide ((s[k].toNat:Int)≤57)=true:=by simp;omega
    have d122:decide ((s[k].toNat:Int)≤122)=true:=by simp;omega
    go_wp2
    go_round
    case rel=>exact ⟨k+1,by omega,by go_num,HF⟩
    case measure=>simp [intOf];omega
   ·have HF:=no (by omega)
    clear no yes
    have d57:decide ((s[k].toNat:Int)≤57)=false:=by simp;omega
    have d122:decide ((s[k].toNat:Int)≤122)=true:=by simp;omega
    go_wp2
    go_ret
    exact ⟨ret_boolK HF.out,rfl⟩
   ·have HF:=yes (by omega)
    clear no yes
    have d57:decide ((s[k].toNat:Int)≤57)=false:=by simp;omega
    have d122:decide ((s[k].toNat:Int)≤122)=true:=by simp;omega
    go_wp2
    go_round
    case rel=>exact ⟨k+1,by omega,by go_num,HF⟩
    case measure=>simp [intOf];omega
   ·have HF:=no (by omega)
    clear no yes
    have d57:decide ((s[k].toNat:Int)≤57)=false:=by simp;omega
    have d122:decide ((s[k].toNat:Int)≤122)=false:=by simp;omega
    go_wp2
    go_ret
    exact ⟨ret_boolK HF.out,rfl⟩
  ·have HF:Hid (T=true):=show _=_ by
    rw [← HK.out,List.drop_of_length_le (by simp;omega)];rfl
   have hkz:¬ ((k:Int) < (s.size:Int)):=by omega
   go_wp2
   go_ret
   exact ⟨ret_boolK HF.out,rfl⟩
theorem refIsKey_any (s:ByteArray) (w:World) (hm:s.size≤maxLen) :
 Calls Tryz.prog 107 #[.string s] w fun e w'=>e=.returned (.bool (keyOk s.data.toList))∧w'=w:=by
 have hsz:s.data.toList.length=s.size:=by simp
 by_cases h:s.size < 1∨8 < s.size
 ·have:keyOk s.data.toList=false:=by
   unfold keyOk
   rw [hsz]
   rcases h with h | h
   ·have:decide (1≤s.size)=false:=decide_eq_false (by omega)
    rw [this];rfl
   ·have:decide (s.size≤8)=false:=decide_eq_false (by omega)
    rw [this];simp
  rw [this]
  exact refIsKey_no s w hm h
 ·have:keyOk s.data.toList=s.data.toList.all keyB:=by
   unfold keyOk
   rw [hsz,decide_eq_true (by omega:1≤s.size),decide_eq_true (by omega:s.size≤8)]
   rfl
  rw [this]
  exact refIsKey_yes s w (by omega) (by omega)
end Go.Proofs.YtaacjjhmojecnaaGreatDoor
