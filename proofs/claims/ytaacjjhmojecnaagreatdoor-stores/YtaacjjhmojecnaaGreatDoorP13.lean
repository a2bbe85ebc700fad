import Derived.Test.YtaacjjhmojecnaaGreatDoorP12
import Derived.Deep.RegionHeld3
import Derived.Test.YtaacjjhmojecnaaGreatDoorP07
namespace Go.ScT
def tellD:List DocP→Bs
 | []=>[]
 | d :: r=>dec d.1++[58]++d.2.1++[58]++dec d.2.2++[59]++tellD r
def tellP:Pls→Bs
 | []=>[]
 | p :: r=>[44]++dec p.1++[42]++dec p.2++tellP r
def tellL:List Lst→Bs
 | []=>[]
 | l :: r=>l.1++tellP l.2++[59]++tellL r
def listing (c:Cont):Bs:=tellD c.1++tellL c.2
theorem tellD_snoc (a:List DocP) (d:DocP):tellD (a++[d])=tellD a++(dec d.1++[58]++d.2.1++[58]++dec d.2.2++[59]):=by
 induction a with
 | nil=>simp [tellD]
 | cons b r ih=>simp [tellD,ih]
theorem tellP_snoc (a:Pls) (p:Nat × Nat):tellP (a++[p])=tellP a++([44]++dec p.1++[42]++dec p.2):=by
 induction a with
 | nil=>simp [tellP]
 | cons b r ih=>simp [tellP,ih]
theorem tellL_snoc (a:List Lst) (x:Lst):tellL (a++[x])=tellL a++(x.1++tellP x.2++[59]):=by
 induction a with
 | nil=>simp [tellL]
 | cons b r ih=>simp [tellL,ih]
theorem plsFrom_snoc (w:Bs):∀ (a:List DocR) (j:Nat) (d:DocR),plsFrom j (a++[d]) w=plsFrom j a w++(if 0 < d.2.2.count w then [(j+a.length,d.2.2.count w)] else [])
 | [],j,d=>by simp only [List.nil_append,plsFrom,List.length_nil,Nat.add_zero]
 | e :: r,j,d=>by
   have ih:=plsFrom_snoc w r (j+1) d
   rw [show j+1+r.length=j+(r.length+1) by omega] at ih
   simp only [List.cons_append,plsFrom,ih,List.length_cons]
   split <;> simp
theorem dec_len {n:Nat} (h:n≤1000000000):(dec n).length≤10:=by
 have key:∀ k n,n < 10 ^ (k+1)→(dec n).length≤k+1:=by
  intro k
  induction k with
  | zero=>intro n hn;rw [dec_low (by omega)];simp
  | succ k ih =>
    intro n hn
    by_cases h9:n≤9
    ·rw [dec_low h9];simp
    ·rw [dec_high h9]
     have:=ih (n / 10) (by rw [Nat.div_lt_iff_lt_mul (by omega)];rw [Nat.pow_succ] at hn;exact hn)
     simp;omega
 exact key 9 n (by omega)
end Go.ScT
namespace Go.Proofs.YtaacjjhmojecnaaGreatDoor
open Go.RowKit Go.ScT Go.Proofs
theorem ownsRow_heap {w w':World} {base:Nat} {e:TypeId} {size:Nat} {v:Value} {n:Nat} {xs:List Value} (hh:w'.heap=w.heap) (h:w.ownsRow base e size v n xs):w'.ownsRow base e size v n xs:=by
 unfold World.ownsRow at *
 rw [hh]
 exact h
set_option maxHeartbeats 3000000 in
set_option maxRecDepth 1000000 in
theorem tellR_any (w:World) (base g cap n:Nat) (l:List DocR) (tv:List Value) (h:DocsAt w base (.slice (some ⟨g,0,none⟩) n cap) l tv) (hn:n=l.length) (hh:l.length≤100) (hsm:Small l) :
 Calls Tryz.prog 61 #[.slice (some ⟨g,0,none⟩) n cap] w fun e w'=>e=.returned (lstV (listing (cont l)))∧Below w.heap.size w w':=by
 subst hn
 have H0:=hid h
 clear h
 have CD:Hid (∀ (z:Int) (w1:World),0≤z→z≤1000000000→Calls Tryz.prog 115 #[.int .i64 z] w1 fun e w'=>e=.returned (lstV (dec z.toNat))∧w'=w1):=fun z w1 h0 h1=>by
  have:=decimalR_any z.toNat (by omega) w1
  rw [show ((z.toNat:Nat):Int)=z by omega] at this
  exact this
 go_enter Tryz.func61,Tryz.ntmps61
 go_wp2
 go_loopw [3,4] (fun s3 s4 wr=>∃ (i:Nat) (J:Bs),s4=.int .i64 (i:Int)∧s3=lstV J∧i≤l.length∧J.length≤300 * i∧Hid (DocsAt wr base (.slice (some ⟨g,0,none⟩) l.length cap) l tv)∧Hid (Below w.heap.size w wr)∧Hid (tellD ((docsP l).take i)=J)) (fun _ s4 _=>l.length - (intOf s4).toNat)
 case atStart=>exact ⟨0,[],rfl,rfl,by omega,by simp,H0,Below.refl _ _,hid (by simp [tellD])⟩
 case round =>
  obtain ⟨i,J,rfl,rfl,hi,hJ,HD,HB,HT⟩:=hrel
  by_cases hlt:i < l.length
  ·have hlti:(i:Int) < (l.length:Int):=by omega
   obtain ⟨d,hd⟩:∃ d,l[i]?=some d:=⟨_,List.getElem?_eq_getElem hlt⟩
   obtain ⟨t,ht⟩:=HD.out.tok hd
   obtain ⟨c0,c1,c2,_⟩:=HD.out.cells hd ht
   have hrow:=HD.out.toks i d t hd ht
   obtain ⟨gt,tcap,ao,hte,_,hao⟩:=ownsRow_shape hrow
   subst hte
   obtain ⟨hs1,hs2,hs3,hs4⟩:=hsm d (List.mem_of_getElem? hd)
   have hdl1:=dec_len (n:=d.2.1) (by omega)
   have hdl2:=dec_len (n:=d.2.2.length) (by omega)
   have HT2:Hid (tellD ((docsP l).take (i+1))=J++(dec d.2.1++[58]++d.1++[58]++dec d.2.2.length++[59])):=show _=_ by
    have hdp:(docsP l)[i]?=some (d.2.1,d.1,d.2.2.length):=by simp [docsP,hd]
    have:(docsP l).take (i+1)=(docsP l).take i++[(d.2.1,d.1,d.2.2.length)]:=by rw [List.take_add_one,hdp];rfl
    rw [this,tellD_snoc,HT.out]
   clear hd ht hrow
   go_wp2
   go_quiet ((go_at_call 115;refine Calls.quiet_of_same (CD.out _ _ (by omega) (by omega))))
   go_wp2
   go_roundw
   case rel =>
    refine ⟨i+1,J++(dec d.2.1++[58]++d.1++[58]++dec d.2.2.length++[59]),by go_num,?_,by omega,by simp;omega,HD.out.drewN _,below_drewN HB.out _,HT2⟩
    exact congrArg Value.string (by apply ByteArray.ext;simp)
   case measure=>simp [intOf];omega
  ·have hlti:¬ ((i:Int) < (l.length:Int)):=by omega
   have hTD:tellD (docsP l)=J:=by rw [← HT.out,List.take_of_length_le (by simp [docsP];omega)]
   have CW:=hid (wordsR_any wr base g cap l.length l tv HD.out rfl hh hsm)
   have hwl:=wordsTo_len l l.length [] (fun e he=>(hsm e he).2.2.1) hh (by simp)
   rw [wordsTo_all l _ (Nat.le_refl _)] at hwl
   have HLE:Hid (listing (cont l)=J++tellL (listsP l)):=show _=_ by unfold listing cont;rw [← hTD]
   have HWW:Hid (∀ x∈wordsOf l,x.length≤255):=fun x hx=>by
    obtain ⟨d,hd,hxd⟩:=wordsOf_mem.1 hx
    exact (hsm d hd).2.2.2 x hxd
   have HLI:Hid (∀ (k:Nat) (x:Bs),(wordsOf l)[k]?=some x→(listsP l).take (k+1)=(listsP l).take k++[(x,plsFrom 0 l x)]):=fun k x hx=>by
    rw [List.take_add_one]
    simp [listsP,hx]
   have HLT:Hid (∀ k,(wordsOf l).length≤k→(listsP l).take k=listsP l):=fun k hk=>List.take_of_length_le (by simp [listsP];omega)
   generalize wordsOf l=W at *
   clear HT hTD
   have hJ0:J.length≤30000:=by omega
   go_wp2_with (first | (go_at_call 111;refine CW.out.mono ?_;rintro e w2 ⟨v2,rfl,hO2,hb2⟩))
   obtain ⟨gw,wcap,aw,hwe,_,haw⟩:=ownsRow_shape hO2
   subst hwe
   have HD2:=hid (HD.out.below hb2)
   have HB2:=hid (HB.out.trans (hb2.mono HB.out.size))
   have HO2:=hid hO2
   clear hO2 hb2 CW HD HB
   go_loopw [3,6] (fun s3 s6 wr=>∃ (k:Nat) (J2:Bs),s6=.int .i64 (k:Int)∧s3=lstV J2∧k≤W.length∧J2.length≤30000+3500 * k∧∃ q,wr=w2.drewN q∧Hid (J++tellL ((listsP l).take k)=J2)) (fun _ s6 _=>W.length - (intOf s6).toNat)
   case atStart=>exact ⟨0,J,rfl,rfl,by omega,by omega,0,rfl,hid (by simp [tellL])⟩
   case round =>
    obtain ⟨k,J2,rfl,rfl,hk,hJ2,q,rfl,HL⟩:=hrel
    by_cases hkl:k < W.length
    ·have hkli:(k:Int) < (W.length:Int):=by omega
     obtain ⟨x,hx⟩:∃ x,W[k]?=some x:=⟨_,List.getElem?_eq_getElem hkl⟩
     have haw1:=haw (by omega)
     subst haw1
     have cw:w2.cell? ⟨gw,k,none⟩=some (lstV x):=by rw [HO2.out.cellAt k (by omega),List.getElem?_map,hx];rfl
     have hxl:=HWW.out x (List.mem_of_getElem? hx)
     have HLX:=hid (HLI.out k x hx)
     clear hx
     go_wp2
     go_loopw [3,7] (fun s3 s7 wr=>∃ (i:Nat) (J3:Bs),s7=.int .i64 (i:Int)∧s3=lstV J3∧i≤l.length∧J3.length≤30000+3500 * k+255+30 * i∧∃ q,wr=w2.drewN q∧Hid (J2++x++tellP (plsFrom 0 (l.take i) x)=J3)) (fun _ s7 _=>l.length - (intOf s7).toNat)
     case atStart=>exact ⟨0,J2++x,rfl,congrArg Value.string (cat_two _ _),by omega,by simp;omega,q,rfl,hid (by simp [plsFrom,tellP])⟩
     case round =>
      obtain ⟨i2,J3,rfl,rfl,hi2,hJ3,q2,rfl,HP⟩:=hrel
      by_cases hil:i2 < l.length
      ·have hili:(i2:Int) < (l.length:Int):=by omega
       obtain ⟨d,hd⟩:∃ d,l[i2]?=some d:=⟨_,List.getElem?_eq_getElem hil⟩
       obtain ⟨t,ht⟩:=HD2.out.tok hd
       have c2:=(HD2.out.cells hd ht).2.2.1
       have hrow:=HD2.out.toks i2 d t hd ht
       obtain ⟨hs1,hs2,hs3,hs4⟩:=hsm d (List.mem_of_getElem? hd)
       have CC:Hid (∀ w1:World,w1.heap=w2.heap→Calls Tryz.prog 112 #[t,lstV x] w1 fun e w'=>e=.returned (.int .i64 ((d.2.2.count x:Nat):Int))∧w'=w1):=fun w1 hh=>countR_any w1 base t d.2.2 x (ownsRow_heap hh hrow) (by omega)
       obtain ⟨gt,tcap,ao,hte,_,hao⟩:=ownsRow_shape hrow
       subst hte
       have hcl:d.2.2.count x≤40:=Nat.le_trans List.count_le_length hs3
       have HP2:Hid (J2++x++tellP (plsFrom 0 (l.take (i2+1)) x)=if 0 < d.2.2.count x then J3++([44]++dec i2++[42]++dec (d.2.2.count x)) else J3):=show _=_ by
        have ht:l.take (i2+1)=l.take i2++[d]:=by rw [List.take_add_one,hd];rfl
        rw [ht,plsFrom_snoc,← HP.out]
        split
        ·rw [tellP_snoc];simp;rw [show min i2 l.length=i2 by omega]
        ·simp
       clear hrow hd ht
       have hdl1:=dec_len (n:=i2) (by omega)
       have hdl2:=dec_len (n:=d.2.2.count x) (by omega)
       generalize d.2.2.count x=c at *
       by_cases hc0:0 < c
       ·have hc0i:(0:Int) < (c:Int):=by omega
        rw [if_pos hc0] at HP2
        go_wp2
        go_region_held3 (fun w'=>w'.cell? ⟨g,i2 * 3+2,none⟩=some (.slice ao d.2.2.length tcap)∧w'.cell? ⟨gw,k,none⟩=some (lstV x)) (go_keep)
         (first
           | (go_at_call 112;refine (CC.out _ ?_).mono ?_;(exact rfl);rintro e w6 ⟨rfl,hw6⟩;subst hw6))
        go_wp2_with (first | (go_at_call 115;refine (CD.out _ _ (by omega) (by omega)).mono ?_;rintro e w7 ⟨rfl,hw7⟩;rw [hw7];clear hw7 w7))
        go_roundw
        case rel=>exact ⟨i2+1,_,by go_num,congrArg Value.string (by apply ByteArray.ext;simp),by omega,by simp;omega,_,rfl,HP2⟩
        case measure=>simp [intOf];omega
       ·have hc0i:¬ ((0:Int) < (c:Int)):=by omega
        rw [if_neg hc0] at HP2
        go_wp2
        go_region_held3 (fun w'=>w'.cell? ⟨g,i2 * 3+2,none⟩=some (.slice ao d.2.2.length tcap)∧w'.cell? ⟨gw,k,none⟩=some (lstV x)) (go_keep)
         (first
           | (go_at_call 112;refine (CC.out _ ?_).mono ?_;(exact rfl);rintro e w6 ⟨rfl,hw6⟩;subst hw6))
        go_wp2
        go_roundw
        case rel=>exact ⟨i2+1,J3,by go_num,rfl,by omega,by omega,_,rfl,HP2⟩
        case measure=>simp [intOf];omega
      ·have hili:¬ ((i2:Int) < (l.length:Int)):=by omega
       have HL2:Hid (J++tellL ((listsP l).take (k+1))=J3++[59]):=show _=_ by
        have htl:l.take i2=l:=List.take_of_length_le (by omega)
        have hp:=HP.out
        rw [htl] at hp
        rw [HLX.out,tellL_snoc,← hp,← HL.out];simp
       go_wp2
       go_roundw
       case rel=>exact ⟨k+1,J3++[59],by go_num,congrArg Value.string (cat_two _ [59]),by omega,by simp;omega,_,rfl,HL2⟩
       case measure=>simp [intOf];omega
    ·have hkli:¬ ((k:Int) < (W.length:Int)):=by omega
     have HF:Hid (listing (cont l)=J2):=show _=_ by rw [HLE.out,← HL.out,HLT.out k (by omega)]
     go_wp2
     go_ret
     rw [HF.out]
     exact ⟨rfl,below_drewN HB2.out _⟩
end Go.Proofs.YtaacjjhmojecnaaGreatDoor
namespace Go.ScT
theorem foldl_snoc {α β:Type} (f:α→β→α) (i:α) (a:List β) (b:β):(a++[b]).foldl f i=f (a.foldl f i) b:=by simp
theorem take_snoc {α:Type} {l:List α} {k:Nat} {b:α} (h:l[k]?=some b):l.take (k+1)=l.take k++[b]:=by rw [List.take_add_one,h];rfl
theorem fnv_take {l:Bs} {k:Nat} {b:UInt8} (h:l[k]?=some b):fnv (l.take (k+1))=(fnv (l.take k) ^^^ b.toNat) * 16777619 % 4294967296:=by
 rw [take_snoc h]
 exact foldl_snoc _ _ _ _
end Go.ScT
namespace Go.Proofs.YtaacjjhmojecnaaGreatDoor
open Go.RowKit Go.ScT Go.Proofs
theorem xor_u32 (a b:Nat) (ha:a < 4294967296) (hb:b < 4294967296):bits .xor .u32 (a:Int) (b:Int)=((a ^^^ b:Nat):Int):=by
 have hx:a ^^^ b < 2 ^ 32:=Nat.xor_lt_two_pow (by omega) (by omega)
 have h1:(BitVec.ofInt 32 (a:Int)).toNat=a:=by
  rw [BitVec.ofInt_natCast,BitVec.toNat_ofNat];exact Nat.mod_eq_of_lt (by omega)
 have h2:(BitVec.ofInt 32 (b:Int)).toNat=b:=by
  rw [BitVec.ofInt_natCast,BitVec.toNat_ofNat];exact Nat.mod_eq_of_lt (by omega)
 show IntKind.u32.wrap ((BitVec.ofInt 32 (a:Int) ^^^ BitVec.ofInt 32 (b:Int)).toNat:Int)=_
 rw [BitVec.toNat_xor,h1,h2,IntKind.wrap_u32]
 omega
set_option maxHeartbeats 400000 in
set_option maxRecDepth 100000 in
theorem b1_big (n:Nat) (hn:n < 1000000000000) (w:World):Calls Tryz.prog 110 #[.int .i64 (n:Int)] w fun e w'=>e=.returned (lstV [byt n])∧Below w.heap.size w w':=by
 have hc:=fun w=>conv_one ((n:Int) % 256) (byt n) (by rw [byt_toNat];omega) w
 go_enter Tryz.func110,Tryz.ntmps110
 go_wp2
 go_ret
 exact ⟨rfl,(Below.refl _ w).alloc (Nat.le_refl _) _⟩
set_option maxHeartbeats 1000000 in
set_option maxRecDepth 1000000 in
theorem checkR_any (s:ByteArray) (w:World) (hs:s.size≤100000000):Calls Tryz.prog 114 #[.string s] w fun e w'=>e=.returned (lstV (chk s.data.toList))∧Below w.heap.size w w':=by
 have C:Hid (∀ (z:Int) (w:World),0≤z→z < 1000000000000→Calls Tryz.prog 110 #[.int .i64 z] w fun e w'=>e=.returned (lstV [byt z.toNat])∧Below w.heap.size w w'):=fun z w h0 h1=>by
  have:=b1_big z.toNat (by omega) w
  rw [show ((z.toNat:Nat):Int)=z by omega] at this
  exact this
 have hsz:s.data.toList.length=s.size:=by simp
 go_enter Tryz.func114,Tryz.ntmps114
 go_wp2
 go_loopw [3,4] (fun s3 s4 wr=>∃ (k h:Nat),s4=.int .i64 (k:Int)∧s3=.int .u32 (h:Int)∧k≤s.size∧h < 4294967296∧wr=w∧Hid (fnv (s.data.toList.take k)=h)) (fun _ s4 _=>s.size - (intOf s4).toNat)
 case atStart=>exact ⟨0,2166136261,rfl,rfl,by omega,by omega,rfl,rfl⟩
 case round =>
  obtain ⟨k,h,rfl,rfl,hk,hh,rfl,HH⟩:=hrel
  by_cases hlt:k < s.size
  ·have hlti:(k:Int) < (s.size:Int):=by omega
   go_wp2
   go_roundw
   case rel =>
    have hb:=s[k].toNat_lt
    have hx:s.data.toList[k]?=some s[k]:=by rw [List.getElem?_eq_getElem (by omega)];rfl
    have e1:((s[k].toNat:Int) % 4294967296)=((s[k].toNat:Nat):Int):=by omega
    have hxl:h ^^^ s[k].toNat < 2 ^ 32:=Nat.xor_lt_two_pow (by omega) (by omega)
    refine ⟨k+1,(h ^^^ s[k].toNat) * 16777619 % 4294967296,by go_num,?_,by omega,Nat.mod_lt _ (by omega),trivial,hid ?_⟩
    ·rw [e1,xor_u32 _ _ hh (by omega)]
     simp
    ·rw [fnv_take hx,HH.out]
   case measure=>simp [intOf];omega
  ·have hlti:¬ ((k:Int) < (s.size:Int)):=by omega
   have HE:Hid (chk s.data.toList=leB 4 h):=show _=_ by rw [← HH.out,List.take_of_length_le (by omega)];rfl
   go_wp2_with (first
    | (go_at_call 110;refine (C.out _ _ (by omega) (by omega)).mono ?_;first | (have _h3:=hb3;rintro e w4 ⟨rfl,hb4⟩) | (have _h2:=hb2;rintro e w3 ⟨rfl,hb3⟩) | (have _h1:=hb1;rintro e w2 ⟨rfl,hb2⟩) | (rintro e w1 ⟨rfl,hb1⟩)))
   go_ret
   rw [HE.out]
   refine ⟨?_,((hb1.trans (hb2.mono hb1.size)).trans (hb3.mono (Nat.le_trans hb1.size hb2.size))).trans (hb4.mono (Nat.le_trans (Nat.le_trans hb1.size hb2.size) hb3.size))⟩
   have e4:leB 4 h=[byt h,byt (h / 256),byt (h / 65536),byt (h / 16777216)]:=by
    simp only [leB,Nat.div_div_eq_div_mul]
   rw [e4]
   exact ret_str (a:=[byt h,byt (h / 256),byt (h / 65536),byt (h / 16777216)]) rfl
end Go.Proofs.YtaacjjhmojecnaaGreatDoor
