import Derived.Test.YtaacjjhmojecnaaGreatDoorP03
import Derived.Test.YtaacjjhmojecnaaGreatDoorRows
import Derived.Test.YtaacjjhmojecnaaGreatDoorP01
import Derived.WalkKit
import Derived.WalkSpells
import Derived.WalkLawsBesides
import Derived.BigQuiet
namespace Go.ScT
theorem sumAt_append (a b:List Lst) (i:Nat):sumAt (a++b) i=sumAt a i+sumAt b i:=by simp [sumAt]
theorem cntAt_append (a b:Pls) (i:Nat):cntAt (a++b) i=cntAt a i+cntAt b i:=by simp [cntAt]
theorem sumAt_one (w:Bs) (b:Pls) (i:Nat):sumAt [(w,b)] i=cntAt b i:=by simp [sumAt,cntAt]
theorem toksAt_append (a b:List Lst) (i:Nat):toksAt (a++b) i=toksAt a i++toksAt b i:=by simp [toksAt]
theorem toksAt_one (w:Bs) (b:Pls) (i:Nat):toksAt [(w,b)] i=List.replicate (cntAt b i) w:=by simp [toksAt]
theorem docsFrom_congr {a b:List Lst} (h:∀ i,toksAt a i=toksAt b i):∀ (ds:List DocP) (i:Nat),docsFrom a i ds=docsFrom b i ds
 | [],_=>rfl
 | d :: r,i=>by simp only [docsFrom,h i,docsFrom_congr h r (i+1)]
theorem docs_nil (done:List Lst) (w:Bs) (ds:List DocP):docsFrom (done++[(w,[])]) 0 ds=docsFrom done 0 ds :=
 docsFrom_congr (fun i=>by rw [toksAt_append,toksAt_one];simp [cntAt]) ds 0
theorem docs_add (done:List Lst) (w:Bs) (b:Pls) (p:Nat × Nat) (ds:List DocP):addT (docsFrom (done++[(w,b)]) 0 ds) p.1 p.2 w=docsFrom (done++[(w,b++[p])]) 0 ds:=by
 apply List.ext_getElem?
 intro i
 rw [addT,List.getElem?_modify,docsFrom_get,docsFrom_get]
 cases hd:ds[i]? with
 | none=>simp
 | some d =>
   simp only [Option.map_some,Nat.zero_add]
   have e:toksAt (done++[(w,b++[p])]) i=if p.1=i then toksAt (done++[(w,b)]) i++List.replicate p.2 w else toksAt (done++[(w,b)]) i:=by
    simp only [toksAt_append,toksAt_one,cntAt_append]
    rw [cntAt_cons]
    by_cases h:p.1=i
    ·simp only [if_pos h,cntAt,List.filter_nil,List.map_nil,List.sum_nil,Nat.add_zero,List.append_assoc]
     rw [← List.replicate_append_replicate]
    ·simp [h,cntAt]
   rw [e]
   by_cases h:p.1=i <;> simp [h]
theorem toksL_docs (ls:List Lst) (ds:List DocP) (i:Nat) (hi:i < ds.length):toksL (docsFrom ls 0 ds) i=sumAt ls i:=by
 unfold toksL
 rw [docsFrom_get,List.getElem?_eq_getElem hi]
 simp [toksAt_len]
theorem rPut_ok {w:Bs} {done:List Lst} {ds:List DocP}:∀ {b b1:Pls} {next:Nat},Ris ds.length next b→(∀ i,sumAt (done++[(w,b1++b)]) i≤40)→b≠[] →
 rPut w (stp next b) (rep b) next (docsFrom (done++[(w,b1)]) 0 ds)=(false,lastO b+1,docsFrom (done++[(w,b1++b)]) 0 ds)
 | [],_,_,_,_,h=>absurd rfl h
 | p :: r,b1,next,⟨h1,h2,h3,h4⟩,hs,_=>by
   have e1:next+(p.1 - next)=p.1:=by omega
   have e2:p.2 - 1+1=p.2:=by omega
   have hroom:¬ (40≤toksL (docsFrom (done++[(w,b1)]) 0 ds) p.1+(p.2 - 1)):=by
    rw [toksL_docs _ _ _ h2]
    have:=hs p.1
    rw [sumAt_append,sumAt_one,cntAt_append,cntAt_cons,if_pos rfl] at this
    rw [sumAt_append,sumAt_one]
    omega
   have hlt:¬ (docsFrom (done++[(w,b1)]) 0 ds).length≤p.1:=by rw [docsFrom_len];omega
   simp only [stp,rep,List.map_cons,rPut,e1,e2]
   rw [if_neg (by rintro (h | h);exact hlt h;exact hroom h),docs_add]
   cases r with
   | nil=>simp [stp,rPut,lastO]
   | cons q r' =>
     have ih:=@rPut_ok w done ds (q :: r') (b1++[p]) (p.1+1) h4 (by intro i;have:=hs i;rwa [List.append_assoc]) (by simp)
     simp only [rep] at ih
     rw [ih]
     simp [lastO]
theorem rHead_ok {a b c:Nat} (t:Bs) (h1:a≤100) (h2:b≤40) (h3:c≤40):rHead (vi a++vi b++vi c++t,false)=(t,false):=by
 unfold rHead
 rw [List.append_assoc,List.append_assoc,rVar_ok _ h1 (by omega)]
 simp only
 rw [rVar_ok _ h2 (by omega)]
 simp only
 rw [rVar_ok _ h3 (by omega)]
theorem rBlks_ok {w:Bs} {done:List Lst} {ds:List DocP} (hn:ds.length≤100) (t:Bs):∀ {f next:Nat} {b b1:Pls},b.length≤f→LV (lensOf ds) next b→(∀ i,sumAt (done++[(w,b1++b)]) i≤40) →
 rBlks w f b.length next (docsFrom (done++[(w,b1)]) 0 ds) (encPls (lensOf ds) f next b++t,false)=(docsFrom (done++[(w,b1++b)]) 0 ds,(t,false))
 | 0,next,b,b1,hf,_,_=>by
   have:b=[]:=List.length_eq_zero_iff.1 (by omega)
   subst this
   simp [rBlks,encPls]
 | f+1,next,b,b1,hf,hv,hs=>by
   by_cases hb:b=[]
   ·subst hb;simp [rBlks,encPls]
   ·have hpos:0 < b.length:=List.length_pos_iff.2 hb
    have htn:b.take 4≠[]:=by simp [hb]
    have hv':=hv
    rw [← List.take_append_drop 4 b,LV_append htn] at hv'
    obtain ⟨hva,hvb⟩:=hv'
    have hm:=hva.mem
    have hra:=hva.ris
    rw [lensOf_len] at hra
    have hlast:lastO (b.take 4)≤100:=by
     obtain ⟨p,hp,e⟩:=lastO_mem htn
     have:=hm p hp
     rw [lensOf_len] at this
     omega
    have hmx:mxC (b.take 4)≤40:=mxC_le.2 fun p hp=>(hm p hp).2.2.2.1
    have hlen:(b.take 4).length=min 4 b.length:=by simp
    have eh:rHead (encPls (lensOf ds) (f+1) next b++t,false)=(body (stp next (b.take 4)) (rep (b.take 4))++(encPls (lensOf ds) f (lastO (b.take 4)+1) (b.drop 4)++t),false):=by
     simp only [encPls,if_neg hb,encBlk]
     rw [List.append_assoc,List.append_assoc]
     exact rHead_ok _ hlast hmx (mnL_le _ _)
    have es:=@rSteps_ok (stp next (b.take 4)) (rep (b.take 4)) (min 4 b.length) (encPls (lensOf ds) f (lastO (b.take 4)+1) (b.drop 4)++t) (by omega) (by rw [stp_len,hlen]) (by rw [rep_len,hlen])
     (fun x hx=>by have:=stp_le hra x hx;omega) (fun x hx=>by
       simp only [rep,List.mem_map] at hx
       obtain ⟨p,hp,rfl⟩:=hx
       have:=hm p hp
       omega)
    have hs1:∀ i,sumAt (done++[(w,b1++b.take 4)]) i≤40:=by
     intro i
     have:=hs i
     rw [sumAt_append,sumAt_one,cntAt_append] at this ⊢
     have h2:cntAt b i=cntAt (b.take 4) i+cntAt (b.drop 4) i:=by rw [← cntAt_append,List.take_append_drop]
     omega
    have ep:=@rPut_ok w done ds (b.take 4) b1 next hra hs1 htn
    have hs2:∀ i,sumAt (done++[(w,(b1++b.take 4)++b.drop 4)]) i≤40:=by
     intro i
     rw [List.append_assoc,List.take_append_drop]
     exact hs i
    have ih:=@rBlks_ok w done ds hn t f (lastO (b.take 4)+1) (b.drop 4) (b1++b.take 4) (by simp;omega) hvb hs2
    have hd:(b.drop 4).length=b.length - min 4 b.length:=by simp;omega
    rw [hd] at ih
    simp only [rBlks]
    rw [if_neg (by simp;omega),eh,es]
    simp only [Bool.false_eq_true,if_false,ep]
    rw [ih,List.append_assoc,List.take_append_drop]
theorem rTok_ok {l:Lst} {done:List Lst} {ds:List DocP} (hn:ds.length≤100) (t:Bs) (ht:isTok l.1=true) (h2:l.2.length≤ds.length) (hv:LV (lensOf ds) 0 l.2) (hs:∀ i,sumAt (done++[l]) i≤40) :
 rTok (docsFrom done 0 ds) (encList (lensOf ds) l++t,false)=(docsFrom (done++[l]) 0 ds,(t,false)):=by
 obtain ⟨w,b⟩:=l
 have e1:rText (encList (lensOf ds) (w,b)++t,false)=(w,(vi b.length++(encPls (lensOf ds) b.length 0 b++t),false)):=by
  rw [show encList (lensOf ds) (w,b)++t=nm w++(vi b.length++(encPls (lensOf ds) b.length 0 b++t)) by simp [encList]]
  exact rText_ok _ (by have:=isTok_len ht;simp at this;omega)
 have e2:rVar (docsFrom done 0 ds).length (vi b.length++(encPls (lensOf ds) b.length 0 b++t),false)=(b.length,(encPls (lensOf ds) b.length 0 b++t,false)):=by
  rw [docsFrom_len];exact rVar_ok _ h2 (by omega)
 simp only [rTok,e1,e2]
 have:=@rBlks_ok w done ds hn t b.length 0 b [] (Nat.le_refl _) hv (by simpa using hs)
 rw [docs_nil] at this
 simpa using this
theorem rLists_ok {ds:List DocP} (hn:ds.length≤100) (t:Bs):∀ {ls done:List Lst} {before:Bs},OkLists (lensOf ds) before ls→(∀ i,sumAt (done++ls) i≤40) →
 rLists ls.length (docsFrom done 0 ds) (encLists (lensOf ds) ls++t,false)=(docsFrom (done++ls) 0 ds,(t,false))
 | [],done,_,_,_=>by simp [rLists,encLists]
 | l :: ls,done,before,⟨h1,h2,h3,h4,h5,h6⟩,hs=>by
   have hs1:∀ i,sumAt (done++[l]) i≤40:=by
    intro i
    have:=hs i
    rw [show done++l :: ls=(done++[l])++ls by simp,sumAt_append] at this
    omega
   have e:=@rTok_ok l done ds hn (encLists (lensOf ds) ls++t) h1 (by rw [lensOf_len] at h4;exact h4) h5 hs1
   have ih:=@rLists_ok ds hn t ls (done++[l]) l.1 h6 (by intro i;have:=hs i;rwa [List.append_assoc])
   simp only [List.length_cons,rLists,Bool.false_eq_true,if_false,encLists,List.append_assoc]
   rw [e]
   simp only
   rw [ih]
   simp
theorem docsFrom_shift:∀ {ds:List DocP} {i j:Nat},docsFrom [] i ds=docsFrom [] j ds
  | [],_,_=>rfl
  | d :: r,i,j=>by simp only [docsFrom];rw [docsFrom_shift (ds:=r) (i:=i+1) (j:=j+1)];simp [toksAt]
theorem rDocs_ok (t:Bs):∀ {ds:List DocP} {before:Nat} {seen:List Bs},OkDocs before seen ds→rDocs ds.length before (encDocs before ds++t,false)=(docsFrom [] 0 ds,(t,false))
 | [],_,_,_=>by simp [rDocs,encDocs,docsFrom]
 | d :: r,before,seen,⟨h1,h2,h3,h4,h5,h6⟩=>by
   have e1:rVar 100 (encDocs before (d :: r)++t,false)=(d.1 - before,(vi d.2.2++(nm d.2.1++(encDocs d.1 r++t)),false)):=by
    rw [show encDocs before (d :: r)++t=vi (d.1 - before)++(vi d.2.2++(nm d.2.1++(encDocs d.1 r++t))) by simp [encDocs]]
    exact rVar_ok _ (by omega) (by omega)
   have e2:rVar 40 (vi d.2.2++(nm d.2.1++(encDocs d.1 r++t)),false)=(d.2.2,(nm d.2.1++(encDocs d.1 r++t),false)):=rVar_ok _ h3 (by omega)
   have e3:rText (nm d.2.1++(encDocs d.1 r++t),false)=(d.2.1,(encDocs d.1 r++t,false)):=rText_ok _ (by have:=keyOk_len h4;omega)
   have ih:=rDocs_ok t h6
   have en:before+(d.1 - before)=d.1:=by omega
   simp only [List.length_cons,rDocs,Bool.false_eq_true,if_false,e1,e2,e3,en,ih]
   simp only [docsFrom]
   rw [docsFrom_shift (ds:=r) (i:=0) (j:=0+1)]
   simp [toksAt]
theorem rRead_ok {c:Cont} (h:VC c):rRead (wrt c)=some (docsOf c):=by
 obtain ⟨ds,ls⟩:=c
 have hlen:=h.most
 have hsum:∀ i,sumAt ([]++ls) i≤40:=by
  intro i
  rw [List.nil_append]
  by_cases hi:i < ds.length
  ·have e:=vc_lens h (i:=i) (d:=ds[i]) (List.getElem?_eq_getElem hi)
   rw [toksAt_len] at e
   have:=(okDocs_mem h.docs ds[i] (List.getElem_mem hi)).2.2.1
   simp only at e
   omega
  ·have:sumAt ls i=0:=by
    unfold sumAt
    have hf:(ls.flatMap (·.2)).filter (·.1 == i)=[]:=by
     rw [List.filter_eq_nil_iff]
     intro p hp
     obtain ⟨l,hl,hpl⟩:=List.mem_flatMap.1 hp
     have:=((okLists_mem h.lists l hl).2.2.2.mem p hpl).2.1
     rw [lensOf_len] at this
     simp only at this
     simp
     omega
    rw [hf]
    rfl
   omega
 have e0:wrt (ds,ls)=byt 83 :: (byt 71 :: (vi ds.length++(encDocs 0 ds++(vi ls.length++(encLists (lensOf ds) ls++chk (encC (ds,ls))))))):=by
  simp [wrt,encC,byt]
 have e1:=rByte_ok 83 (byt 71 :: (vi ds.length++(encDocs 0 ds++(vi ls.length++(encLists (lensOf ds) ls++chk (encC (ds,ls))))))) (by omega)
 have e2:=rByte_ok 71 (vi ds.length++(encDocs 0 ds++(vi ls.length++(encLists (lensOf ds) ls++chk (encC (ds,ls)))))) (by omega)
 have e3:=@rVar_ok 100 ds.length (encDocs 0 ds++(vi ls.length++(encLists (lensOf ds) ls++chk (encC (ds,ls))))) hlen (by omega)
 have e4:=rDocs_ok (vi ls.length++(encLists (lensOf ds) ls++chk (encC (ds,ls)))) h.docs
 have e5:=@rVar_ok 4000 ls.length (encLists (lensOf ds) ls++chk (encC (ds,ls))) h.few (by omega)
 have e6:=rLists_ok hlen (chk (encC (ds,ls))) h.lists hsum
 simp only at e4 e6
 unfold rRead
 rw [e0]
 simp only [e1,e2,ne_eq,not_true,if_false,e3,e4,e5,e6]
 simp [docsOf]
end Go.ScT
namespace Go.Proofs.YtaacjjhmojecnaaGreatDoor
open Go.RowKit Go.ScT
theorem conv_one (z:Int) (x:UInt8) (hz:(x.toNat:Int)=z) (w:World):(convert 51 9 (.slice (some ⟨w.heap.size,0,none⟩) 1 1)).run Tryz.prog (w.alloc (.cells #[.int .u8 z] 5))=.ok (.string ⟨#[x]⟩) (w.alloc (.cells #[.int .u8 z] 5)):=by
 subst hz
 refine run_convert_bytes_back (P:=Tryz.prog) (w.alloc (.cells #[.int .u8 (x.toNat:Int)] 5)) 51 9 5 ⟨w.heap.size,0,none⟩ 1 [x] Tryz.underlying51 Tryz.underlying5 Tryz.underlying9 ?_
 intro j hj
 obtain rfl:j=0:=by simp at hj;omega
 exact cell_one_new w (.int .u8 (x.toNat:Int)) 5 0 _ rfl
theorem conv_two (z u:Int) (x y:UInt8) (hz:(x.toNat:Int)=z) (hu:(y.toNat:Int)=u) (w:World):(convert 51 9 (.slice (some ⟨w.heap.size,0,none⟩) 2 2)).run Tryz.prog (w.alloc (.cells #[.int .u8 z,.int .u8 u] 5))=.ok (.string ⟨#[x,y]⟩) (w.alloc (.cells #[.int .u8 z,.int .u8 u] 5)):=by
 subst hz
 subst hu
 refine run_convert_bytes_back (P:=Tryz.prog) (w.alloc (.cells #[.int .u8 (x.toNat:Int),.int .u8 (y.toNat:Int)] 5)) 51 9 5 ⟨w.heap.size,0,none⟩ 2 [x,y] Tryz.underlying51 Tryz.underlying5 Tryz.underlying9 ?_
 intro j hj
 have:j=0∨j=1:=by simp at hj;omega
 rcases this with rfl | rfl <;> simp [Addr.add]
theorem ret_two {a b:ByteArray} {k m:Int} (h:a=b) (h2:k=m):Ending.returned (.tuple #[.string a,.int .i64 k])=.returned (.tuple #[.string b,.int .i64 m]):=by rw [h,h2]
theorem add32 (x:UInt8) (h:x.toNat≤190):((x+32).toNat:Int)=(x.toNat:Int)+32:=by
 simp [UInt8.toNat_add]
 omega
theorem ext_one (s:ByteArray) (n:Nat) (h:n < s.size):s.extract n (n+1)=⟨#[s[n]]⟩:=by
 apply ByteArray.ext
 have:(s.extract n (n+1)).data.toList=[s[n]]:=by
  rw [Lib.extract_data,List.drop_eq_getElem_cons (by simpa using h)]
  simp
  rfl
 apply Array.toList_inj.1
 rw [this]
set_option maxHeartbeats 400000 in
set_option maxRecDepth 100000 in
theorem letter_d (s:ByteArray) (n:Nat) (w:World) (hn:n < s.size) (hs:s.size≤1000000) (h1:48≤s[n].toNat) (h2:s[n].toNat≤57) :
 Calls Tryz.prog 101 #[.string s,.int .i64 (n:Int)] w fun e w'=>e=.returned (.tuple #[.string ⟨#[s[n]]⟩,.int .i64 1])∧Below w.heap.size w w':=by
 have H:Hid (s.extract n (n+1)=⟨#[s[n]]⟩):=ext_one s n hn
 go_enter Tryz.func101,Tryz.ntmps101
 go_wp2
 go_ret2
 exact ⟨ret_two H.out rfl,Below.refl _ _⟩
set_option maxHeartbeats 400000 in
set_option maxRecDepth 100000 in
theorem letter_l (s:ByteArray) (n:Nat) (w:World) (hn:n < s.size) (hs:s.size≤1000000) (h1:97≤s[n].toNat) (h2:s[n].toNat≤122) :
 Calls Tryz.prog 101 #[.string s,.int .i64 (n:Int)] w fun e w'=>e=.returned (.tuple #[.string ⟨#[s[n]]⟩,.int .i64 1])∧Below w.heap.size w w':=by
 have H:Hid (s.extract n (n+1)=⟨#[s[n]]⟩):=ext_one s n hn
 go_enter Tryz.func101,Tryz.ntmps101
 go_wp2
 go_ret2
 exact ⟨ret_two H.out rfl,Below.refl _ _⟩
set_option maxHeartbeats 400000 in
set_option maxRecDepth 100000 in
theorem letter_u (s:ByteArray) (n:Nat) (w:World) (hn:n < s.size) (_hs:s.size≤1000000) (h1:65≤s[n].toNat) (h2:s[n].toNat≤90) :
 Calls Tryz.prog 101 #[.string s,.int .i64 (n:Int)] w fun e w'=>e=.returned (.tuple #[.string ⟨#[s[n]+32]⟩,.int .i64 1])∧Below w.heap.size w w':=by
 have hcv:=conv_one ((s[n].toNat:Int)+32) (s[n]+32) (add32 _ (by omega)) w
 go_enter Tryz.func101,Tryz.ntmps101
 go_wp2
 go_ret2
 exact ⟨rfl,(Below.refl _ _).alloc (Nat.le_refl _) _⟩
set_option maxHeartbeats 400000 in
set_option maxRecDepth 100000 in
theorem letter_n0 (s:ByteArray) (n:Nat) (w:World) (hn:n < s.size) (_hs:s.size≤1000000) (h1:s[n].toNat < 48) :
 Calls Tryz.prog 101 #[.string s,.int .i64 (n:Int)] w fun e w'=>e=.returned (.tuple #[.string ⟨#[]⟩,.int .i64 1])∧Below w.heap.size w w':=by
 go_enter Tryz.func101,Tryz.ntmps101
 go_wp2
 go_ret2
 exact ⟨rfl,Below.refl _ _⟩
set_option maxHeartbeats 400000 in
set_option maxRecDepth 100000 in
theorem letter_n1 (s:ByteArray) (n:Nat) (w:World) (hn:n < s.size) (_hs:s.size≤1000000) (h1:57 < s[n].toNat) (h2:s[n].toNat < 65) :
 Calls Tryz.prog 101 #[.string s,.int .i64 (n:Int)] w fun e w'=>e=.returned (.tuple #[.string ⟨#[]⟩,.int .i64 1])∧Below w.heap.size w w':=by
 go_enter Tryz.func101,Tryz.ntmps101
 go_wp2
 go_ret2
 exact ⟨rfl,Below.refl _ _⟩
set_option maxHeartbeats 400000 in
set_option maxRecDepth 100000 in
theorem letter_n2 (s:ByteArray) (n:Nat) (w:World) (hn:n < s.size) (_hs:s.size≤1000000) (h1:90 < s[n].toNat) (h2:s[n].toNat < 97) :
 Calls Tryz.prog 101 #[.string s,.int .i64 (n:Int)] w fun e w'=>e=.returned (.tuple #[.string ⟨#[]⟩,.int .i64 1])∧Below w.heap.size w w':=by
 go_enter Tryz.func101,Tryz.ntmps101
 go_wp2
 go_ret2
 exact ⟨rfl,Below.refl _ _⟩
set_option maxHeartbeats 400000 in
set_option maxRecDepth 100000 in
theorem letter_n3 (s:ByteArray) (n:Nat) (w:World) (hn:n < s.size) (_hs:s.size≤1000000) (h1:122 < s[n].toNat) (h2:s[n].toNat < 195) :
 Calls Tryz.prog 101 #[.string s,.int .i64 (n:Int)] w fun e w'=>e=.returned (.tuple #[.string ⟨#[]⟩,.int .i64 1])∧Below w.heap.size w w':=by
 go_enter Tryz.func101,Tryz.ntmps101
 go_wp2
 go_ret2
 exact ⟨rfl,Below.refl _ _⟩
set_option maxHeartbeats 400000 in
set_option maxRecDepth 100000 in
theorem letter_n4 (s:ByteArray) (n:Nat) (w:World) (hn:n < s.size) (_hs:s.size≤1000000) (h1:195 < s[n].toNat) :
 Calls Tryz.prog 101 #[.string s,.int .i64 (n:Int)] w fun e w'=>e=.returned (.tuple #[.string ⟨#[]⟩,.int .i64 1])∧Below w.heap.size w w':=by
 go_enter Tryz.func101,Tryz.ntmps101
 go_wp2
 go_ret2
 exact ⟨rfl,Below.refl _ _⟩
set_option maxHeartbeats 400000 in
set_option maxRecDepth 100000 in
theorem letter_e (s:ByteArray) (n:Nat) (w:World) (hn:n < s.size) (hs:s.size≤1000000) (h1:s[n]=195) (h2:n+1=s.size) :
 Calls Tryz.prog 101 #[.string s,.int .i64 (n:Int)] w fun e w'=>e=.returned (.tuple #[.string ⟨#[]⟩,.int .i64 1])∧Below w.heap.size w w':=by
 have h3:(s[n].toNat:Int)=195:=by rw [h1];rfl
 have h4:((n:Int)+1 == (s.size:Int))=true:=by simp;omega
 clear h1 h2
 go_enter Tryz.func101,Tryz.ntmps101
 go_wp2
 go_ret2
 exact ⟨rfl,Below.refl _ _⟩
set_option maxHeartbeats 400000 in
set_option maxRecDepth 100000 in
theorem letter_c0 (s:ByteArray) (n:Nat) (w:World) (hn:n < s.size) (hs:s.size≤1000000) (h1:s[n]=195) (h2:n+1 < s.size) (h5:s[n+1].toNat < 128) :
 Calls Tryz.prog 101 #[.string s,.int .i64 (n:Int)] w fun e w'=>e=.returned (.tuple #[.string ⟨#[]⟩,.int .i64 1])∧Below w.heap.size w w':=by
 have h3:(s[n].toNat:Int)=195:=by rw [h1];rfl
 have h4:((n:Int)+1 == (s.size:Int))=false:=by simp;omega
 clear h1
 go_enter Tryz.func101,Tryz.ntmps101
 go_wp2
 go_ret2
 exact ⟨rfl,Below.refl _ _⟩
set_option maxHeartbeats 400000 in
set_option maxRecDepth 100000 in
theorem letter_c1 (s:ByteArray) (n:Nat) (w:World) (hn:n < s.size) (hs:s.size≤1000000) (h1:s[n]=195) (h2:n+1 < s.size) (h5:191 < s[n+1].toNat) :
 Calls Tryz.prog 101 #[.string s,.int .i64 (n:Int)] w fun e w'=>e=.returned (.tuple #[.string ⟨#[]⟩,.int .i64 1])∧Below w.heap.size w w':=by
 have h3:(s[n].toNat:Int)=195:=by rw [h1];rfl
 have h4:((n:Int)+1 == (s.size:Int))=false:=by simp;omega
 clear h1
 go_enter Tryz.func101,Tryz.ntmps101
 go_wp2
 go_ret2
 exact ⟨rfl,Below.refl _ _⟩
set_option maxHeartbeats 400000 in
set_option maxRecDepth 100000 in
theorem letter_c2 (s:ByteArray) (n:Nat) (w:World) (hn:n < s.size) (hs:s.size≤1000000) (h1:s[n]=195) (h2:n+1 < s.size) (h5:s[n+1].toNat=151) :
 Calls Tryz.prog 101 #[.string s,.int .i64 (n:Int)] w fun e w'=>e=.returned (.tuple #[.string ⟨#[]⟩,.int .i64 1])∧Below w.heap.size w w':=by
 have h3:(s[n].toNat:Int)=195:=by rw [h1];rfl
 have h4:((n:Int)+1 == (s.size:Int))=false:=by simp;omega
 clear h1
 go_enter Tryz.func101,Tryz.ntmps101
 go_wp2
 go_ret2
 exact ⟨rfl,Below.refl _ _⟩
set_option maxHeartbeats 400000 in
set_option maxRecDepth 100000 in
theorem letter_c3 (s:ByteArray) (n:Nat) (w:World) (hn:n < s.size) (hs:s.size≤1000000) (h1:s[n]=195) (h2:n+1 < s.size) (h5:s[n+1].toNat=183) :
 Calls Tryz.prog 101 #[.string s,.int .i64 (n:Int)] w fun e w'=>e=.returned (.tuple #[.string ⟨#[]⟩,.int .i64 1])∧Below w.heap.size w w':=by
 have h3:(s[n].toNat:Int)=195:=by rw [h1];rfl
 have h4:((n:Int)+1 == (s.size:Int))=false:=by simp;omega
 clear h1
 go_enter Tryz.func101,Tryz.ntmps101
 go_wp2
 go_ret2
 exact ⟨rfl,Below.refl _ _⟩
set_option maxHeartbeats 400000 in
set_option maxRecDepth 100000 in
theorem letter_k0 (s:ByteArray) (n:Nat) (w:World) (hn:n < s.size) (hs:s.size≤1000000) (h1:s[n]=195) (h2:n+1 < s.size) (h5:128≤s[n+1].toNat) (h6:s[n+1].toNat < 151) :
 Calls Tryz.prog 101 #[.string s,.int .i64 (n:Int)] w fun e w'=>e=.returned (.tuple #[.string ⟨#[195,s[n+1]+32]⟩,.int .i64 2])∧Below w.heap.size w w':=by
 have hcv:=conv_two 195 ((s[n+1].toNat:Int)+32) 195 (s[n+1]+32) rfl (add32 _ (by omega)) w
 have h3:(s[n].toNat:Int)=195:=by rw [h1];rfl
 have h4:((n:Int)+1 == (s.size:Int))=false:=by simp;omega
 clear h1
 have h7:((s[n+1].toNat:Int) == 151)=false:=beq_eq_false_iff_ne.2 (by omega)
 have h8:((s[n+1].toNat:Int) == 183)=false:=beq_eq_false_iff_ne.2 (by omega)
 go_enter Tryz.func101,Tryz.ntmps101
 go_wp2
 go_ret2
 exact ⟨rfl,(Below.refl _ _).alloc (Nat.le_refl _) _⟩
set_option maxHeartbeats 400000 in
set_option maxRecDepth 100000 in
theorem letter_k1 (s:ByteArray) (n:Nat) (w:World) (hn:n < s.size) (hs:s.size≤1000000) (h1:s[n]=195) (h2:n+1 < s.size) (h5:151 < s[n+1].toNat) (h6:s[n+1].toNat≤158) :
 Calls Tryz.prog 101 #[.string s,.int .i64 (n:Int)] w fun e w'=>e=.returned (.tuple #[.string ⟨#[195,s[n+1]+32]⟩,.int .i64 2])∧Below w.heap.size w w':=by
 have hcv:=conv_two 195 ((s[n+1].toNat:Int)+32) 195 (s[n+1]+32) rfl (add32 _ (by omega)) w
 have h3:(s[n].toNat:Int)=195:=by rw [h1];rfl
 have h4:((n:Int)+1 == (s.size:Int))=false:=by simp;omega
 clear h1
 have h7:((s[n+1].toNat:Int) == 151)=false:=beq_eq_false_iff_ne.2 (by omega)
 have h8:((s[n+1].toNat:Int) == 183)=false:=beq_eq_false_iff_ne.2 (by omega)
 go_enter Tryz.func101,Tryz.ntmps101
 go_wp2
 go_ret2
 exact ⟨rfl,(Below.refl _ _).alloc (Nat.le_refl _) _⟩
set_option maxHeartbeats 400000 in
set_option maxRecDepth 100000 in
theorem letter_k2 (s:ByteArray) (n:Nat) (w:World) (hn:n < s.size) (hs:s.size≤1000000) (h1:s[n]=195) (h2:n+1 < s.size) (h5:158 < s[n+1].toNat) (h6:s[n+1].toNat < 183) :
 Calls Tryz.prog 101 #[.string s,.int .i64 (n:Int)] w fun e w'=>e=.returned (.tuple #[.string ⟨#[195,s[n+1]]⟩,.int .i64 2])∧Below w.heap.size w w':=by
 have hcv:=conv_two 195 (s[n+1].toNat:Int) 195 s[n+1] rfl rfl w
 have h3:(s[n].toNat:Int)=195:=by rw [h1];rfl
 have h4:((n:Int)+1 == (s.size:Int))=false:=by simp;omega
 clear h1
 have h7:((s[n+1].toNat:Int) == 151)=false:=beq_eq_false_iff_ne.2 (by omega)
 have h8:((s[n+1].toNat:Int) == 183)=false:=beq_eq_false_iff_ne.2 (by omega)
 go_enter Tryz.func101,Tryz.ntmps101
 go_wp2
 go_ret2
 exact ⟨rfl,(Below.refl _ _).alloc (Nat.le_refl _) _⟩
set_option maxHeartbeats 400000 in
set_option maxRecDepth 100000 in
theorem letter_k3 (s:ByteArray) (n:Nat) (w:World) (hn:n < s.size) (hs:s.size≤1000000) (h1:s[n]=195) (h2:n+1 < s.size) (h5:183 < s[n+1].toNat) (h6:s[n+1].toNat≤191) :
 Calls Tryz.prog 101 #[.string s,.int .i64 (n:Int)] w fun e w'=>e=.returned (.tuple #[.string ⟨#[195,s[n+1]]⟩,.int .i64 2])∧Below w.heap.size w w':=by
 have hcv:=conv_two 195 (s[n+1].toNat:Int) 195 s[n+1] rfl rfl w
 have h3:(s[n].toNat:Int)=195:=by rw [h1];rfl
 have h4:((n:Int)+1 == (s.size:Int))=false:=by simp;omega
 clear h1
 have h7:((s[n+1].toNat:Int) == 151)=false:=beq_eq_false_iff_ne.2 (by omega)
 have h8:((s[n+1].toNat:Int) == 183)=false:=beq_eq_false_iff_ne.2 (by omega)
 go_enter Tryz.func101,Tryz.ntmps101
 go_wp2
 go_ret2
 exact ⟨rfl,(Below.refl _ _).alloc (Nat.le_refl _) _⟩
theorem ret_i32 {a b:Int} (h:a=b):Ending.returned (.int .i32 b)=.returned (.int .i32 a):=by rw [h]
set_option maxHeartbeats 400000 in
theorem small_any (x:Nat) (hx:x≤1114111) (w:World) :
 Calls Tryz.prog 179 #[.int .i32 (x:Int)] w fun e w'=>e=.returned (.int .i32 (smR x:Int))∧w'=w:=by
 obtain ⟨z,hz⟩:∃ z:Int,z=(x:Int):=⟨_,rfl⟩
 have hz0:0≤z:=by omega
 have hz1:z≤1114111:=by omega
 rw [← hz]
 have cs:z≤64∨(65≤z∧z≤90)∨(91≤z∧z≤191)∨(192≤z∧z≤222)∨223≤z:=by omega
 rcases cs with c1 | ⟨c1,c2⟩ | ⟨c1,c2⟩ | ⟨c1,c2⟩ | c1
 ·have H:Hid ((smR x:Int)=z):=by unfold smR;rw [if_neg (by omega)];exact hz.symm
  clear hz
  go_enter Tryz.func179,Tryz.ntmps179
  go_wp2
  go_ret
  exact ⟨ret_i32 H.out,rfl⟩
 ·have H:Hid ((smR x:Int)=z+32):=by unfold smR;rw [if_pos (by omega)];rw [hz];rfl
  clear hz
  go_enter Tryz.func179,Tryz.ntmps179
  go_wp2
  go_ret
  exact ⟨ret_i32 H.out,rfl⟩
 ·have H:Hid ((smR x:Int)=z):=by unfold smR;rw [if_neg (by omega)];exact hz.symm
  clear hz
  go_enter Tryz.func179,Tryz.ntmps179
  go_wp2
  go_ret
  exact ⟨ret_i32 H.out,rfl⟩
 ·have H:Hid ((smR x:Int)=z+32):=by unfold smR;rw [if_pos (by omega)];rw [hz];rfl
  clear hz
  go_enter Tryz.func179,Tryz.ntmps179
  go_wp2
  go_ret
  exact ⟨ret_i32 H.out,rfl⟩
 ·have H:Hid ((smR x:Int)=z):=by unfold smR;rw [if_neg (by omega)];exact hz.symm
  clear hz
  go_enter Tryz.func179,Tryz.ntmps179
  go_wp2
  go_ret
  exact ⟨ret_i32 H.out,rfl⟩
theorem ret_boolB {a b:Bool} (h:a=b):Ending.returned (.bool b)=.returned (.bool a):=by rw [h]
set_option maxHeartbeats 400000 in
theorem isCommon_any (t:List UInt8) (w:World) :
 Calls Tryz.prog 97 #[.string ⟨t.toArray⟩] w fun e w'=>e=.returned (.bool (comB t))∧w'=w:=by
 by_cases c0:t=[97]
 ·subst c0
  go_enter Tryz.func97,Tryz.ntmps97
  go_wp2
  go_ret
  exact ⟨rfl,rfl⟩
 by_cases c1:t=[97,110]
 ·subst c1
  go_enter Tryz.func97,Tryz.ntmps97
  go_wp2
  go_ret
  exact ⟨rfl,rfl⟩
 by_cases c2:t=[97,110,100]
 ·subst c2
  go_enter Tryz.func97,Tryz.ntmps97
  go_wp2
  go_ret
  exact ⟨rfl,rfl⟩
 by_cases c3:t=[105,110]
 ·subst c3
  go_enter Tryz.func97,Tryz.ntmps97
  go_wp2
  go_ret
  exact ⟨rfl,rfl⟩
 by_cases c4:t=[105,115]
 ·subst c4
  go_enter Tryz.func97,Tryz.ntmps97
  go_wp2
  go_ret
  exact ⟨rfl,rfl⟩
 by_cases c5:t=[111,102]
 ·subst c5
  go_enter Tryz.func97,Tryz.ntmps97
  go_wp2
  go_ret
  exact ⟨rfl,rfl⟩
 by_cases c6:t=[116,104,101]
 ·subst c6
  go_enter Tryz.func97,Tryz.ntmps97
  go_wp2
  go_ret
  exact ⟨rfl,rfl⟩
 by_cases c7:t=[116,111]
 ·subst c7
  go_enter Tryz.func97,Tryz.ntmps97
  go_wp2
  go_ret
  exact ⟨rfl,rfl⟩
 have d0:(t == [97])=false:=beq_eq_false_iff_ne.2 c0
 have d1:(t == [97,110])=false:=beq_eq_false_iff_ne.2 c1
 have d2:(t == [97,110,100])=false:=beq_eq_false_iff_ne.2 c2
 have d3:(t == [105,110])=false:=beq_eq_false_iff_ne.2 c3
 have d4:(t == [105,115])=false:=beq_eq_false_iff_ne.2 c4
 have d5:(t == [111,102])=false:=beq_eq_false_iff_ne.2 c5
 have d6:(t == [116,104,101])=false:=beq_eq_false_iff_ne.2 c6
 have d7:(t == [116,111])=false:=beq_eq_false_iff_ne.2 c7
 have H:Hid (comB t=false):=show _=_ by simp [comB,comL,c0,c1,c2,c3,c4,c5,c6,c7]
 clear c0 c1 c2 c3 c4 c5 c6 c7
 go_enter Tryz.func97,Tryz.ntmps97
 go_wp2
 go_ret
 exact ⟨ret_boolB H.out,rfl⟩
set_option maxHeartbeats 400000 in
theorem stops_any (t:List UInt8) (w:World) :
 Calls Tryz.prog 102 #[.string ⟨t.toArray⟩] w fun e w'=>e=.returned (.bool (stopB t))∧w'=w:=by
 by_cases c0:t=[]
 ·subst c0
  go_enter Tryz.func102,Tryz.ntmps102
  go_wp2
  go_ret
  exact ⟨rfl,rfl⟩
 by_cases c1:t=[97]
 ·subst c1
  go_enter Tryz.func102,Tryz.ntmps102
  go_wp2
  go_ret
  exact ⟨rfl,rfl⟩
 by_cases c2:t=[97,110]
 ·subst c2
  go_enter Tryz.func102,Tryz.ntmps102
  go_wp2
  go_ret
  exact ⟨rfl,rfl⟩
 by_cases c3:t=[97,110,100]
 ·subst c3
  go_enter Tryz.func102,Tryz.ntmps102
  go_wp2
  go_ret
  exact ⟨rfl,rfl⟩
 by_cases c4:t=[105,110]
 ·subst c4
  go_enter Tryz.func102,Tryz.ntmps102
  go_wp2
  go_ret
  exact ⟨rfl,rfl⟩
 by_cases c5:t=[105,115]
 ·subst c5
  go_enter Tryz.func102,Tryz.ntmps102
  go_wp2
  go_ret
  exact ⟨rfl,rfl⟩
 by_cases c6:t=[111,102]
 ·subst c6
  go_enter Tryz.func102,Tryz.ntmps102
  go_wp2
  go_ret
  exact ⟨rfl,rfl⟩
 by_cases c7:t=[116,104,101]
 ·subst c7
  go_enter Tryz.func102,Tryz.ntmps102
  go_wp2
  go_ret
  exact ⟨rfl,rfl⟩
 by_cases c8:t=[116,111]
 ·subst c8
  go_enter Tryz.func102,Tryz.ntmps102
  go_wp2
  go_ret
  exact ⟨rfl,rfl⟩
 have d0:(t == [])=false:=beq_eq_false_iff_ne.2 c0
 have d1:(t == [97])=false:=beq_eq_false_iff_ne.2 c1
 have d2:(t == [97,110])=false:=beq_eq_false_iff_ne.2 c2
 have d3:(t == [97,110,100])=false:=beq_eq_false_iff_ne.2 c3
 have d4:(t == [105,110])=false:=beq_eq_false_iff_ne.2 c4
 have d5:(t == [105,115])=false:=beq_eq_false_iff_ne.2 c5
 have d6:(t == [111,102])=false:=beq_eq_false_iff_ne.2 c6
 have d7:(t == [116,104,101])=false:=beq_eq_false_iff_ne.2 c7
 have d8:(t == [116,111])=false:=beq_eq_false_iff_ne.2 c8
 have H:Hid (stopB t=false):=show _=_ by simp [stopB,comB,comL,c0,c1,c2,c3,c4,c5,c6,c7,c8]
 clear c0 c1 c2 c3 c4 c5 c6 c7 c8
 go_enter Tryz.func102,Tryz.ntmps102
 go_wp2
 go_ret
 exact ⟨ret_boolB H.out,rfl⟩
theorem isLetR_eq (x:Nat) (b:Bool) (h:((48≤x∧x≤57)∨(65≤x∧x≤90)∨(97≤x∧x≤122)∨(192≤x∧x≤255∧x≠215∧x≠247)) ↔ b=true):isLetR x=b:=by
 unfold isLetR
 cases b with
 | true=>exact decide_eq_true (h.2 rfl)
 | false=>exact decide_eq_false (fun e=>by have:=h.1 e;simp at this)
theorem ret_bool {a b:Bool} (h:a=b):Ending.returned (.bool b)=.returned (.bool a):=by rw [h]
set_option maxHeartbeats 400000 in
theorem isLetter_any (x:Nat) (w:World) :
 Calls Tryz.prog 177 #[.int .i32 (x:Int)] w fun e w'=>e=.returned (.bool (isLetR x))∧w'=w:=by
 obtain ⟨z,hz⟩:∃ z:Int,z=(x:Int):=⟨_,rfl⟩
 have hz0:0≤z:=by omega
 rw [← hz]
 have cs:z≤47∨(48≤z∧z≤57)∨(58≤z∧z≤64)∨(65≤z∧z≤90)∨(91≤z∧z≤96)∨(97≤z∧z≤122)∨(123≤z∧z≤191)∨(192≤z∧z≤214)∨(215≤z∧z≤215)∨(216≤z∧z≤246)∨(247≤z∧z≤247)∨(248≤z∧z≤255)∨256≤z:=by omega
 rcases cs with c1 | ⟨c1,c2⟩ | ⟨c1,c2⟩ | ⟨c1,c2⟩ | ⟨c1,c2⟩ | ⟨c1,c2⟩ | ⟨c1,c2⟩ | ⟨c1,c2⟩ | ⟨c1,c2⟩ | ⟨c1,c2⟩ | ⟨c1,c2⟩ | ⟨c1,c2⟩ | c1
 ·have H:Hid (isLetR x=false):=isLetR_eq x false (by simp;omega)
  clear hz
  go_enter Tryz.func177,Tryz.ntmps177
  go_wp2
  go_ret
  exact ⟨ret_bool H.out,rfl⟩
 ·have H:Hid (isLetR x=true):=isLetR_eq x true (by simp;omega)
  clear hz
  go_enter Tryz.func177,Tryz.ntmps177
  go_wp2
  go_ret
  exact ⟨ret_bool H.out,rfl⟩
 ·have H:Hid (isLetR x=false):=isLetR_eq x false (by simp;omega)
  clear hz
  go_enter Tryz.func177,Tryz.ntmps177
  go_wp2
  go_ret
  exact ⟨ret_bool H.out,rfl⟩
 ·have H:Hid (isLetR x=true):=isLetR_eq x true (by simp;omega)
  clear hz
  go_enter Tryz.func177,Tryz.ntmps177
  go_wp2
  go_ret
  exact ⟨ret_bool H.out,rfl⟩
 ·have H:Hid (isLetR x=false):=isLetR_eq x false (by simp;omega)
  clear hz
  go_enter Tryz.func177,Tryz.ntmps177
  go_wp2
  go_ret
  exact ⟨ret_bool H.out,rfl⟩
 ·have H:Hid (isLetR x=true):=isLetR_eq x true (by simp;omega)
  clear hz
  go_enter Tryz.func177,Tryz.ntmps177
  go_wp2
  go_ret
  exact ⟨ret_bool H.out,rfl⟩
 ·have H:Hid (isLetR x=false):=isLetR_eq x false (by simp;omega)
  clear hz
  go_enter Tryz.func177,Tryz.ntmps177
  go_wp2
  go_ret
  exact ⟨ret_bool H.out,rfl⟩
 ·have H:Hid (isLetR x=true):=isLetR_eq x true (by simp;omega)
  clear hz
  go_enter Tryz.func177,Tryz.ntmps177
  go_wp2
  go_ret
  exact ⟨ret_bool (H.out.trans (by symm;simp;omega)),rfl⟩
 ·have H:Hid (isLetR x=false):=isLetR_eq x false (by simp;omega)
  obtain rfl:z=215:=by omega
  clear hz
  go_enter Tryz.func177,Tryz.ntmps177
  go_wp2
  go_ret
  exact ⟨ret_bool H.out,rfl⟩
 ·have H:Hid (isLetR x=true):=isLetR_eq x true (by simp;omega)
  clear hz
  go_enter Tryz.func177,Tryz.ntmps177
  go_wp2
  go_ret
  exact ⟨ret_bool (H.out.trans (by symm;simp;omega)),rfl⟩
 ·have H:Hid (isLetR x=false):=isLetR_eq x false (by simp;omega)
  obtain rfl:z=247:=by omega
  clear hz
  go_enter Tryz.func177,Tryz.ntmps177
  go_wp2
  go_ret
  exact ⟨ret_bool H.out,rfl⟩
 ·have H:Hid (isLetR x=true):=isLetR_eq x true (by simp;omega)
  clear hz
  go_enter Tryz.func177,Tryz.ntmps177
  go_wp2
  go_ret
  exact ⟨ret_bool (H.out.trans (by symm;simp;omega)),rfl⟩
 ·have H:Hid (isLetR x=false):=isLetR_eq x false (by simp;omega)
  clear hz
  go_enter Tryz.func177,Tryz.ntmps177
  go_wp2
  go_ret
  exact ⟨ret_bool H.out,rfl⟩
set_option maxHeartbeats 400000 in
theorem isNoLetter_any (x:Nat) (w:World) :
 Calls Tryz.prog 95 #[.int .i32 (x:Int)] w fun e w'=>e=.returned (.bool (noLetR x))∧w'=w:=by
 go_enter Tryz.func95,Tryz.ntmps95
 go_wp2_with (go_at_call 177;refine (isLetter_any _ _).mono ?_;rintro e w' ⟨rfl,rfl⟩)
 go_ret
 exact ⟨rfl,rfl⟩
end Go.Proofs.YtaacjjhmojecnaaGreatDoor
