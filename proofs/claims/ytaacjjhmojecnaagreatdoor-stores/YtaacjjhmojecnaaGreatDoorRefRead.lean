import Derived.Test.YtaacjjhmojecnaaGreatDoorRefTok
namespace Go.ScT
theorem rDocs_bad {k num:Nat} {st:RSt} (h:st.2=true):rDocs k num st=([],st):=by
 cases k with
 | zero=>rfl
 | succ k=>simp [rDocs,h]
theorem rLists_bad {k:Nat} {l:List DocR} {st:RSt} (h:st.2=true):rLists k l st=(l,st):=by
 cases k with
 | zero=>rfl
 | succ k=>simp [rLists,h]
theorem rBlks_len {t:Bs}:∀ {f left next:Nat} {l:List DocR} {st:RSt},(rBlks t f left next l st).1.length=l.length
 | 0,_,_,_,_=>rfl
 | f+1,left,next,l,st=>by
   simp only [rBlks]
   split
   ·rfl
   ·split
    ·rfl
    ·split
     ·rfl
     ·split
      ·exact rPut_len
      ·rw [rBlks_len,rPut_len]
theorem rTok_len (l:List DocR) (st:RSt):(rTok l st).1.length=l.length:=rBlks_len
theorem rTok_nil (st:RSt):rTok [] st=([],(rVar 0 (rText st).2).2):=by
 unfold rTok
 refine rBlks_end ?_
 by_cases h:(rVar ([]:List DocR).length (rText st).2).2.2=true
 ·exact Or.inr h
 ·have:=rVar_good (most:=0) (st:=(rText st).2) (by simpa using h)
  exact Or.inl (by simpa using this)
end Go.ScT
namespace Go.Proofs.YtaacjjhmojecnaaGreatDoor
open Go.RowKit Go.ScT Go.Proofs
set_option maxHeartbeats 1000000 in
set_option maxRecDepth 1000000 in
theorem token_nil (w:World) (b:Nat) (s:ByteArray) (st:RSt) (h:RdAt w b s st) (hs:s.size≤60000) :
 Calls Tryz.prog 106 #[.pointer (some ⟨b,0,none⟩),.slice none 0 0] w fun e w'=>e=.returned (.slice none 0 0)∧RdAt w' b s (rTok [] st).2∧Turned (fun i=>i=b) w w':=by
 have CV:Hid (∀ (z:Int) w1 st1,RdAt w1 b s st1→0≤z→z≤100000→Calls Tryz.prog 104 #[.pointer (some ⟨b,0,none⟩),.int .i64 z] w1 fun e w'=>e=.returned (.int .i64 ((rVar z.toNat st1).1:Int))∧RdAt w' b s (rVar z.toNat st1).2∧Turned (fun i=>i=b) w1 w'∧(rVar z.toNat st1).1 < 2097152):=fun z w1 st1 h1 h2 h3=>varint_z w1 b s st1 h1 hs z.toNat (by omega) z (by omega)
 have CT:Hid (Calls Tryz.prog 105 #[.pointer (some ⟨b,0,none⟩)] w fun e w'=>e=.returned (.string ⟨(rText st).1.toArray⟩)∧RdAt w' b s (rText st).2∧Turned (fun i=>i=b) w w'):=textR_any w b s st h hs
 rw [rTok_nil]
 have hgood:(rVar 0 (rText st).2).2.2=false→(rVar 0 (rText st).2).1=0:=fun e=>by have:=rVar_good e;omega
 go_enter Tryz.func106,Tryz.ntmps106
 go_wp2_with (first
  | (go_at_call 105;refine CT.out.mono ?_;rintro e w1 ⟨rfl,hA1,hT1⟩)
  | (go_at_call 104;refine (CV.out _ _ _ hA1 (by omega) (by omega)).mono ?_;rintro e w2 ⟨rfl,hA2,hT2,hlt2⟩))
 have HA:Hid (RdAt w2 b s (rVar 0 (rText st).2).2):=hA2
 have HT:Hid (Turned (fun i=>i=b) w w2):=hT1.trans hT2
 obtain ⟨hfz,hc2⟩:=rd_frozen HA.out
 clear hA1 hA2 hT1 hT2 CT CV
 have hL:((rVar (Int.toNat 0) (rText st).2).1=0)∨(rVar 0 (rText st).2).2.2=true:=by
  cases hb:(rVar 0 (rText st).2).2.2 with
  | true=>exact Or.inr rfl
  | false=>exact Or.inl (hgood hb)
 go_loopw [6,7] (fun s6 _ wr=>s6=.int .i64 ((rVar (Int.toNat 0) (rText st).2).1:Int)∧wr=w2) (fun _ _ _=>0)
 case atStart=>exact ⟨rfl,rfl⟩
 case round =>
  obtain ⟨rfl,rfl⟩:=hrel
  rcases hL with h0 | h0
  ·rw [h0]
   go_wp2
   go_ret
   exact ⟨rfl,HA.out,HT.out⟩
  ·rw [h0] at hc2
   generalize (rVar (Int.toNat 0) (rText st).2).1=m at *
   by_cases hm:m=0
   ·subst hm
    go_wp2
    go_ret
    exact ⟨rfl,HA.out,HT.out⟩
   ·have hmi:(0:Int) < (m:Int):=by omega
    go_wp2
    go_ret
    exact ⟨rfl,HA.out,HT.out⟩
theorem below_of {Z:Nat→Prop} {w w':World} (ht:Turned Z w w') (hz:∀ i,i < w.heap.size→¬ Z i):Below w.heap.size w w':=⟨ht.os,ht.tape,ht.output,ht.size,fun i hi=>ht.block i hi (hz i hi)⟩
theorem below_alloc {w w':World} {o:Obj} {Z:Nat→Prop} (ht:Turned Z (w.alloc o) w') (hz:∀ i,i < w.heap.size→¬ Z i):Below w.heap.size w w' :=
 below_of ((Turned.ofAlloc w o).trans ht) hz
set_option maxHeartbeats 1000000 in
set_option maxRecDepth 1000000 in
theorem read_sg (w:World) (s:ByteArray) (hs:s.size≤60000) (h:(rByte (s.data.toList,false)).1≠83∨(rByte (rByte (s.data.toList,false)).2).1≠71) :
 Calls Tryz.prog 58 #[.string s] w fun e w'=>e=.returned (.tuple #[.slice none 0 0,.bool false])∧Below w.heap.size w w':=by
 have CB:Hid (∀ w1 b st1,RdAt w1 b s st1→Calls Tryz.prog 103 #[.pointer (some ⟨b,0,none⟩)] w1 fun e w'=>e=.returned (.int .i64 ((rByte st1).1:Int))∧RdAt w' b s (rByte st1).2∧Turned (fun i=>i=b) w1 w'):=fun w1 b st1 h1=>byte1_any w1 b s st1 h1 hs
 have HA0:Hid (RdAt (w.alloc (.cells #[.string s,.int .i64 0,.bool false] 182)) w.heap.size s (s.data.toList,false)):=show RdAt _ _ _ _ from ⟨0,heap_alloc_new w _,by omega,by simp⟩
 go_enter Tryz.func58,Tryz.ntmps58
 by_cases h1:(rByte (s.data.toList,false)).1=83
 ·have h2:(rByte (rByte (s.data.toList,false)).2).1≠71:=by rcases h with h | h;exact absurd h1 h;exact h
  have h1i:(((rByte (s.data.toList,false)).1:Int) != 83)=false:=by simp;omega
  have h2i:(((rByte (rByte (s.data.toList,false)).2).1:Int) != 71)=true:=by simp;omega
  go_wp2_with (first
   | (go_at_call 103;have _h:=hA1;refine (CB.out _ _ _ hA1).mono ?_;rintro e w2 ⟨rfl,hA2,hT2⟩)
   | (go_at_call 103;refine (CB.out _ _ _ HA0.out).mono ?_;rintro e w1 ⟨rfl,hA1,hT1⟩))
  go_ret2
  exact ⟨rfl,below_alloc (hT1.trans hT2) (fun i hi e=>by omega)⟩
 ·have h1i:(((rByte (s.data.toList,false)).1:Int) != 83)=true:=by simp;omega
  go_wp2_with (first | (go_at_call 103;refine (CB.out _ _ _ HA0.out).mono ?_;rintro e w1 ⟨rfl,hA1,hT1⟩))
  go_ret2
  exact ⟨rfl,below_alloc hT1 (fun i hi e=>by omega)⟩
theorem DocsAt.more {w w3:World} {base gA capA:Nat} {v:Value} {l:List DocR} {tv:List Value} {o:Obj} (h:DocsAt w base v l tv) {k:Bs} {num:Nat} (hg:(w.alloc o).grownBy w3 v.ownBlock)
 (hown:w3.ownsRow base 185 3 (.slice (some ⟨gA,0,none⟩) (l.length+1) capA) (l.length+1) (docCells l tv++[.string ⟨k.toArray⟩,natV num,.slice none 0 0])) :
 DocsAt w3 base (.slice (some ⟨gA,0,none⟩) (l.length+1) capA) (l++[(k,num,[])]) (tv++[.slice none 0 0]):=by
 have hT:Turned (fun j=>v.ownBlock=some j) w w3:=(Turned.ofAlloc w o).trans (Turned.ofGrown hg (fun j hj _=>hj))
 have hc:∀ (l:List DocR) (tv:List Value),tv.length=l.length→docCells (l++[(k,num,[])]) (tv++[.slice none 0 0])=docCells l tv++[.string ⟨k.toArray⟩,natV num,.slice none 0 0]:=by
  intro l
  induction l with
  | nil=>intro tv h;have:tv=[]:=List.length_eq_zero_iff.1 h;subst this;rfl
  | cons d r ih =>
    intro tv h
    cases tv with
    | nil=>simp at h
    | cons t tv=>simp only [List.cons_append,docCells,ih tv (by simpa using h)]
 refine ⟨by rw [hc l tv h.len];simpa using hown,by simp [h.len],?_,?_⟩
 ·intro i d t hd ht
  by_cases hi:i < l.length
  ·rw [List.getElem?_append_left hi] at hd
   rw [List.getElem?_append_left (by rw [h.len];exact hi)] at ht
   refine ownsRow_turned (h.toks i d t hd ht) hT fun j hj e=>?_
   obtain ⟨c1,h1⟩:=ownsRow_block (h.toks i d t hd ht) hj
   obtain ⟨c2,h2⟩:=ownsRow_block h.row e
   exact tag_ne h1 h2 (by decide) rfl
  ·have he:i=l.length:=by
    have:=(List.getElem?_eq_some_iff.1 hd).1
    simp at this
    omega
   subst he
   simp at hd
   rw [← h.len] at ht
   simp at ht
   subst hd ht
   exact ⟨rfl,Or.inl ⟨rfl,rfl⟩⟩
 ·have hcase:∀ (i:Nat) (a:Value) (j:Nat),(tv++[Value.slice none 0 0])[i]?=some a→a.ownBlock=some j→tv[i]?=some a:=by
   intro i a j hi hj
   by_cases hl:i < tv.length
   ·rwa [List.getElem?_append_left hl] at hi
   ·have he:i=tv.length:=by
     have:=(List.getElem?_eq_some_iff.1 hi).1
     simp at this
     omega
    subst he
    simp at hi
    subst hi
    cases hj
  intro i j a b g hi hj ha hb
  exact h.apart i j a b g (hcase i a g hi ha) (hcase j b g hj hb) ha hb
theorem TokIn.more {w0 w w3:World} {b base gA capA:Nat} {s:ByteArray} {v:Value} {l:List DocR} {tv:List Value} {st:RSt} {o:Obj} (h:TokIn w0 w b base s v l tv st) {k:Bs} {num:Nat} (hg:(w.alloc o).grownBy w3 v.ownBlock)
 (hown:w3.ownsRow base 185 3 (.slice (some ⟨gA,0,none⟩) (l.length+1) capA) (l.length+1) (docCells l tv++[.string ⟨k.toArray⟩,natV num,.slice none 0 0])) (hb:b < base) :
 TokIn w0 w3 b base s (.slice (some ⟨gA,0,none⟩) (l.length+1) capA) (l++[(k,num,[])]) (tv++[.slice none 0 0]) st:=by
 have hT:Turned (fun j=>base≤j) w w3:=(Turned.ofAlloc w o).trans (Turned.ofGrown hg (fun j hj _=>(h.docs.row.lt j hj).1))
 refine ⟨h.rd.turned hT (by omega),h.docs.more hg hown,h.turn.trans (hT.mono fun _ _ e=>Or.inr e),?_⟩
 intro d hd
 rcases List.mem_append.1 hd with hd | hd
 ·exact h.few d hd
 ·simp at hd;subst hd;simp
theorem token_all (w0 w:World) (b base:Nat) (v:Value) (s:ByteArray) (l:List DocR) (tv:List Value) (st:RSt) (h:TokIn w0 w b base s v l tv st) (hb:b < base) (hs:s.size≤60000) (hl:l.length≤100) (hbw:base≤w.heap.size) (hnil:l=[]→v=.slice none 0 0) :
 Calls Tryz.prog 106 #[.pointer (some ⟨b,0,none⟩),v] w fun e w'=>e=.returned v∧∃ tv',TokIn w0 w' b base s v (rTok l st).1 tv' (rTok l st).2:=by
 cases l with
 | nil =>
   rw [hnil rfl]
   refine (token_nil w b s st h.rd hs).mono ?_
   rintro e w' ⟨rfl,hA,hT⟩
   refine ⟨rfl,tv,?_⟩
   have:=h.step hb hA hT
   rw [hnil rfl] at this
   rw [rTok_nil] at this ⊢
   exact this
 | cons d r =>
   obtain ⟨g,cap,ao,hve,_,hao⟩:=ownsRow_shape h.docs.row
   have h1:=hao (by simp)
   subst hve
   subst h1
   refine (token_any w b base g _ cap s (d :: r) tv st ⟨h.rd,h.docs,Turned.refl _ _,h.few⟩ hb hs hl rfl hbw).mono ?_
   rintro e w' ⟨rfl,tv',h'⟩
   exact ⟨rfl,tv',h'.rd,h'.docs,h.turn.trans h'.turn,h'.few⟩
set_option maxHeartbeats 2000000 in
set_option maxRecDepth 1000000 in
theorem read_ok (w:World) (s:ByteArray) (hs:s.size≤60000) (h1:(rByte (s.data.toList,false)).1=83) (h2:(rByte (rByte (s.data.toList,false)).2).1=71) :
 Calls Tryz.prog 58 #[.string s] w fun e w'=>∃ v tv l ok,e=.returned (.tuple #[v,.bool ok])∧(rRead s.data.toList=if ok then some l else none)∧DocsAt w' (w.heap.size+1) v l tv∧l.length≤100∧(∀ d∈l,d.2.2.length≤40)∧Below w.heap.size w w':=by
 have CB:Hid (∀ w1 b st1,RdAt w1 b s st1→Calls Tryz.prog 103 #[.pointer (some ⟨b,0,none⟩)] w1 fun e w'=>e=.returned (.int .i64 ((rByte st1).1:Int))∧RdAt w' b s (rByte st1).2∧Turned (fun i=>i=b) w1 w'):=fun w1 b st1 h1=>byte1_any w1 b s st1 h1 hs
 have CV:Hid (∀ (b:Nat) (z:Int) w1 st1,RdAt w1 b s st1→0≤z→z≤100000→Calls Tryz.prog 104 #[.pointer (some ⟨b,0,none⟩),.int .i64 z] w1 fun e w'=>e=.returned (.int .i64 ((rVar z.toNat st1).1:Int))∧RdAt w' b s (rVar z.toNat st1).2∧Turned (fun i=>i=b) w1 w'∧(rVar z.toNat st1).1 < 2097152):=fun b z w1 st1 h1 h2 h3=>varint_z w1 b s st1 h1 hs z.toNat (by omega) z (by omega)
 have CT:Hid (∀ w1 b st1,RdAt w1 b s st1→Calls Tryz.prog 105 #[.pointer (some ⟨b,0,none⟩)] w1 fun e w'=>e=.returned (.string ⟨(rText st1).1.toArray⟩)∧RdAt w' b s (rText st1).2∧Turned (fun i=>i=b) w1 w'):=fun w1 b st1 h1=>textR_any w1 b s st1 h1 hs
 obtain ⟨w0,hw0⟩:∃ w0,w.alloc (.cells #[.string s,.int .i64 0,.bool false] 182)=w0:=⟨_,rfl⟩
 have hsz0:w0.heap.size=w.heap.size+1:=by rw [← hw0];simp
 have HI0:Hid (TokIn w0 w0 w.heap.size (w.heap.size+1) s (.slice none 0 0) [] [] (s.data.toList,false)):=show TokIn _ _ _ _ _ _ _ _ _ from
  ⟨⟨0,by rw [← hw0];exact heap_alloc_new w _,by omega,by simp⟩,⟨⟨rfl,Or.inl ⟨rfl,rfl⟩⟩,rfl,fun i d t hd=>by simp at hd,fun i j a b g hi=>by simp at hi⟩,Turned.refl _ _,fun d hd=>by simp at hd⟩
 obtain ⟨st2,hst2⟩:∃ st2,(rByte (rByte (s.data.toList,false)).2).2=st2:=⟨_,rfl⟩
 have HRR:Hid (rRead s.data.toList=if (rLists (rVar 4000 (rDocs (rVar 100 st2).1 0 (rVar 100 st2).2).2).1 (rDocs (rVar 100 st2).1 0 (rVar 100 st2).2).1 (rVar 4000 (rDocs (rVar 100 st2).1 0 (rVar 100 st2).2).2).2).2.2=true then none else some (rLists (rVar 4000 (rDocs (rVar 100 st2).1 0 (rVar 100 st2).2).2).1 (rDocs (rVar 100 st2).1 0 (rVar 100 st2).2).1 (rVar 4000 (rDocs (rVar 100 st2).1 0 (rVar 100 st2).2).2).2).1):=show _=_ by
  unfold rRead;rw [if_neg (by rw [h1];simp),if_neg (by rw [h2];simp),hst2]
 have h1i:(((rByte (s.data.toList,false)).1:Int) != 83)=false:=by simp;omega
 have h2i:(((rByte (rByte (s.data.toList,false)).2).1:Int) != 71)=false:=by simp;omega
 have hbb:w.heap.size < w.heap.size+1:=by omega
 go_enter Tryz.func58,Tryz.ntmps58
 go_wp2_with (first
  | (go_at_call 103;have _h:=HI1;refine (CB.out _ _ _ HI1.out.rd).mono ?_;rintro e w2 ⟨rfl,hA,hT⟩;have HI2:=hid (HI1.out.step hbb hA hT);clear hA hT)
  | (go_at_call 103;refine (CB.out _ _ _ HI0.out.rd).mono ?_;rintro e w1 ⟨rfl,hA,hT⟩;have HI1:=hid (HI0.out.step hbb hA hT);clear hA hT)
  | (go_at_call 104;refine (CV.out _ _ _ _ HI2.out.rd (by omega) (by omega)).mono ?_;rintro e w3 ⟨rfl,hA,hT,hlt3⟩;have HI3:=hid (HI2.out.step hbb hA hT);clear hA hT))
 have HI3b:Hid (TokIn w0 w3 w.heap.size (w.heap.size+1) s (.slice none 0 0) [] [] (rVar 100 st2).2):=show TokIn _ _ _ _ _ _ _ _ _ by rw [← hst2];exact HI3.out
 have hlt3b:(rVar 100 st2).1 < 2097152:=rVar_lt _ _
 have hgd:(rVar 100 st2).2.2=false→(rVar 100 st2).1≤100:=fun e=>rVar_good e
 clear HI0 HI1 HI2 HI3 hlt3 h1i h2i h1 h2
 have hi107:(Tryz.prog.info? 185).map (fun i=>(i.zero,i.size,i.bytes))=some (some (.agg #[.string ⟨#[]⟩,.int .i64 0,.slice none 0 0]),3,48):=by kernel_rfl
 obtain ⟨i107,hi,hz0,hz1,hz2⟩:=info_parts hi107
 clear hi107
 obtain ⟨n,hn⟩:∃ n,(rVar 100 st2).1=n:=⟨_,rfl⟩
 obtain ⟨st3,hst3⟩:∃ st3,(rVar 100 st2).2=st3:=⟨_,rfl⟩
 rw [hn] at hlt3b hgd
 rw [hst3] at hgd HI3b
 rw [hn,hst3] at HRR
 rw [hn]
 obtain ⟨RD,hRD⟩:∃ RD,rDocs n 0 st3=RD:=⟨_,rfl⟩
 rw [hRD] at HRR
 have HRD:Hid (([]++(rDocs (n - 0) 0 st3).1,(rDocs (n - 0) 0 st3).2)=RD):=show _=_ by rw [Nat.sub_zero,hRD];rfl
 clear hRD hn hst3 hst2
 go_loopw [6,7,8] (fun s6 s7 s8 wr=>∃ (i num:Nat) (l:List DocR) (tv:List Value) (st':RSt),s8=.int .i64 (i:Int)∧s7=.int .i64 (num:Int)∧i≤n∧num≤2097152 * i∧l.length=i∧(l=[]→s6=.slice none 0 0)∧(st'.2=false→n≤100)∧i≤100∧Hid (TokIn w0 wr w.heap.size (w.heap.size+1) s s6 l tv st')∧Hid ((l++(rDocs (n - i) num st').1,(rDocs (n - i) num st').2)=RD)) (fun _ _ s8 _=>n - (intOf s8).toNat)
 case atStart=>exact ⟨0,0,[],[],st3,rfl,rfl,by omega,by omega,rfl,fun _=>rfl,hgd,by omega,HI3b,HRD⟩
 case round =>
  obtain ⟨i,num,l,tv,st',rfl,rfl,hin,hnum,hli,hnil,hgd2,hi100,HI,HE⟩:=hrel
  obtain ⟨hfz,hc2⟩:=rd_frozen HI.out.rd
  clear hfz
  have hgo:¬ (i < n∧st'.2=false)→Hid (RD=(l,st')):=fun hno=>show _=_ by
   have:=HE.out
   by_cases hb:st'.2=true
   ·rw [rDocs_bad hb] at this
    simpa using this.symm
   ·have:n - i=0:=by
     have:¬ i < n:=fun h=>hno ⟨h,by simpa using hb⟩
     omega
    have h2:=HE.out
    rw [this] at h2
    simpa [rDocs] using h2.symm
  by_cases hlt:i < n
  ·have hlti:(i:Int) < (n:Int):=by omega
   cases hbad:st'.2 with
   | true =>
     rw [hbad] at hc2
     have hno:¬ (i < n∧st'.2=false):=by rw [hbad];simp
     have hRD:=hgo hno
     have HQ:Hid (rRead s.data.toList=if (rLists (rVar 4000 st').1 l (rVar 4000 st').2).2.2=true then none else some (rLists (rVar 4000 st').1 l (rVar 4000 st').2).1):=show _=_ by rw [HRR.out,hRD.out]
     clear HRR HE hgo
     go_wp2_with (first
      | (go_at_call 104;refine (CV.out _ _ _ _ HI.out.rd (by omega) (by omega)).mono ?_;rintro e w4 ⟨rfl,hA,hT,hlt4⟩;have HI4:Hid (TokIn w0 w4 w.heap.size (w.heap.size+1) s u6 l tv (rVar 4000 st').2):=HI.out.step hbb hA hT;clear hA hT))
     obtain ⟨m,hm⟩:∃ m,(rVar 4000 st').1=m:=⟨_,rfl⟩
     obtain ⟨st4,hst4⟩:∃ st4,(rVar 4000 st').2=st4:=⟨_,rfl⟩
     have hml:m < 2097152:=by rw [← hm];exact rVar_lt _ _
     rw [hm,hst4] at HQ
     rw [hst4] at HI4
     rw [hm]
     obtain ⟨RL,hRL⟩:∃ RL,rLists m l st4=RL:=⟨_,rfl⟩
     rw [hRL] at HQ
     have HRL:Hid (rLists (m - 0) l st4=RL):=show _=_ by rw [Nat.sub_zero];exact hRL
     clear hRL hm hst4 HI hlt4 hc2
     go_loopw [6,11] (fun s6 s11 wr=>∃ (j:Nat) (l2:List DocR) (tv2:List Value) (st5:RSt),s11=.int .i64 (j:Int)∧s6=u6∧j≤m∧l2.length=l.length∧Hid (TokIn w0 wr w.heap.size (w.heap.size+1) s u6 l2 tv2 st5)∧Hid (rLists (m - j) l2 st5=RL)) (fun _ s11 _=>m - (intOf s11).toNat)
     case atStart=>exact ⟨0,l,tv,st4,rfl,rfl,by omega,rfl,HI4,HRL⟩
     case round =>
      obtain ⟨j,l2,tv2,st5,rfl,rfl,hjm,hl2,HI5,HE5⟩:=hrel
      obtain ⟨hfz5,hc5⟩:=rd_frozen HI5.out.rd
      clear hfz5
      have fin:∀ q,RL=(l2,st5)→∃ v tv l ok,Ending.returned (.tuple #[u6,.bool (!st5.2)])=.returned (.tuple #[v,.bool ok])∧(rRead s.data.toList=if ok then some l else none)∧DocsAt (wr.drewN q) (w.heap.size+1) v l tv∧l.length≤100∧(∀ d∈l,d.2.2.length≤40)∧Below w.heap.size w (wr.drewN q):=by
       intro q hRL
       have HI6:=HI5.out.drewN q
       refine ⟨u6,tv2,l2,!st5.2,rfl,?_,HI6.docs,by omega,HI6.few,?_⟩
       ·rw [HQ.out,hRL]
        cases st5.2 <;> simp
       ·rw [← hw0] at HI6
        exact below_alloc HI6.turn (fun i hi e=>by omega)
      have HF:=hid fin
      clear fin
      by_cases hjl:j < m
      ·have hjli:(j:Int) < (m:Int):=by omega
       cases hb5:st5.2 with
       | true =>
         rw [hb5] at hc5
         have HRb:Hid (RL=(l2,st5)):=show _=_ by rw [← HE5.out];exact rLists_bad hb5
         go_wp2
         go_quiet (fail)
         go_wp2
         go_ret2
         have:=HF.out nq HRb.out
         rw [hb5] at this
         exact this
       | false =>
         rw [hb5] at hc5
         have CK:Hid (Calls Tryz.prog 106 #[.pointer (some ⟨w.heap.size,0,none⟩),u6] wr fun e w'=>e=.returned u6∧∃ tv',TokIn w0 w' w.heap.size (w.heap.size+1) s u6 (rTok l2 st5).1 tv' (rTok l2 st5).2):=token_all w0 wr _ _ u6 s l2 tv2 st5 HI5.out hbb hs (by omega) (by have:=HI5.out.turn.size;omega) (fun e=>hnil (List.length_eq_zero_iff.1 (by rw [← hl2,e];rfl)))
         go_wp2_with (first | (go_at_call 106;refine CK.out.mono ?_;rintro e w7 ⟨rfl,tv7,hI7⟩))
         go_roundw
         case rel =>
          refine ⟨j+1,(rTok l2 st5).1,tv7,(rTok l2 st5).2,by go_num,rfl,by omega,by rw [rTok_len];exact hl2,hI7,?_⟩
          have:=HE5.out
          rw [show m - j=(m - (j+1))+1 by omega] at this
          simp only [rLists,hb5] at this
          exact this
         case measure=>simp [intOf];omega
      ·have hjli:¬ ((j:Int) < (m:Int)):=by omega
       have HRb:Hid (RL=(l2,st5)):=show _=_ by rw [← HE5.out,show m - j=0 by omega];rfl
       go_wp2
       go_quiet (fail)
       go_wp2
       go_ret2
       exact HF.out nq HRb.out
   | false =>
     rw [hbad] at hc2
     have hn100:=hgd2 hbad
     have hv100:=rVar_lt 100 st'
     have hsz:=HI.out.turn.size
     clear hgo
     go_wp2_with (first
      | (go_at_call 104;refine (CV.out _ _ _ _ HI.out.rd (by omega) (by omega)).mono ?_;rintro e w4 ⟨rfl,hA,hT,_⟩;replace HI:=hid (HI.out.step hbb hA hT);have hsz4:=HI.out.turn.size;clear hA hT)
      | (go_at_call 105;refine (CT.out _ _ _ HI.out.rd).mono ?_;rintro e w5 ⟨rfl,hA,hT⟩;replace HI:=hid (HI.out.step hbb hA hT);have hsz5:=HI.out.turn.size;clear hA hT)
      | (at_builtin;refine wpList_append_lies _ rfl _ _ 100 rfl (w.heap.size+1) 185 i107 _ 3 48 Tryz.underlying100 hi hz0 hz1 hz2 rfl (by decide) _ _ _ rfl (HI.out.docs.row.alloc _) ⟨w5.heap.size,0,none⟩ 1 1 [.string ⟨(rText (rVar 40 (rVar 100 st').2).2).1.toArray⟩,.int .i64 ((num:Int)+((rVar 100 st').1:Int)),.slice none 0 0] rfl rfl (World.news_of_block (cs:=#[.string ⟨(rText (rVar 40 (rVar 100 st').2).2).1.toArray⟩,.int .i64 ((num:Int)+((rVar 100 st').1:Int)),.slice none 0 0]) (t:=185) (fr:=(0,0)) (heap_alloc_new w5 _)) (by simp [Value.oneCell']) (by omega) (by unfold maxLen;omega) (by omega) (by simp;omega) (w5.heap.size+1) (by simp) ?_;intro gA capA w6 hownA hgrowA hatA hltA))
     go_roundw
     case rel =>
      refine ⟨i+1,num+(rVar 100 st').1,l++[((rText (rVar 40 (rVar 100 st').2).2).1,num+(rVar 100 st').1,[])],tv++[.slice none 0 0],(rText (rVar 40 (rVar 100 st').2).2).2,by go_num,by go_num,by omega,by omega,by simp [hli],fun e=>by simp at e,fun _=>hn100,by omega,?_,?_⟩
      ·have:=HI.out.more (k:=(rText (rVar 40 (rVar 100 st').2).2).1) (num:=num+(rVar 100 st').1) hgrowA (by simpa [natV] using hownA) hbb
       rw [hli] at this
       exact this
      ·have:=HE.out
       rw [show n - i=(n - (i+1))+1 by omega] at this
       simp only [rDocs,hbad,Bool.false_eq_true,if_false] at this
       show _=RD
       rw [← this]
       simp
     case measure=>simp [intOf];omega
  ·have hlti:¬ ((i:Int) < (n:Int)):=by omega
   have hno:¬ (i < n∧st'.2=false):=fun h=>hlt h.1
   have hRD:=hgo hno
   have HQ:Hid (rRead s.data.toList=if (rLists (rVar 4000 st').1 l (rVar 4000 st').2).2.2=true then none else some (rLists (rVar 4000 st').1 l (rVar 4000 st').2).1):=show _=_ by rw [HRR.out,hRD.out]
   clear HRR HE hgo
   go_wp2_with (first
    | (go_at_call 104;refine (CV.out _ _ _ _ HI.out.rd (by omega) (by omega)).mono ?_;rintro e w4 ⟨rfl,hA,hT,hlt4⟩;have HI4:Hid (TokIn w0 w4 w.heap.size (w.heap.size+1) s u6 l tv (rVar 4000 st').2):=HI.out.step hbb hA hT;clear hA hT))
   obtain ⟨m,hm⟩:∃ m,(rVar 4000 st').1=m:=⟨_,rfl⟩
   obtain ⟨st4,hst4⟩:∃ st4,(rVar 4000 st').2=st4:=⟨_,rfl⟩
   have hml:m < 2097152:=by rw [← hm];exact rVar_lt _ _
   rw [hm,hst4] at HQ
   rw [hst4] at HI4
   rw [hm]
   obtain ⟨RL,hRL⟩:∃ RL,rLists m l st4=RL:=⟨_,rfl⟩
   rw [hRL] at HQ
   have HRL:Hid (rLists (m - 0) l st4=RL):=show _=_ by rw [Nat.sub_zero];exact hRL
   clear hRL hm hst4 HI hlt4 hc2
   go_loopw [6,11] (fun s6 s11 wr=>∃ (j:Nat) (l2:List DocR) (tv2:List Value) (st5:RSt),s11=.int .i64 (j:Int)∧s6=u6∧j≤m∧l2.length=l.length∧Hid (TokIn w0 wr w.heap.size (w.heap.size+1) s u6 l2 tv2 st5)∧Hid (rLists (m - j) l2 st5=RL)) (fun _ s11 _=>m - (intOf s11).toNat)
   case atStart=>exact ⟨0,l,tv,st4,rfl,rfl,by omega,rfl,HI4,HRL⟩
   case round =>
    obtain ⟨j,l2,tv2,st5,rfl,rfl,hjm,hl2,HI5,HE5⟩:=hrel
    obtain ⟨hfz5,hc5⟩:=rd_frozen HI5.out.rd
    clear hfz5
    have fin:∀ q,RL=(l2,st5)→∃ v tv l ok,Ending.returned (.tuple #[u6,.bool (!st5.2)])=.returned (.tuple #[v,.bool ok])∧(rRead s.data.toList=if ok then some l else none)∧DocsAt (wr.drewN q) (w.heap.size+1) v l tv∧l.length≤100∧(∀ d∈l,d.2.2.length≤40)∧Below w.heap.size w (wr.drewN q):=by
     intro q hRL
     have HI6:=HI5.out.drewN q
     refine ⟨u6,tv2,l2,!st5.2,rfl,?_,HI6.docs,by omega,HI6.few,?_⟩
     ·rw [HQ.out,hRL]
      cases st5.2 <;> simp
     ·rw [← hw0] at HI6
      exact below_alloc HI6.turn (fun i hi e=>by omega)
    have HF:=hid fin
    clear fin
    by_cases hjl:j < m
    ·have hjli:(j:Int) < (m:Int):=by omega
     cases hb5:st5.2 with
     | true =>
       rw [hb5] at hc5
       have HRb:Hid (RL=(l2,st5)):=show _=_ by rw [← HE5.out];exact rLists_bad hb5
       go_wp2
       go_quiet (fail)
       go_wp2
       go_ret2
       have:=HF.out nq HRb.out
       rw [hb5] at this
       exact this
     | false =>
       rw [hb5] at hc5
       have CK:Hid (Calls Tryz.prog 106 #[.pointer (some ⟨w.heap.size,0,none⟩),u6] wr fun e w'=>e=.returned u6∧∃ tv',TokIn w0 w' w.heap.size (w.heap.size+1) s u6 (rTok l2 st5).1 tv' (rTok l2 st5).2):=token_all w0 wr _ _ u6 s l2 tv2 st5 HI5.out hbb hs (by omega) (by have:=HI5.out.turn.size;omega) (fun e=>hnil (List.length_eq_zero_iff.1 (by rw [← hl2,e];rfl)))
       go_wp2_with (first | (go_at_call 106;refine CK.out.mono ?_;rintro e w7 ⟨rfl,tv7,hI7⟩))
       go_roundw
       case rel =>
        refine ⟨j+1,(rTok l2 st5).1,tv7,(rTok l2 st5).2,by go_num,rfl,by omega,by rw [rTok_len];exact hl2,hI7,?_⟩
        have:=HE5.out
        rw [show m - j=(m - (j+1))+1 by omega] at this
        simp only [rLists,hb5] at this
        exact this
       case measure=>simp [intOf];omega
    ·have hjli:¬ ((j:Int) < (m:Int)):=by omega
     have HRb:Hid (RL=(l2,st5)):=show _=_ by rw [← HE5.out,show m - j=0 by omega];rfl
     go_wp2
     go_quiet (fail)
     go_wp2
     go_ret2
     exact HF.out nq HRb.out
theorem read_any (w:World) (s:ByteArray) (hs:s.size≤60000) :
 Calls Tryz.prog 58 #[.string s] w fun e w'=>∃ v tv l ok,e=.returned (.tuple #[v,.bool ok])∧(rRead s.data.toList=if ok then some l else none)∧DocsAt w' (w.heap.size+1) v l tv∧l.length≤100∧(∀ d∈l,d.2.2.length≤40)∧Below w.heap.size w w':=by
 by_cases h:(rByte (s.data.toList,false)).1≠83∨(rByte (rByte (s.data.toList,false)).2).1≠71
 ·refine (read_sg w s hs h).mono ?_
  rintro e w' ⟨rfl,hb⟩
  refine ⟨_,[],[],false,rfl,?_,⟨⟨rfl,Or.inl ⟨rfl,rfl⟩⟩,rfl,fun i d t hd=>by simp at hd,fun i j a b g hi=>by simp at hi⟩,by simp,fun d hd=>by simp at hd,hb⟩
  unfold rRead
  by_cases h1:(rByte (s.data.toList,false)).1≠83
  ·rw [if_pos h1];rfl
  ·rw [if_neg h1,if_pos (by rcases h with h | h;exact absurd h h1;exact h)];rfl
 ·have h1:(rByte (s.data.toList,false)).1=83:=by
   apply Classical.byContradiction
   intro e
   exact h (Or.inl e)
  have h2:(rByte (rByte (s.data.toList,false)).2).1=71:=by
   apply Classical.byContradiction
   intro e
   exact h (Or.inr e)
  exact read_ok w s hs h1 h2
end Go.Proofs.YtaacjjhmojecnaaGreatDoor
