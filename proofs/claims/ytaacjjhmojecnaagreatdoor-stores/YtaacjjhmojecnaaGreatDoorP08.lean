import Derived.Test.YtaacjjhmojecnaaGreatDoorP07
import Derived.Deep.AppendLies
import Derived.Deep.RegionLaw
import Derived.Deep.DeepMust
import Derived.Test.YtaacjjhmojecnaaGreatDoorP06
namespace Go.Proofs.YtaacjjhmojecnaaGreatDoor
open Go.RowKit Go.ScT Go.Proofs
theorem info77:(Tryz.prog.info? 185).map (fun i=>(i.zero,i.size,i.bytes))=some (some (.agg #[.string ⟨#[]⟩,.int .i64 0,.slice none 0 0]),3,48):=by kernel_rfl
theorem info4:(Tryz.prog.info? 4).map (fun i=>(i.zero,i.size,i.bytes))=some (some (.bool false),1,1):=by kernel_rfl
def grow (Z:Nat→Prop) (w w':World):Nat→Prop:=fun b=>Z b∨(w.heap.size≤b∧b < w'.heap.size)
theorem push_gen {w w3:World} {y j:Nat} {cs:Array Value} {o:Obj} {tz ty:TypeId} {sz:Nat} {v s':Value} {n n':Nat} {l l':List Value} (heng:w.heap[y]?=some (.cells cs tz (0,0))) (hg:(w.alloc o).grownBy w3 v.ownBlock)
 (hown:w.ownsRow 0 ty sz v n l) (hown':w3.ownsRow 0 ty sz s' n' l') (hty:tz≠ty) :
 (w3.setCell ⟨y,j,none⟩ s').heap[y]?=some (.cells (cs.setIfInBounds j s') tz (0,0))∧(w3.setCell ⟨y,j,none⟩ s').ownsRow 0 ty sz s' n' l' ∧
 (∀ (ty2:TypeId) (sz2:Nat) (u:Value) (m:Nat) (k:List Value),w.ownsRow 0 ty2 sz2 u m k→tz≠ty2→(∀ g,u.ownBlock=some g→v.ownBlock≠some g)→(w3.setCell ⟨y,j,none⟩ s').ownsRow 0 ty2 sz2 u m k) ∧
 (∀ Z:Nat→Prop,Z y→(∀ g,v.ownBlock=some g→Z g)→Turned Z w (w3.setCell ⟨y,j,none⟩ s'))∧w.heap.size < (w3.setCell ⟨y,j,none⟩ s').heap.size:=by
 have hlt:=lt_of_block heng
 have hvy:v.ownBlock≠some y:=fun e=>by
  obtain ⟨cu,bq⟩:=ownsRow_block hown e
  exact tag_ne heng bq hty rfl
 have heng3:w3.heap[y]?=some (.cells cs tz (0,0)):=by
  rw [hg.block y (by simp;omega) (fun e=>hvy e.symm),Below.heap_alloc _ _ _ hlt]
  exact heng
 have hsz:w.heap.size+1≤w3.heap.size:=by have:=hg.size;simp at this;omega
 refine ⟨heap_setCell_same w3 y j cs tz s' heng3,?_,?_,?_,?_⟩
 ·refine ownsRow_setCell_other hown' (fun e=>?_) _
  obtain ⟨cu,bq⟩:=ownsRow_block hown' e
  exact tag_ne heng3 bq hty rfl
 ·intro ty2 sz2 u m k hu ht hne
  have h1:=(hu.alloc o).kept hg (by
   cases hb:u.ownBlock with
   | none=>exact Or.inl rfl
   | some g=>exact Or.inr (fun e=>hne g hb e.symm))
  refine ownsRow_setCell_other h1 (fun e=>?_) _
  obtain ⟨cu,bq⟩:=ownsRow_block hu e
  exact tag_ne heng bq ht rfl
 ·intro Z hy hz
  exact ((Turned.ofAlloc w o).trans (Turned.ofGrown hg (fun k hk _=>hz k hk))).trans (Turned.ofSet w3 _ _ hy)
 ·simp [World.setCell];omega
theorem size_set (w:World) (a:Addr) (v:Value):(w.setCell a v).heap.size=w.heap.size:=by simp [World.setCell]
theorem cell_one_set (w:World) (a:Addr) (v x:Value) (t:TypeId):∀ j u,[x][j]?=some u→((w.setCell a v).alloc (.cells #[x] t)).cell? ((⟨w.heap.size,0,none⟩:Addr).add j)=some u:=by
 have h:=cell_one_new (w.setCell a v) x t
 rw [size_set] at h
 exact h
theorem ref_done {w w1 wq w3 w4 w5:World} {Z:Nat→Prop} {y:Nat} {ds:List (List UInt8 × Bool)} {S1 S2 S3 v4:Value} {xs:List Value} {ws:List Bool} {oA oB oC:Obj} {gA gB gC cA cB cC n:Nat} {key:List UInt8} {num tv:Value}
 (hn:ds.length=n) (h1:RefOk w1 Z y ds S1 S2 S3 v4 xs ws) (hw:Turned Z w w1) (hq:wq.heap=w1.heap) (hqo:wq.os=w1.os) (hqt:wq.tape=w1.tape) (hqu:wq.output=w1.output)
 (grA:(wq.alloc oA).grownBy w3 S1.ownBlock) (owA:w3.ownsRow 0 185 3 (.slice (some ⟨gA,0,none⟩) (n+1) cA) (n+1) (xs++[.string ⟨key.toArray⟩,num,tv])) (atA:S1.ownBlock=some gA∨gA=w1.heap.size+1) (ltA:gA < w3.heap.size)
 (grB:((w3.setCell ⟨y,0,none⟩ (.slice (some ⟨gA,0,none⟩) (n+1) cA)).alloc oB).grownBy w4 S2.ownBlock) (owB:w4.ownsRow 0 4 1 (.slice (some ⟨gB,0,none⟩) (n+1) cB) (n+1) ((ds.map fun d=>.bool d.2)++[.bool true]))
 (atB:S2.ownBlock=some gB∨gB=(w3.setCell ⟨y,0,none⟩ (.slice (some ⟨gA,0,none⟩) (n+1) cA)).heap.size+1) (ltB:gB < w4.heap.size)
 (grC:((w4.setCell ⟨y,1,none⟩ (.slice (some ⟨gB,0,none⟩) (n+1) cB)).alloc oC).grownBy w5 S3.ownBlock) (owC:w5.ownsRow 0 4 1 (.slice (some ⟨gC,0,none⟩) (n+1) cC) (n+1) ((ws.map .bool)++[.bool true]))
 (atC:S3.ownBlock=some gC∨gC=(w4.setCell ⟨y,1,none⟩ (.slice (some ⟨gB,0,none⟩) (n+1) cB)).heap.size+1) (ltC:gC < w5.heap.size) :
 RefOk (w5.setCell ⟨y,2,none⟩ (.slice (some ⟨gC,0,none⟩) (n+1) cC)) (grow Z w (w5.setCell ⟨y,2,none⟩ (.slice (some ⟨gC,0,none⟩) (n+1) cC))) y (ds++[(key,true)]) (.slice (some ⟨gA,0,none⟩) (n+1) cA) (.slice (some ⟨gB,0,none⟩) (n+1) cB) (.slice (some ⟨gC,0,none⟩) (n+1) cC) v4 (xs++[.string ⟨key.toArray⟩,num,tv]) (ws++[true]) ∧
 Turned Z w (w5.setCell ⟨y,2,none⟩ (.slice (some ⟨gC,0,none⟩) (n+1) cC)):=by
 subst hn
 have hR:RefOk wq Z y ds S1 S2 S3 v4 xs ws:=RefOk.same h1 hq
 have hTq:Turned Z w wq:=⟨hqo.trans hw.os,hqt.trans hw.tape,hqu.trans hw.output,by rw [hq];exact hw.size,fun b hb hz=>by rw [hq];exact hw.block b hb hz⟩
 have n12:∀ g,S2.ownBlock=some g→S1.ownBlock≠some g:=fun g hg e=>by
  obtain ⟨cu,bq⟩:=ownsRow_block hR.own2 hg
  obtain ⟨cu',bq'⟩:=ownsRow_block hR.own1 e
  exact tag_ne bq bq' (by decide) rfl
 have n13:∀ g,S3.ownBlock=some g→S1.ownBlock≠some g:=fun g hg e=>by
  obtain ⟨cu,bq⟩:=ownsRow_block hR.own3 hg
  obtain ⟨cu',bq'⟩:=ownsRow_block hR.own1 e
  exact tag_ne bq bq' (by decide) rfl
 obtain ⟨E3,O3,X3,T3,S3s⟩:=push_gen (j:=0) hR.eng grA hR.own1 owA (by decide)
 have P2:=X3 _ _ _ _ _ hR.own2 (by decide) n12
 have P3:=X3 _ _ _ _ _ hR.own3 (by decide) n13
 have sz3:=size_set w3 ⟨y,0,none⟩ (.slice (some ⟨gA,0,none⟩) (ds.length+1) cA)
 have U3:=T3 Z hR.zy hR.z1
 generalize w3.setCell ⟨y,0,none⟩ (Value.slice (some ⟨gA,0,none⟩) (ds.length+1) cA)=W3 at *
 obtain ⟨E4,O4,X4,T4,S4s⟩:=push_gen (j:=1) E3 grB P2 owB (by decide)
 have nA2:∀ g,(Value.slice (some ⟨gA,0,none⟩) (ds.length+1) cA).ownBlock=some g→S2.ownBlock≠some g:=fun g hg e=>by
  obtain ⟨cu,bq⟩:=ownsRow_block O3 hg
  obtain ⟨cu',bq'⟩:=ownsRow_block P2 e
  exact tag_ne bq bq' (by decide) rfl
 have n23:∀ g,S3.ownBlock=some g→S2.ownBlock≠some g:=fun g hg e=>hR.apart g e hg
 have QA:=X4 _ _ _ _ _ O3 (by decide) nA2
 have Q3:=X4 _ _ _ _ _ P3 (by decide) n23
 have sz4:=size_set w4 ⟨y,1,none⟩ (.slice (some ⟨gB,0,none⟩) (ds.length+1) cB)
 have U4:=T4 Z hR.zy hR.z2
 generalize w4.setCell ⟨y,1,none⟩ (Value.slice (some ⟨gB,0,none⟩) (ds.length+1) cB)=W4 at *
 obtain ⟨E5,O5,X5,T5,S5s⟩:=push_gen (j:=2) E4 grC Q3 owC (by decide)
 have nB3:S3.ownBlock≠some gB:=fun e=>by
  have hlt:=(P3.lt gB e).2
  rcases atB with h | h
  ·exact hR.apart gB h e
  ·omega
 have nA3:∀ g,(Value.slice (some ⟨gA,0,none⟩) (ds.length+1) cA).ownBlock=some g→S3.ownBlock≠some g:=fun g hg e=>by
  obtain ⟨cu,bq⟩:=ownsRow_block QA hg
  obtain ⟨cu',bq'⟩:=ownsRow_block Q3 e
  exact tag_ne bq bq' (by decide) rfl
 have RA:=X5 _ _ _ _ _ QA (by decide) nA3
 have RB:=X5 _ _ _ _ _ O4 (by decide) (fun g hg=>by simp [Value.ownBlock] at hg;subst hg;exact nB3)
 have sz5:=size_set w5 ⟨y,2,none⟩ (.slice (some ⟨gC,0,none⟩) (ds.length+1) cC)
 have U5:=T5 Z hR.zy hR.z3
 generalize w5.setCell ⟨y,2,none⟩ (Value.slice (some ⟨gC,0,none⟩) (ds.length+1) cC)=W5 at *
 have hTot:Turned Z w W5:=((hTq.trans U3).trans U4).trans U5
 have hsq:wq.heap.size=w1.heap.size:=by rw [hq]
 have hs1:=hw.size
 have hlen:(ds++[(key,true)]).length=ds.length+1:=by simp
 refine ⟨⟨E5,?_,?_,?_,?_,Or.inl hR.zy,?_,?_,?_,?_⟩,hTot⟩
 ·rw [hlen];exact RA
 ·intro i d hi
  have hxl:xs.length=ds.length * 3:=hR.own1.1
  rw [List.getElem?_append] at hi
  split at hi
  ·rename_i hlt
   rw [List.getElem?_append_left (by omega)]
   exact hR.keys i d hi
  ·rename_i hge
   have hi0:i - ds.length=0:=by
    have:=(List.getElem?_eq_some_iff.1 hi).1
    simp at this
    omega
   rw [hi0] at hi
   simp at hi
   subst hi
   have:i=ds.length:=by omega
   subst this
   rw [List.getElem?_append_right (by omega),hxl]
   simp
 ·rw [hlen,List.map_append];exact RB
 ·rw [hlen,List.map_append];exact O5
 ·intro g hg
  simp [Value.ownBlock] at hg
  subst hg
  rcases atA with h | h
  ·exact Or.inl (hR.z1 _ h)
  ·exact Or.inr ⟨by omega,by omega⟩
 ·intro g hg
  simp [Value.ownBlock] at hg
  subst hg
  rcases atB with h | h
  ·exact Or.inl (hR.z2 _ h)
  ·exact Or.inr ⟨by omega,by omega⟩
 ·intro g hg
  simp [Value.ownBlock] at hg
  subst hg
  rcases atC with h | h
  ·exact Or.inl (hR.z3 _ h)
  ·exact Or.inr ⟨by omega,by omega⟩
 ·intro g hg hg3
  simp [Value.ownBlock] at hg hg3
  subst hg
  subst hg3
  rcases atC with h | h
  ·exact nB3 h
  ·omega
def docCells:List DocR→List Value→List Value
 | d :: l,t :: tv=>.string ⟨d.1.toArray⟩ :: natV d.2.1 :: t :: docCells l tv
 | _,_=>[]
structure DocsAt (w:World) (base:Nat) (v:Value) (l:List DocR) (tv:List Value):Prop where
 row:w.ownsRow base 185 3 v l.length (docCells l tv)
 len:tv.length=l.length
 toks:∀ (i:Nat) (d:DocR) (t:Value),l[i]?=some d→tv[i]?=some t→w.ownsRow base 9 1 t d.2.2.length (d.2.2.map strV)
 apart:∀ (i j:Nat) (a b:Value) (g:Nat),tv[i]?=some a→tv[j]?=some b→a.ownBlock=some g→b.ownBlock=some g→i=j
theorem docCells_get:∀ {l:List DocR} {tv:List Value} {i:Nat} {d:DocR} {t:Value},l[i]?=some d→tv[i]?=some t →
 (docCells l tv)[i * 3]?=some (.string ⟨d.1.toArray⟩)∧(docCells l tv)[i * 3+1]?=some (natV d.2.1)∧(docCells l tv)[i * 3+2]?=some t
 | e :: l,u :: tv,0,d,t,h1,h2=>by
   simp at h1 h2
   subst h1 h2
   simp [docCells]
 | e :: l,u :: tv,i+1,d,t,h1,h2=>by
   simp only [List.getElem?_cons_succ] at h1 h2
   have:=docCells_get h1 h2
   rw [show (i+1) * 3=i * 3+3 by omega]
   simpa [docCells] using this
 | [],_,i,d,t,h1,_=>by simp at h1
 | _ :: _,[],i,d,t,_,h2=>by simp at h2
theorem docCells_set:∀ {l:List DocR} {tv:List Value} {i:Nat} {f:List Bs→List Bs} {t':Value},i < l.length→tv.length=l.length →
 (docCells l tv).set (i * 3+2) t'=docCells (l.modify i fun d=>(d.1,d.2.1,f d.2.2)) (tv.set i t')
 | e :: l,u :: tv,0,f,t',_,_=>by simp [docCells]
 | e :: l,u :: tv,i+1,f,t',h1,h2=>by
   have:=@docCells_set l tv i f t' (by simpa using h1) (by simpa using h2)
   rw [show (i+1) * 3+2=i * 3+2+3 by omega]
   simp [docCells,this]
 | [],_,i,f,t',h,_=>by simp at h
 | _ :: _,[],i,f,t',_,h=>by simp at h
theorem DocsAt.turned {w w':World} {Z:Nat→Prop} {base:Nat} {v:Value} {l:List DocR} {tv:List Value} (h:DocsAt w base v l tv) (ht:Turned Z w w') (hz:∀ g,base≤g→¬ Z g):DocsAt w' base v l tv :=
 ⟨ownsRow_turned h.row ht fun g hg=>hz g (h.row.lt g hg).1,h.len,fun i d t hd htv=>ownsRow_turned (h.toks i d t hd htv) ht fun g hg=>hz g ((h.toks i d t hd htv).lt g hg).1,h.apart⟩
theorem DocsAt.tok {w:World} {base:Nat} {v:Value} {l:List DocR} {tv:List Value} (h:DocsAt w base v l tv) {i:Nat} {d:DocR} (hd:l[i]?=some d):∃ t,tv[i]?=some t:=by
 have:=(List.getElem?_eq_some_iff.1 hd).1
 exact ⟨tv[i]'(by rw [h.len];exact this),List.getElem?_eq_getElem _⟩
theorem DocsAt.cells {w:World} {base g n cap:Nat} {l:List DocR} {tv:List Value} (h:DocsAt w base (.slice (some ⟨g,0,none⟩) n cap) l tv) {i:Nat} {d:DocR} {t:Value} (hd:l[i]?=some d) (ht:tv[i]?=some t) :
 w.cell? ⟨g,i * 3,none⟩=some (.string ⟨d.1.toArray⟩)∧w.cell? ⟨g,i * 3+1,none⟩=some (natV d.2.1)∧w.cell? ⟨g,i * 3+2,none⟩=some t∧(∀ j,w.frozen? ⟨g,j,none⟩=false):=by
 have hi:=(List.getElem?_eq_some_iff.1 hd).1
 have hn:n=l.length:=by
  obtain ⟨_,_,_,e,_,_⟩:=ownsRow_shape h.row
  injection e
 subst hn
 obtain ⟨c0,c1,c2⟩:=docCells_get hd ht
 refine ⟨?_,?_,?_,fun j=>h.row.frozenAt j⟩
 ·rw [h.row.cellAt _ (by omega),c0]
 ·rw [h.row.cellAt _ (by omega),c1]
 ·rw [h.row.cellAt _ (by omega),c2]
theorem DocsAt.push {w w3:World} {base g n cap:Nat} {l:List DocR} {tv:List Value} {o:Obj} (h:DocsAt w base (.slice (some ⟨g,0,none⟩) n cap) l tv) {i:Nat} {d:DocR} {t t':Value} {x:Bs} (hd:l[i]?=some d) (ht:tv[i]?=some t)
 (hg:(w.alloc o).grownBy w3 t.ownBlock) (hown:w3.ownsRow base 9 1 t' (d.2.2.length+1) (d.2.2.map strV++[strV x])) (hat:∀ k,t'.ownBlock=some k→t.ownBlock=some k∨w.heap.size≤k) :
 DocsAt (w3.setCell ⟨g,i * 3+2,none⟩ t') base (.slice (some ⟨g,0,none⟩) n cap) (addT l i 1 x) (tv.set i t'):=by
 have hi:=(List.getElem?_eq_some_iff.1 hd).1
 have hil:i < tv.length:=by rw [h.len];exact hi
 have hn:n=l.length:=by
  obtain ⟨_,_,_,e,_,_⟩:=ownsRow_shape h.row
  injection e
 subst hn
 have hT:Turned (fun j=>t.ownBlock=some j) w w3:=(Turned.ofAlloc w o).trans (Turned.ofGrown hg (fun j hj _=>hj))
 have hgb:∃ cur,w.heap[g]?=some (.cells cur 185 (0,0)):=ownsRow_block h.row rfl
 obtain ⟨cur,hgb⟩:=hgb
 have hgl:=lt_of_block hgb
 have htg:¬ (t.ownBlock=some g):=fun e=>by
  obtain ⟨c2,hb2⟩:=ownsRow_block (h.toks i d t hd ht) e
  exact tag_ne hgb hb2 (by decide) rfl
 have hrow3:=ownsRow_turned h.row hT (fun k hk e=>htg (by injection hk with hk;subst hk;exact e))
 have hst:=hrow3.stored (i * 3+2) t'
 have hgb3:w3.heap[g]?=some (.cells cur 185 (0,0)):=(hT.block g hgl htg).trans hgb
 refine ⟨?_,by simp [addT,h.len],?_,?_⟩
 ·rw [docCells_set (f:=fun ts=>ts++List.replicate 1 x) hi h.len] at hst
  simpa [addT] using hst.1
 ·intro j d' u hd' hu
  rw [addT,List.getElem?_modify] at hd'
  rw [List.getElem?_set] at hu
  by_cases hij:i=j
  ·subst hij
   simp only [if_true,hil,Option.some.injEq] at hu
   subst hu
   rw [hd] at hd'
   simp at hd'
   subst hd'
   have:=ownsRow_setCell_other (a:=⟨g,i * 3+2,none⟩) hown (fun e=>by
    obtain ⟨c2,hb2⟩:=ownsRow_block hown e
    exact tag_ne hgb3 hb2 (by decide) rfl) t'
   simpa using this
  ·simp only [if_neg hij] at hu hd'
   have hd2:l[j]?=some d':=by simpa using hd'
   have h0:=h.toks j d' u hd2 hu
   refine ownsRow_setCell_other (ownsRow_turned h0 hT fun k hk e=>hij (h.apart i j t u k ht hu e hk)) (fun e=>?_) t'
   obtain ⟨c2,hb2⟩:=ownsRow_block h0 e
   exact tag_ne hgb hb2 (by decide) rfl
 ·intro a b u1 u2 k h1 h2 e1 e2
  rw [List.getElem?_set] at h1 h2
  by_cases hia:i=a
  ·by_cases hib:i=b
   ·omega
   ·subst hia
    simp only [if_true,hil,Option.some.injEq,if_neg hib] at h1 h2
    subst h1
    rcases hat k e1 with e | e
    ·exact h.apart i b t u2 k ht h2 e e2
    ·exfalso
     have hb:b < l.length:=by rw [← h.len];exact (List.getElem?_eq_some_iff.1 h2).1
     have:=((h.toks b l[b] u2 (List.getElem?_eq_getElem hb) h2).lt k e2).2
     omega
  ·by_cases hib:i=b
   ·subst hib
    simp only [if_true,hil,Option.some.injEq,if_neg hia] at h1 h2
    subst h2
    rcases hat k e2 with e | e
    ·exact h.apart a i u1 t k h1 ht e1 e
    ·exfalso
     have ha:a < l.length:=by rw [← h.len];exact (List.getElem?_eq_some_iff.1 h1).1
     have:=((h.toks a l[a] u1 (List.getElem?_eq_getElem ha) h1).lt k e1).2
     omega
   ·simp only [if_neg hia,if_neg hib] at h1 h2
    exact h.apart a b u1 u2 k h1 h2 e1 e2
theorem DocsAt.pushT {w w3:World} {base g n cap:Nat} {l:List DocR} {tv:List Value} {o:Obj} (h:DocsAt w base (.slice (some ⟨g,0,none⟩) n cap) l tv) {i:Nat} {d:DocR} {t:Value} (t':Value) (hd:l[i]?=some d) (ht:tv[i]?=some t)
 (hg:(w.alloc o).grownBy w3 t.ownBlock):Turned (fun k=>base≤k) w (w3.setCell ⟨g,i * 3+2,none⟩ t') :=
 ((Turned.ofAlloc w o).trans (Turned.ofGrown hg (fun j hj _=>((h.toks i d t hd ht).lt j hj).1))).trans (Turned.ofSet _ _ _ (h.row.lt g rfl).1)
end Go.Proofs.YtaacjjhmojecnaaGreatDoor
namespace Go.ScT
theorem rBlks_end {t:Bs} {f left next:Nat} {l:List DocR} {st:RSt} (h:left=0∨st.2=true):rBlks t f left next l st=(l,st):=by
 cases f with
 | zero=>rfl
 | succ f=>simp only [rBlks,if_pos h]
theorem rBlks_none {t:Bs} {f left next:Nat} {l:List DocR} {st st':RSt} (h:¬ (left=0∨st.2=true)) (hf:left≤f) (hs:rSteps (min 4 left) (rHead st)=(none,st')):rBlks t f left next l st=(l,st'):=by
 cases f with
 | zero=>exact absurd (Or.inl (by omega)) h
 | succ f=>simp only [rBlks,if_neg h,hs]
theorem rBlks_bad {t:Bs} {f left next:Nat} {l:List DocR} {st st':RSt} {x:List Nat × List Nat} (h:¬ (left=0∨st.2=true)) (hf:left≤f) (hs:rSteps (min 4 left) (rHead st)=(some x,st')) (hb:st'.2=true):rBlks t f left next l st=(l,st'):=by
 cases f with
 | zero=>exact absurd (Or.inl (by omega)) h
 | succ f=>simp only [rBlks,if_neg h,hs,if_pos hb]
theorem rBlks_fail {t:Bs} {f left next:Nat} {l:List DocR} {st st':RSt} {x:List Nat × List Nat} (h:¬ (left=0∨st.2=true)) (hf:left≤f) (hs:rSteps (min 4 left) (rHead st)=(some x,st')) (hb:st'.2=false) (hp:(rPut t x.1 x.2 next l).1=true) :
 rBlks t f left next l st=((rPut t x.1 x.2 next l).2.2,(st'.1,true)):=by
 cases f with
 | zero=>exact absurd (Or.inl (by omega)) h
 | succ f=>simp only [rBlks,if_neg h,hs,hb,Bool.false_eq_true,if_false,if_pos hp]
theorem rBlks_ok' {t:Bs} {f left next:Nat} {l:List DocR} {st st':RSt} {x:List Nat × List Nat} (h:¬ (left=0∨st.2=true)) (hs:rSteps (min 4 left) (rHead st)=(some x,st')) (hb:st'.2=false) (hp:(rPut t x.1 x.2 next l).1=false) :
 rBlks t (f+1) left next l st=rBlks t f (left - min 4 left) (rPut t x.1 x.2 next l).2.1 (rPut t x.1 x.2 next l).2.2 st':=by
 simp only [rBlks,if_neg h,hs,hb,hp,Bool.false_eq_true,if_false]
theorem rPut_len {t:Bs}:∀ {ss qq:List Nat} {next:Nat} {l:List DocR},(rPut t ss qq next l).2.2.length=l.length
 | [],_,_,_=>rfl
 | _ :: _,[],_,_=>rfl
 | s :: ss,q :: qq,next,l=>by
   simp only [rPut]
   split
   ·rfl
   ·rw [rPut_len];simp [addT]
theorem rPut_step {t:Bs} {ss qq:List Nat} {k next:Nat} {l:List DocR} {s q:Nat} (h1:ss[k]?=some s) (h2:qq[k]?=some q) :
 rPut t (ss.drop k) (qq.drop k) next l=if l.length≤next+s∨40≤toksL l (next+s)+q then (true,next,l) else rPut t (ss.drop (k+1)) (qq.drop (k+1)) (next+s+1) (addT l (next+s) (q+1) t):=by
 obtain ⟨hk1,e1⟩:=List.getElem?_eq_some_iff.1 h1
 obtain ⟨hk2,e2⟩:=List.getElem?_eq_some_iff.1 h2
 rw [List.drop_eq_getElem_cons hk1,List.drop_eq_getElem_cons hk2,e1,e2]
 rfl
theorem rPut_end {t:Bs} {ss qq:List Nat} {k next:Nat} {l:List DocR} (h1:ss.length≤k):rPut t (ss.drop k) (qq.drop k) next l=(false,next,l):=by
 rw [List.drop_eq_nil_of_le h1]
 rfl
theorem addT_addT (l:List DocR) (i a b:Nat) (t:Bs):addT (addT l i a t) i b t=addT l i (a+b) t:=by
 unfold addT
 rw [List.modify_modify_eq]
 congr 1
 funext d
 simp [List.replicate_append_replicate]
theorem addT_zero (l:List DocR) (i:Nat) (t:Bs):addT l i 0 t=l:=by
 unfold addT
 apply List.ext_getElem?
 intro j
 rw [List.getElem?_modify]
 cases h:l[j]? with
 | none=>rfl
 | some d=>by_cases e:i=j <;> simp [e]
theorem addT_get {l:List DocR} {i n:Nat} {t:Bs} {d:DocR} (h:l[i]?=some d):(addT l i n t)[i]?=some (d.1,d.2.1,d.2.2++List.replicate n t):=by
 unfold addT
 rw [List.getElem?_modify,h]
 simp
theorem addT_len (l:List DocR) (i n:Nat) (t:Bs):(addT l i n t).length=l.length:=by simp [addT]
theorem rVar_lt (most:Nat) (st:RSt):(rVar most st).1 < 2097152:=by
 unfold rVar rFin
 have h1:∀ s,(rByte s).1 < 256:=by
  intro s;unfold rByte;split
  ·rename_i b t;exact b.toNat_lt
  ·simp
 have a:=h1 st
 have b:=h1 (rByte st).2
 split
 ·simp only;omega
 ·split
  ·simp only;omega
  ·simp only;omega
theorem rVar_good {most:Nat} {st:RSt} (h:(rVar most st).2.2=false):(rVar most st).1≤most:=by
 have:∀ n s,(rFin most n s).2.2=false→(rFin most n s).1≤most:=by
  intro n s h
  unfold rFin at h ⊢
  simp only [Bool.or_eq_false_iff,decide_eq_false_iff_not] at h
  simp only
  omega
 unfold rVar at h ⊢
 split at h <;> rename_i h1
 ·simp only [h1,if_true];exact this _ _ h
 ·simp only [h1,if_false]
  split at h <;> rename_i h2
  ·simp only [h2,if_true];exact this _ _ h
  ·simp only [h2,if_false];exact this _ _ h
theorem rNums_len (w:Nat):∀ (k:Nat) (x:RBt),(rNums w k x).1.length=k
 | 0,_=>rfl
 | k+1,x=>by simp [rNums,rNums_len w k]
theorem rBits_len (k w:Nat) (st:RSt):(rBits k w st).1.length=k:=rNums_len w k _
theorem rBit_lt (x:RBt):(rBit x).1≤1:=by unfold rBit;simp only;omega
theorem rNum_lt:∀ (m k n:Nat) (x:RBt),n < 2 ^ k→(rNum k m n x).1 < 2 ^ (k+m)
 | 0,k,n,x,h=>h
 | m+1,k,n,x,h=>by
   simp only [rNum]
   have h1:=rBit_lt x
   have h2:(rBit x).1 * 2 ^ k≤1 * 2 ^ k:=Nat.mul_le_mul_right _ h1
   have:=rNum_lt m (k+1) (n+(rBit x).1 * 2 ^ k) (rBit x).2 (by rw [Nat.pow_succ];omega)
   rw [show k+(m+1)=k+1+m by omega]
   exact this
theorem rNums_lt (w:Nat) (hw:w≤8):∀ (k:Nat) (x:RBt),∀ n∈(rNums w k x).1,n < 2097152
 | 0,_,n,h=>by simp [rNums] at h
 | k+1,x,n,h=>by
   simp only [rNums,List.mem_cons] at h
   rcases h with rfl | h
   ·have h1:=rNum_lt w 0 0 x (by simp)
    have h2:2 ^ (0+w)≤2 ^ 8:=Nat.pow_le_pow_right (by omega) (by omega)
    omega
   ·exact rNums_lt w hw k _ n h
theorem rBits_lt (k w:Nat) (hw:w≤8) (st:RSt):∀ n∈(rBits k w st).1,n < 2097152:=rNums_lt w hw k _
theorem rPairs_lt:∀ (k:Nat) (st:RSt),(∀ n∈(rPairs k st).1.1,n < 2097152)∧(∀ n∈(rPairs k st).1.2,n < 2097152)
 | 0,_=>by simp [rPairs]
 | k+1,st=>by
   have ih:=rPairs_lt k (rVar 40 (rVar 100 st).2).2
   have h1:=rVar_lt 100 st
   have h2:=rVar_lt 40 (rVar 100 st).2
   constructor
   ·intro n hn
    simp only [rPairs,List.mem_cons] at hn
    rcases hn with rfl | hn
    ·exact h1
    ·exact ih.1 n hn
   ·intro n hn
    simp only [rPairs,List.mem_cons] at hn
    rcases hn with rfl | hn
    ·exact h2
    ·exact ih.2 n hn
end Go.ScT
