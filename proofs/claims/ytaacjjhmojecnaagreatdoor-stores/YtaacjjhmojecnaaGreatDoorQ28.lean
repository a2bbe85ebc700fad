import Derived.Test.YtaacjjhmojecnaaGreatDoorQ27
import Derived.Deep.RegionLawGrows
import Derived.Deep.RegionWith
import Derived.Deep.CutRange
namespace Go.Proofs.YtaacjjhmojecnaaGreatDoor
open Go.RowKit Go.ScT Go.Proofs Go.Shelf
open Go.Maps (Keyed string_keyed)
structure BufX (w:World) (e mw:Nat) (c0 c1 c4 dv:Value) (ds:List DocP) (β:BT) (f:Bs→Pls) (nW:Nat) (DW:DataW Unit):Prop where
 eng:w.heap[e]?=some (.cells #[c0,c1,dv,.map (some mw),c4] 87 (0,0))
 docs:DRow w 0 dv ds
 words:w.ownsMap Tryz.prog 9 sliceE mw nW DW
 rel:WordsRel w DW β f
 eT:¬ InW β f e
 wT:¬ InW β f mw
 dT:∀ g,dv.ownBlock=some g→¬ InW β f g∧g≠e∧g≠mw
 em:e≠mw
def ZX (e mw:Nat) (dv:Value) (β:BT) (f:Bs→Pls):Nat→Prop:=fun b=>b=e∨b=mw∨dv.ownBlock=some b∨InW β f b
theorem BufX.turned {w w':World} {Z:Nat→Prop} {e mw:Nat} {c0 c1 c4 dv:Value} {ds:List DocP} {β:BT} {f:Bs→Pls} {nW:Nat} {DW:DataW Unit} (h:BufX w e mw c0 c1 c4 dv ds β f nW DW) (ht:Turned Z w w') (hz:∀ b,ZX e mw dv β f b→¬ Z b):BufX w' e mw c0 c1 c4 dv ds β f nW DW :=
 ⟨(ht.block e (lt_of_block h.eng) (hz e (Or.inl rfl))).trans h.eng,rowX_turned h.docs ht (fun g hg=>hz g (Or.inr (Or.inr (Or.inl hg)))),ownsMap_turned h.words ht (hz mw (Or.inr (Or.inl rfl))),h.rel.turned ht (fun b hb=>hz b (Or.inr (Or.inr (Or.inr hb)))),h.eT,h.wT,h.dT,h.em⟩
theorem word_at {w:World} {D:DataW Unit} {β:BT} {F:Bs→Pls} {k:Bs} {g n cap:Nat} (h:WordsRel w D β F) (hat:∀ zd,D.atKey (.string k) zd=dat g n cap) :
 F k≠[]∧β k=(g,cap)∧n=(F k).length∧WRow w (.slice (some ⟨g,0,none⟩) n cap) (F k):=by
 have hne:F k≠[]:=fun e=>by
  have hh:Maps.has D (.string k)=false:=by
   cases hb:Maps.has D (.string k)
   ·rfl
   ·exact absurd e ((h.has k).1 hb)
  have h1:=(Maps.atKey_of_not_has hh .nil).symm.trans (hat .nil)
  unfold dat at h1
  cases h1
 have h2:=dat_inj ((hat .nil).symm.trans (h.at_ k hne .nil))
 obtain ⟨h3,h4,h5⟩:=h2
 have h6:=h.row k hne
 unfold rowV at h6
 rw [← h3,← h4,← h5] at h6
 exact ⟨hne,Prod.ext h3.symm h5.symm,h4,h6⟩
theorem key9_lit {s:ByteArray} {kl:Lit} (h:keyOf Tryz.prog 9 (.string s)=some kl):kl=.string s.data.toList:=by
 simp [keyOf,Tryz.underlying9,mapKey] at h
 exact h.2.symm
theorem ownB_len (ao:Option Addr) (n n' c:Nat):(Value.slice ao n c).ownBlock=(Value.slice ao n' c).ownBlock:=by cases ao <;> rfl
theorem inW_less {β:BT} {f:Bs→Pls} {num b:Nat} (h:InW β (fun k=>less num (f k)) b):InW β f b:=by
 obtain ⟨k,hk,hb⟩:=h
 exact ⟨k,fun e=>hk (by show less num (f k)=[];rw [e];rfl),hb⟩
theorem fcur_ne {num:Nat} {left:Lit→Bool} {f:Bs→Pls} {k:Bs} (h:fcur num left f k≠[]):f k≠[]:=fun e=>h (by
 unfold fcur
 split
 ·exact e
 ·rw [e];rfl)
theorem less_len (num:Nat) (l:Pls):(less num l).length≤l.length:=List.length_filter_le _ _
set_option maxHeartbeats 2000000 in
set_option maxRecDepth 1000000 in
theorem dropX_any {w:World} {e mw:Nat} {c0 c1 c4 dv:Value} {ds:List DocP} {β:BT} {f:Bs→Pls} {nW:Nat} {DW:DataW Unit} (hb:BufX w e mw c0 c1 c4 dv ds β f nW DW) (hds:ds.length≤10000) (hf:∀ k,(f k).length≤10000) (hnW:nW < maxLen) (num:Nat) :
 Calls Tryz.prog 83 #[.pointer (some ⟨e,2,none⟩),natV num] w fun en w'=>en=.returned (.tuple #[])∧(∃ dv' DW',BufX w' e mw c0 c1 c4 dv' (lessD num ds) β (fun k=>less num (f k)) nW DW'∧dv'.ownBlock=dv.ownBlock)∧Turned (ZX e mw dv β f) w w':=by
 obtain ⟨_,dcap,ao,hdv,_,_⟩:=ownsRow_shape hb.docs
 obtain ⟨dn,hdn⟩:∃ n,n=ds.length:=⟨_,rfl⟩
 rw [← hdn] at hdv hds
 subst hdv
 have hmf:∀ (fn:Fn) (first cap:Array Value) (w:World),(Instr.makeFunc fn first cap).run Tryz.prog w=.ok (.func fn first cap) w:=fun _ _ _ _=>rfl
 have hel:=lt_of_block hb.eng
 have hml:=hb.words.lt
 have hdl:∀ g,(Value.slice ao dn dcap).ownBlock=some g→g < w.heap.size:=fun g hg=>(hb.docs.lt g hg).2
 have q2:=(cell_five hb.eng).2.2.1
 have p2:∀ o,(w.alloc o).cell? ⟨e,2,none⟩=some (.slice ao dn dcap):=fun o=>by rw [World.cell?_of_block (Below.heap_alloc _ _ _ hel)];exact q2
 have CD:=hid (deleteDoc_x (w:=w.alloc (.cells #[.int .i64 (num:Int)] 3)) (ao:=ao) (n:=dn) (cap:=dcap) (B:=w.heap.size) (num:=num) (l:=ds) (hb.docs.alloc _) hdn hds (by simp) (by simp) (fun h=>by have:=hdl _ h;omega))
 obtain ⟨dn',hdn'⟩:∃ n,n=(lessD num ds).length:=⟨_,rfl⟩
 rw [← hdn'] at CD
 have AFT:Hid (∀ w1,DRow w1 0 (.slice ao dn' dcap) (lessD num ds)→Turned (fun b=>(Value.slice ao dn dcap).ownBlock=some b) (w.alloc (.cells #[.int .i64 (num:Int)] 3)) w1→w1.heap[e]?=some (.cells #[c0,c1,.slice ao dn dcap,.map (some mw),c4] 87 (0,0))∧BufX (w1.setCell ⟨e,2,none⟩ (.slice ao dn' dcap)) e mw c0 c1 c4 (.slice ao dn' dcap) (lessD num ds) β f nW DW∧Turned (ZX e mw (.slice ao dn dcap) β f) w (w1.setCell ⟨e,2,none⟩ (.slice ao dn' dcap))∧(w1.setCell ⟨e,2,none⟩ (.slice ao dn' dcap)).cell? ⟨w.heap.size,0,none⟩=some (.int .i64 (num:Int))∧w.heap.size < (w1.setCell ⟨e,2,none⟩ (.slice ao dn' dcap)).heap.size):=by
  intro w1 hd' ht'
  have hee:¬ ((Value.slice ao dn dcap).ownBlock=some e):=fun h=>(hb.dT e h).2.1 rfl
  have E1:w1.heap[e]?=some (.cells #[c0,c1,.slice ao dn dcap,.map (some mw),c4] 87 (0,0)):=by
   rw [ht'.block e (by simp;omega) hee,Below.heap_alloc _ _ _ hel];exact hb.eng
  have T1:Turned (fun b=>(Value.slice ao dn dcap).ownBlock=some b) w w1:=(Turned.ofAlloc w _).trans ht'
  have T2:Turned (fun b=>b=e) w1 (w1.setCell ⟨e,2,none⟩ (.slice ao dn' dcap)):=Turned.ofSet w1 _ _ rfl
  have hsz:=ht'.size
  simp at hsz
  refine ⟨E1,⟨heap_setCell_same w1 e 2 _ 87 _ E1,?_,?_,?_,hb.eT,hb.wT,fun g hg=>hb.dT g ((ownB_len ao dn dn' dcap).trans hg),hb.em⟩,?_,?_,?_⟩
  ·exact rowX_turned hd' T2 (fun g hg=>(hb.dT g ((ownB_len ao dn dn' dcap).trans hg)).2.1)
  ·exact ownsMap_turned (ownsMap_turned hb.words T1 (fun h=>(hb.dT _ h).2.2 rfl)) T2 (fun h=>hb.em h.symm)
  ·exact (hb.rel.turned T1 (fun g hg h=>(hb.dT g h).1 hg)).turned T2 (fun g hg (h:g=e)=>hb.eT (h ▸ hg))
  ·exact (T1.mono (fun i _ h=>Or.inr (Or.inr (Or.inl h)))).trans (T2.mono (fun i _ h=>Or.inl h))
  ·rw [World.cell?_of_block (Below.heap_setCell _ _ _ _ (by simp;omega)),World.cell?_of_block (w:=w.alloc (.cells #[.int .i64 (num:Int)] 3)) (ht'.block w.heap.size (by simp) (fun h=>by have:=hdl _ h;omega))]
   simp
  ·simp [World.setCell];omega
 have HB:=hid hb
 have HDN:=hid hdn
 have HDN':=hid hdn'
 have HF:=hid hf
 have HDL:=hid hdl
 clear hb hdn hdn' hf hdl
 go_enter Tryz.func83,Tryz.ntmps83
 go_wp2_with fail
 refine CD.out.mono ?_
 rintro en w1 ⟨rfl,hd',ht'⟩
 obtain ⟨E1,AF⟩:=AFT.out w1 hd' ht'
 have AFH:=hid AF
 have r3:=(cell_five E1).2.2.2.1
 have r2:=(cell_five E1).2.2.1
 have rf:=frozen_five E1 2
 clear hd' ht' AF AFT CD p2 q2 hmf
 go_wp2_with (at_range;generalize (w1.setCell ⟨e,2,none⟩ (.slice ao dn' dcap))=w2 at AFH ⊢;refine wpList_range_own _ rfl _ 83 rfl 9 173 law9 Tryz.underlying83 _ mw nW DW rfl AFH.out.1.words ?_;intro w3 hrg0 hg0 hs0)
 clear r3 r2 rf E1 w1
 go_frame
 have H3:Hid (BufX w3 e mw c0 c1 c4 (.slice ao dn' dcap) (lessD num ds) β f nW DW∧Turned (ZX e mw (.slice ao dn dcap) β f) w w3∧w3.cell? ⟨w.heap.size,0,none⟩=some (.int .i64 (num:Int))∧w.heap.size < w3.heap.size∧¬ InW β f w.heap.size∧¬ InW β f w2.heap.size∧w.heap.size≠mw∧w.heap.size≠w2.heap.size):=by
  obtain ⟨B,t,c,l⟩:=AFH.out
  have t3:Turned (fun _=>False) w2 w3:=Turned.ofGrown hg0 (fun k hk=>by cases hk)
  refine ⟨B.turned t3 (fun _ _ h=>h),t.trans (t3.mono (fun _ _ h=>h.elim)),?_,by omega,fun h=>?_,fun h=>?_,by omega,by omega⟩
  ·rw [World.cell?_of_block (w:=w2) (t3.block _ l (fun h=>h))];exact c
  ·have:=HB.out.rel.lt h;omega
  ·have:=B.rel.lt h;omega
 have HG:Hid (w3.ranges Tryz.prog 9 sliceE mw w2.heap.size nW DW (Maps.has DW) (Maps.size DW)):=hrg0
 have hmf:∀ (fn:Fn) (first cap:Array Value) (w:World),(Instr.makeFunc fn first cap).run Tryz.prog w=.ok (.func fn first cap) w:=fun _ _ _ _=>rfl
 have hsz3:Hid (w3.heap.size=w2.heap.size+1):=hs0
 have hw2:Hid (w.heap.size < w2.heap.size):=AFH.out.2.2.2
 clear AFH hg0 hs0 hrg0
 go_loopw [4] (fun _ wr=>∃ D left cnt,Hid (wr.ranges Tryz.prog 9 sliceE mw w2.heap.size nW D left cnt)∧Hid (WordsRel wr D β (fcur num left f))∧Hid (Turned (fun b=>b=mw∨b=w2.heap.size∨InW β f b) w3 wr)) (fun _ wr=>wr.rangeLeft mw w2.heap.size)
 case atStart=>exact ⟨DW,_,_,HG,by rw [fcur_start num H3.out.1.rel.has];exact H3.out.1.rel,Turned.refl _ _⟩
 case round =>
  obtain ⟨D,left,cnt,hrg,hR,htu⟩:=hrel
  go_wp2_with (first | (at_next;refine wpList_next_ranges _ rfl _ rfl 9 law9 sliceE Value.string (fun c:Nat × Nat × Nat=>.slice (some ⟨c.1,0,none⟩) c.2.1 c.2.2) (fun key kl h=>keyOf9_inv h) (fun v y h=>by obtain ⟨a,n,c,h1,_⟩:=sliceE_inv h;exact ⟨(a,n,c),h1⟩) mw w2.heap.size nW D left cnt rfl hrg.out ?_ ?_) | go_in)
  ·intro _ hdone
   have HDO:=hid hdone
   clear hdone
   go_wp2
   go_end0
   obtain ⟨B3,t3,c3,l3,n1,n2,n3,n4⟩:=H3.out
   have hz2:=hsz3.out
   have hz3:=hw2.out
   have hrel:=hR.out
   rw [fcur_done num f HDO.out] at hrel
   refine ⟨rfl,⟨.slice ao dn' dcap,D,⟨(htu.out.block e (lt_of_block B3.eng) ?_).trans B3.eng,rowX_turned B3.docs htu.out ?_,hrg.out.owns,hrel,fun h=>B3.eT (inW_less h),fun h=>B3.wT (inW_less h),fun g hg=>⟨fun h=>(B3.dT g hg).1 (inW_less h),(B3.dT g hg).2⟩,B3.em⟩,ownB_len _ _ _ _⟩,t3.trans2 htu.out ?_⟩
   ·rintro (h | h | h)
    ·exact B3.em h
    ·omega
    ·exact B3.eT h
   ·intro g hg
    have hlt:=HDL.out g ((ownB_len ao dn dn' dcap).trans hg)
    rintro (h | h | h)
    ·exact (B3.dT g hg).2.2 h
    ·omega
    ·exact (B3.dT g hg).1 h
   ·rintro b hb' (h | h | h)
    ·exact Or.inr (Or.inl h)
    ·omega
    ·exact Or.inr (Or.inr (Or.inr h))
  ·intro x pa pn pc kl y1 y2 w4 cnt4 hkey hlk hv hat hrg4 hlt hg4 hs4 hen
   obtain rfl:=key9_lit hkey
   obtain ⟨k,hk⟩:∃ k,k=x.data.toList:=⟨_,rfl⟩
   rw [← hk] at hkey hlk hat hrg4
   have hy:y1=dat pa pn pc:=by
    rw [sliceE_mk] at hv
    simp at hv
    exact hv.1.symm
   subst hy
   have t4:Turned (fun b=>b=w2.heap.size) wr w4:=Turned.ofGrown hg4 (fun k hk _=>by cases hk;rfl)
   have hrel4:WordsRel w4 D β (fcur num left f):=hR.out.turned t4 (fun b hb (h:b=w2.heap.size)=>H3.out.2.2.2.2.2.1 (by
    obtain ⟨q,hq,hqb⟩:=hb
    exact ⟨q,fcur_ne hq,hqb.trans h⟩))
   obtain ⟨hne,hβ,hpn,hrow⟩:=word_at hrel4 hat
   have hfk:fcur num left f k=f k:=by unfold fcur;rw [if_pos hlk]
   rw [hfk] at hne hpn hrow
   have hβ1:(β k).1=pa:=by rw [hβ]
   have hinW:InW β f pa:=⟨k,hne,hβ1⟩
   have hpnle:pn≤10000:=by rw [hpn];exact HF.out k
   have hpaN:pa≠w.heap.size:=fun h=>H3.out.2.2.2.2.1 (h ▸ hinW)
   have F4:Hid (Turned (fun b=>b=mw∨b=w2.heap.size∨InW β f b) w3 w4∧w4.cell? ⟨w.heap.size,0,none⟩=some (.int .i64 (num:Int))∧w.heap.size < w4.heap.size∧w4.heap[e]?=some (.cells #[c0,c1,.slice ao dn' dcap,.map (some mw),c4] 87 (0,0))):=by
    obtain ⟨B3,t3,c3,l3,n1,n2,n3,n4⟩:=H3.out
    have hz2:=hsz3.out
    have hz3:=hw2.out
    have t34:=htu.out.trans (t4.mono (Z':=fun b=>b=mw∨b=w2.heap.size∨InW β f b) (fun b _ h=>Or.inr (Or.inl h)))
    refine ⟨t34,?_,Nat.lt_of_lt_of_le l3 t34.size,?_⟩
    ·rw [World.cell?_of_block (w:=w3) (t34.block _ l3 ?_)]
     ·exact c3
     ·rintro (h | h | h)
      ·exact n3 h
      ·exact n4 h
      ·exact n1 h
    ·rw [t34.block e (lt_of_block B3.eng) ?_]
     ·exact B3.eng
     ·rintro (h | h | h)
      ·exact B3.em h
      ·have:=lt_of_block HB.out.eng;omega
      ·exact B3.eT h
   have C94:=hid (deletePl_x hrow hpn hpnle F4.out.2.1 F4.out.2.2.1 (fun h=>hpaN (by simpa [Value.ownBlock] using h)))
   have HRG4:=hid hrg4
   have HREL4:=hid hrel4
   have HAT:=hid hat
   have HKEY:=hid hkey
   have HPN:=hid hpn
   have HNE:=hid hne
   have HIN:=hid hinW
   have HBE:=hid hβ
   have HLK:=hid hlk
   have HFK:=hid hfk
   obtain ⟨pn5,hpn5⟩:∃ n,n=(less num (f k)).length:=⟨_,rfl⟩
   rw [← hpn5] at C94
   have HPN5:=hid hpn5
   have hmf:∀ (fn:Fn) (first cap:Array Value) (w:World),(Instr.makeFunc fn first cap).run Tryz.prog w=.ok (.func fn first cap) w:=fun _ _ _ _=>rfl
   have hp5:pn5≤10000:=by rw [hpn5];exact Nat.le_trans (less_len _ _) (HF.out k)
   clear hrg4 hat hkey hrel4 hrow hpn hne hinW hβ hβ1 hlk hfk hk t4 hv hpn5
   go_wp2_with fail
   refine C94.out.mono ?_
   rintro en w5 ⟨rfl,hrow5,ht5⟩
   have ht5':Turned (fun b=>b=pa) w4 w5:=ht5.mono (fun b _ h=>by simpa [Value.ownBlock] using h.symm)
   have hpae:pa≠e:=fun h=>H3.out.1.eT (h ▸ HIN.out)
   have hpam:pa≠mw:=fun h=>H3.out.1.wT (h ▸ HIN.out)
   have hpar:pa≠w2.heap.size:=fun h=>H3.out.2.2.2.2.2.1 (h ▸ HIN.out)
   have E5:w5.heap[e]?=some (.cells #[c0,c1,.slice ao dn' dcap,.map (some mw),c4] 87 (0,0)):=(ht5'.block e (lt_of_block F4.out.2.2.2) (fun h=>hpae h.symm)).trans F4.out.2.2.2
   have r3:=(cell_five E5).2.2.2.1
   have HG5:Hid (w5.ranges Tryz.prog 9 sliceE mw w2.heap.size nW D (fun z=>left z && !z.sameKey (.string k)) cnt4):=ranges_turned HRG4.out ht5' (fun h=>hpam h.symm) (fun h=>hpar h.symm)
   have HT5:Hid (Turned (fun b=>b=mw∨b=w2.heap.size∨InW β f b) w3 w5):=F4.out.1.trans (ht5'.mono (fun b _ h=>Or.inr (Or.inr (by rw [h];exact HIN.out))))
   have HR5:=hid hrow5
   have HT45:=hid ht5'
   have HAP:Hid (∀ k',k'≠k→fcur num left f k'≠[]→¬ ((fun b=>b=pa∨b=mw) (β k').1)):=by
    intro k' hk' hf'
    have hin':InW β f (β k').1:=⟨k',fcur_ne hf',rfl⟩
    rintro (h | h)
    ·refine hk' (HREL4.out.apart k' k hf' (by rw [HFK.out];exact HNE.out) ?_)
     rw [h,HBE.out]
    ·exact H3.out.1.wT (h ▸ hin')
   clear E5 ht5 hmf hpae hpam hpar hrow5 ht5'
   by_cases hn5:pn5=0
   ·have hn6:=slice_eq_zero hn5
    have HZ5:Hid (less num (f k)=[]):=List.eq_nil_of_length_eq_zero (by rw [← HPN5.out];exact hn5)
    clear hn5
    go_wp2_with (first | (at_delete;refine wpList_delete_ranges _ rfl _ _ 83 9 rfl 173 law9 Tryz.underlying83 sliceE mw w2.heap.size nW D _ cnt4 rfl HG5.out (.string x) (.string k) rfl HKEY.out ?_;intro w6 cnt6 hrg6 hle6 hmt6) | go_in)
    try go_frame
    have HREL6:Hid (WordsRel w6 (D.del (.string k)) β (fcur num (fun z=>(left z && !z.sameKey (.string k)) && !z.sameKey (.string k)) f)):=by
     have t56:Turned (fun b=>b=pa∨b=mw) w4 w6:=(HT45.out.mono (fun b _ h=>Or.inl h)).trans (Turned.ofGrown hmt6.grown (fun k hk _=>by cases hk;exact Or.inr rfl))
     have:=HREL4.out.del t56 HAP.out
     have e1:(fun z:Lit=>(left z && !z.sameKey (.string k)) && !z.sameKey (.string k))=(fun z=>left z && !z.sameKey (.string k)):=by
      funext z
      cases left z <;> cases z.sameKey (.string k) <;> rfl
     show WordsRel _ _ _ (fcur num _ f)
     rw [e1,fcur_step,HZ5.out]
     exact this
    go_roundw
    case rel=>exact ⟨_,_,_,hrg6,HREL6,HT5.out.trans (Turned.ofGrown hmt6.grown (fun k hk _=>by cases hk;exact Or.inl rfl))⟩
    case measure=>rw [hrg6.left_eq,hrg.out.left_eq];omega
   ·have hn6:=slice_ne_zero hn5
    have HZ5:Hid (less num (f k)≠[]):=fun h=>hn5 (by rw [HPN5.out,h];rfl)
    clear hn5
    go_wp2_with (first | (at_mapUpdate;refine wpList_put_ranges _ rfl _ _ _ 83 rfl 9 173 law9 Tryz.underlying83 (.slice none 0 0) (Tryz.zeroValue173 _) sliceE mw w2.heap.size nW D _ cnt4 rfl HG5.out (.string x) (.slice (some ⟨pa,0,none⟩) pn5 pc) (.string k) rfl rfl HKEY.out (dat pa pn5 pc,[]) hnW rfl _ HAT.out ?_;intro w6 hrg6 hg6 hs6) | go_in)
    try go_frame
    have HREL6:Hid (WordsRel w6 (D.put (.string k) (dat pa pn5 pc)) β (fcur num (fun z=>left z && !z.sameKey (.string k)) f)):=by
     have t56:Turned (fun b=>b=pa∨b=mw) w4 w6:=(HT45.out.mono (fun b _ h=>Or.inl h)).trans (Turned.ofGrown hg6 (fun k hk _=>by cases hk;exact Or.inr rfl))
     have hrow6:WRow w6 (.slice (some ⟨pa,0,none⟩) (less num (f k)).length pc) (less num (f k)):=by
      have:=HR5.out
      rw [HPN5.out] at this
      exact rowX_turned (Z:=fun b=>b=mw) this (Turned.ofGrown hg6 (fun k hk _=>by cases hk;rfl)) (fun g hg h=>by
       simp [Value.ownBlock] at hg
       subst hg
       exact H3.out.1.wT (h ▸ HIN.out))
     have:=HREL4.out.put (hrg.out.owns.tidy law9).isMap HZ5.out hrow6 t56 HAP.out (fun k' hk' hf' h=>HAP.out k' hk' hf' (Or.inl h))
     rw [← HBE.out,upd_self,← HPN5.out] at this
     show WordsRel _ _ _ (fcur num _ f)
     rw [fcur_step]
     exact this
    go_roundw
    case rel =>
     have HT6:=hid (HT5.out.trans (Turned.ofGrown hg6 (fun k hk _=>by cases hk;exact Or.inl rfl)))
     first | exact ⟨_,_,_,hrg6,HREL6,HT6⟩ | exact ⟨_,_,⟨_,hrg6⟩,HREL6,HT6⟩ | trace_state
    case measure=>rw [hrg6.left_eq,hrg.out.left_eq];omega
end Go.Proofs.YtaacjjhmojecnaaGreatDoor
namespace Go.Proofs.YtaacjjhmojecnaaGreatDoor
open Go.RowKit Go.ScT Go.Proofs Go.Shelf
open Go.Maps (Keyed string_keyed)
end Go.Proofs.YtaacjjhmojecnaaGreatDoor
