import Derived.Test.YtaacjjhmojecnaaGreatDoorS5
import Derived.Test.YtaacjjhmojecnaaGreatDoorQ37
import Derived.Test.YtaacjjhmojecnaaGreatDoorRows
import Derived.LaidLaws
import Derived.Lib.LaidTab
namespace Go.Proofs.YtaacjjhmojecnaaGreatDoor
open Go.RowKit Go.ScT Go.Proofs Go.Shelf
theorem stores_step_any (k c yi zi:Int) (K S:List UInt8) (w:World) (B L:Nat) (A:Nat→Addr) (v:Value) (ps:List Pr) (hSe:Sent w A B) (h:LawOk w B L v ps) (hBw:B≤w.heap.size) (hk11:k≤11) (hc1:-9223372036854775808≤c) (hc2:c≤9223372036854775807) (hlm:(ps.length+1) * 16≤140737488355328) (hK:K.length≤maxLen) (hS:S.length≤maxLen) :
 Calls Tryz.prog 37 #[.pointer (some ⟨L,0,none⟩),opV k c (.int .i64 yi) (.int .i64 zi) K S] w (StepDone B L ps.length w):=by
 by_cases h1:k=1
 ·subst h1;exact step_tokens c _ _ K S w B L v ps h hBw hS
 by_cases h6:k=6
 ·subst h6;exact step_open c _ _ K S w B L A v ps hSe h hBw hS
 by_cases h2:k=2
 ·subst h2;exact step_new c _ _ K S w B L v ps h hBw hlm
 by_cases hn:ps.length=0∨k < 2
 ·exact step_none k c _ _ K S w B L v ps h hBw h6 h1 h2 hn
 ·exact step_pair k c yi zi K S w B L A v ps hSe h hBw (by omega) hc1 hc2 (by omega) (by omega) hK hS
def OpIn (w:World) (b o:Nat):Prop:=∃ (k c y z:Int) (K S:List UInt8),-9223372036854775808≤c∧c≤9223372036854775807∧K.length≤maxLen∧S.length≤maxLen ∧
 w.cell? ⟨b,o,none⟩=some (.int .i64 k)∧w.cell? ⟨b,o+1,none⟩=some (.int .i64 c)∧w.cell? ⟨b,o+2,none⟩=some (.int .i64 y)∧w.cell? ⟨b,o+3,none⟩=some (.int .i64 z)∧w.cell? ⟨b,o+4,none⟩=some (.string ⟨K.toArray⟩)∧w.cell? ⟨b,o+5,none⟩=some (.string ⟨S.toArray⟩)
theorem law_start (w:World):LawOk (w.alloc (.cells #[.slice none 0 0] 61)) w.heap.size w.heap.size (.slice none 0 0) [] :=
 ⟨heap_alloc_new w _,Nat.le_refl _,World.ownsRow_nil _ _ _ _,fun i p h=>by simp at h,fun i j p q h=>by simp at h,fun i p h=>by simp at h,fun i p g h=>by simp at h⟩
set_option maxHeartbeats 2000000 in
set_option maxRecDepth 1000000 in
theorem plays_any {A:Nat→Addr} (ao:Option Addr) (b o len cap:Nat) (w:World) (hSe:Sent w A w.heap.size) (hl:(len+2) * 16≤140737488355328) (hao:0 < len→ao=some ⟨b,o,none⟩∧b < w.heap.size) (hop:∀ i,i < len→OpIn w b (o+i * 6)) :
 Calls Tryz.prog 15 #[.slice ao len cap,.int .i64 11,.int .i64 0] w fun e w'=>e=.returned (.bool true)∧Below w.heap.size w w':=by
 have HO:Hid (∀ i,i < len→OpIn w b (o+i * 6)):=hop
 have HA:Hid (0 < len→ao=some ⟨b,o,none⟩∧b < w.heap.size):=hao
 have C15:Hid (Calls Tryz.prog 36 #[.pointer (some ⟨w.heap.size,0,none⟩)] (w.alloc (.cells #[.slice none 0 0] 61)) fun en w'=>en=.returned (.bool true)∧(∃ v' ps',LawOk w' w.heap.size w.heap.size v' ps'∧ps'.length=([]:List Pr).length+1)∧Below w.heap.size (w.alloc (.cells #[.slice none 0 0] 61)) w'):=made_any _ w.heap.size w.heap.size _ [] (law_start w) (by simp) (by simp)
 have HSE:=hid hSe
 clear hop hao hSe
 go_enter Tryz.func15,Tryz.ntmps15
 go_wp2_with (first | (go_at_call 36;refine C15.out.mono ?_;rintro en w2 ⟨rfl,hL2,hb2⟩;have hB2:Hid (Below w.heap.size w w2):=((Below.refl _ w).alloc (Nat.le_refl _) _).trans hb2;have HL2:Hid (∃ v' ps',LawOk w2 w.heap.size w.heap.size v' ps'∧ps'.length=([]:List Pr).length+1):=hL2;clear hb2 hL2) | go_in)
 go_loopw [9] (fun s9 wr=>∃ k:Nat,k≤len∧s9=.int .i64 (k:Int)∧Hid (∃ v ps,LawOk wr w.heap.size w.heap.size v ps∧ps.length≤k+1)∧Hid (Below w.heap.size w wr)) (fun s9 _=>len - (intOf s9).toNat)
 case atStart =>
  obtain ⟨v,ps,h1,h2⟩:=HL2.out
  exact ⟨0,by omega,rfl,⟨v,ps,h1,by rw [h2];simp⟩,hB2.out⟩
 case round =>
  obtain ⟨k,hk,rfl,hLr,hbw⟩:=hrel
  by_cases hlt:k < len
  ·obtain ⟨rfl,hb⟩:=HA.out (by omega)
   obtain ⟨j,c,y,z,K,S,hc1,hc2,hK,hS,c0,c1,c2,c3,c4,c5⟩:=HO.out k hlt
   have e0:=(hbw.out.cell (p:=⟨b,o+k * 6,none⟩) hb).trans c0
   have e1:=(hbw.out.cell (p:=⟨b,o+k * 6+1,none⟩) hb).trans c1
   have e2:=(hbw.out.cell (p:=⟨b,o+k * 6+2,none⟩) hb).trans c2
   have e3:=(hbw.out.cell (p:=⟨b,o+k * 6+3,none⟩) hb).trans c3
   have e4:=(hbw.out.cell (p:=⟨b,o+k * 6+4,none⟩) hb).trans c4
   have e5:=(hbw.out.cell (p:=⟨b,o+k * 6+5,none⟩) hb).trans c5
   clear c0 c1 c2 c3 c4 c5
   have hba:Below wr.heap.size wr (wr.alloc (.cells #[.int .i64 j,.int .i64 c,.int .i64 y,.int .i64 z,.string ⟨K.toArray⟩,.string ⟨S.toArray⟩] 24)):=(Below.refl _ wr).alloc (Nat.le_refl _) _
   have hsw:=hbw.out.size
   by_cases hj:11 < j
   ·have HFIN:Hid ((∃ v ps,LawOk (wr.alloc (.cells #[.int .i64 j,.int .i64 c,.int .i64 y,.int .i64 z,.string ⟨K.toArray⟩,.string ⟨S.toArray⟩] 24)) w.heap.size w.heap.size v ps∧ps.length≤k+1+1)∧Below w.heap.size w (wr.alloc (.cells #[.int .i64 j,.int .i64 c,.int .i64 y,.int .i64 z,.string ⟨K.toArray⟩,.string ⟨S.toArray⟩] 24))):=by
     obtain ⟨v,ps,h1,h2⟩:=hLr.out
     exact ⟨⟨v,ps,h1.below hba,by omega⟩,hbw.out.trans (hba.mono hsw)⟩
    go_wp2
    go_roundw
    case rel=>exact ⟨k+1,by omega,by go_num,HFIN.out.1,HFIN.out.2⟩
    case measure=>simp [intOf];omega
   ·have CS:Hid (Calls Tryz.prog 37 #[.pointer (some ⟨w.heap.size,0,none⟩),.agg #[.int .i64 j,.int .i64 c,.int .i64 y,.int .i64 z,.string ⟨K.toArray⟩,.string ⟨S.toArray⟩]] (wr.alloc (.cells #[.int .i64 j,.int .i64 c,.int .i64 y,.int .i64 z,.string ⟨K.toArray⟩,.string ⟨S.toArray⟩] 24)) fun en w'=>en=.returned (.bool true)∧(∃ v ps,LawOk w' w.heap.size w.heap.size v ps∧ps.length≤k+1+1)∧Below w.heap.size w w'):=by
     obtain ⟨v,ps,h1,h2⟩:=hLr.out
     refine (stores_step_any j c y z K S _ w.heap.size w.heap.size A v ps (HSE.out.belowB (hbw.out.trans (hba.mono hsw))) (h1.below hba) (by simp;omega) (by omega) hc1 hc2 (by omega) hK hS).mono ?_
     rintro en w' ⟨he,⟨v',ps',h3,h4⟩,hb'⟩
     exact ⟨he,⟨v',ps',h3,by omega⟩,(hbw.out.trans (hba.mono hsw)).trans hb'⟩
    have hj12:(j == 12)=false:=beq_eq_false_iff_ne.2 (by omega)
    clear hba
    go_wp2_with (first | (go_at_call 37;refine CS.out.mono ?_;rintro en w3 ⟨rfl,hL3,hb3⟩) | go_in)
    go_roundw
    case rel=>exact ⟨k+1,by omega,by go_num,hL3,hb3⟩
    case measure=>simp [intOf];omega
  ·have hkz:¬ ((k:Int) < (len:Int)):=by omega
   go_wp2
   go_ret
   exact ⟨rfl,hbw.out⟩
set_option maxHeartbeats 400000 in
theorem stores_any {A:Nat→Addr} (ao:Option Addr) (b o len cap:Nat) (w:World) (hSe:Sent w A w.heap.size) (hl:(len+2) * 16≤140737488355328) (hao:0 < len→ao=some ⟨b,o,none⟩∧b < w.heap.size) (hop:∀ i,i < len→OpIn w b (o+i * 6)) :
 Calls Tryz.prog 6 #[.slice ao len cap] w fun e w'=>e=.returned (.bool true)∧Below w.heap.size w w':=by
 have C8:Hid (Calls Tryz.prog 15 #[.slice ao len cap,.int .i64 11,.int .i64 0] w fun e w'=>e=.returned (.bool true)∧Below w.heap.size w w'):=plays_any ao b o len cap w hSe hl hao hop
 clear hao hop hSe
 go_enter Tryz.func6,Tryz.ntmps6
 go_wp2_with (go_at_call 15;refine C8.out.mono ?_;rintro en w2 ⟨rfl,hb2⟩)
 go_ret
 exact ⟨rfl,hb2⟩
end Go.Proofs.YtaacjjhmojecnaaGreatDoor
namespace Go.Proofs.YtaacjjhmojecnaaGreatDoor
open Go.ChangeShapes Go.WideShapes Go.RowKit Go.ScT
theorem es_name:Tryz.prog.typeName? 3 404=some "*errors.errorString":=by kernel_rfl
theorem es_star : "*" ++ "errors.errorString" = "*errors.errorString":=by decide
theorem es_row (u:TypeId) (h:Tryz.prog.typeName? 3 u=some "*errors.errorString"):u=404 :=
 typeName_ptr_named (nm := "errors.errorString") (by rw [es_star];kernel_rfl) (by kernel_rfl) (by decide) u (by rw [es_star];exact h)
theorem laid_one {P:Program} {w:World}:∀ {l:List (String × DataW Unit)} {ps:List MemPlace},DataW.LaidVars P w l ps→∀ {n:String} {d:DataW Unit},(n,d)∈l →
 ∃ g t cs fuel p,P.globalNamed n=some g∧(P.globals[g]?).map (·.type)=some t∧w.var? P n=some cs∧DataW.trod (fun _=>()) P w 0 (fun _=>true) false fuel t cs.toList=some (d,p)∧(∀ x∈MemPlace.row ⟨g,0,none⟩ cs.size,x∈ps)∧∀ x∈p,x∈ps
 | [],_,_,_,_,h=>by cases h
 | (m,e) :: r,ps,⟨g,t,cs,fuel,p,q,h1,h2,h3,h4,h5,h6⟩,n,d,h=>by
   subst h6
   rcases List.mem_cons.1 h with h | h
   ·cases h
    exact ⟨g,t,cs,fuel,p,h1,h2,h3,h4,fun x hx=>by simp [hx],fun x hx=>by simp [hx]⟩
   ·obtain ⟨g',t',cs',fuel',p',a1,a2,a3,a4,a5,a6⟩:=laid_one h5 h
    exact ⟨g',t',cs',fuel',p',a1,a2,a3,a4,fun x hx=>by simp [a5 x hx],fun x hx=>by simp [a6 x hx]⟩
theorem err_ty:∃ ms,Tryz.prog.underlying 70=some (.interface ms):=⟨_,Tryz.underlying70⟩
theorem es_cells:Tryz.prog.cellsOf 422=1:=by kernel_rfl
theorem s9_cells:Tryz.prog.cellsOf 9=1:=by kernel_rfl
theorem u64_cells:Tryz.prog.cellsOf 127=1:=by kernel_rfl
theorem tab_cells:Tryz.prog.cellsOf 383=20:=by kernel_rfl
theorem tab_type:(Tryz.prog.globals[9]?).map (·.type)=some 383:=by kernel_rfl
def SentAt (W:World) (k:Nat) (text:List UInt8) (a:Addr):Prop :=
 W.cell? ⟨k,0,none⟩=some (.iface 404 (.pointer (some a)))∧(∃ s,W.cell? a=some (.string s)∧s.data.toList=text)∧∃ c t,W.heap[a.block]?=some (.cells c t (0,0))
set_option maxRecDepth 100000 in
theorem sent_one {W:World} {l:List (String × DataW Unit)} (h:laidMet Tryz.prog l W) {n:String} {k:Nat} {text:List UInt8} (hm:(n,(.iface "*errors.errorString" (.ptr (.agg [.lit (.string text)])):DataW Unit))∈l) (hg:Tryz.prog.globalNamed n=some k)
 (ht:(Tryz.prog.globals[k]?).map (·.type)=some 70):∃ a,SentAt W k text a:=by
 obtain ⟨ps,hv,_,hrows⟩:=h
 obtain ⟨g,t,cs,fuel,p,h1,h2,h3,h4,h5,h6⟩:=laid_one hv hm
 obtain rfl:=Option.some.inj (hg.symm.trans h1)
 obtain rfl:=Option.some.inj (ht.symm.trans h2)
 obtain ⟨lc⟩:=cs
 have ok0:∀ u v,lc=[.iface u v]→Value.okWide Tryz.prog W .any 0 u v:=fun u v e=>by
  subst e
  exact (hrows k 0 (h5 _ (by simp [MemPlace.row]))).2 u v (by simpa using World.var?_cell h1 h3 0)
 obtain ⟨a,s,rfl,hc,hs,_,rfl⟩:=errorString_of_trod Tryz.underlying70 es_row Tryz.underlying404 Tryz.underlying422 rfl rfl Tryz.underlying9 es_cells s9_cells h4 ok0
 refine ⟨a,by simpa using World.var?_cell h1 h3 0,⟨s,hc,hs⟩,?_⟩
 exact (hrows a.block a.off (h6 _ (by simp [MemPlace.row]))).1
set_option maxRecDepth 100000 in
theorem tab_of {W:World} {l:List (String × DataW Unit)} (h:laidMet Tryz.prog l W) (hm:("internal/strconv.uint64pow10",(Lib.tabData .u64 Lib.pow10Tab:DataW Unit))∈l):Lib.TabIs Tryz.prog W "internal/strconv.uint64pow10" .u64 Lib.pow10Tab:=by
 obtain ⟨ps,hv,_,_⟩:=h
 obtain ⟨g,t,cs,fuel,p,h1,h2,h3,h4,_,_⟩:=laid_one hv hm
 obtain rfl:=Option.some.inj (pow10_at.symm.trans h1)
 obtain rfl:=Option.some.inj (tab_type.symm.trans h2)
 unfold Lib.TabIs
 rw [h3,← Lib.cells_of_tab Tryz.underlying383 Tryz.underlying127 u64_cells tab_cells h4]
theorem et_at:Tryz.prog.globalNamed "errors.errorType"=some 1:=by kernel_rfl
theorem et_rt:(Tryz.prog.cutTypes.find? (·.1 == "internal/reflectlite.rtype")).map (·.2)=some 298:=by kernel_rfl
theorem ty_size:Tryz.prog.types.size=434:=by kernel_rfl
theorem et_one:((List.range 434).filter fun t=>Tryz.prog.rowNamed t [101,114,114,111,114])=[70]:=by kernel_rfl
theorem et_handle:typeHandle Tryz.prog 70=.pointer (some ⟨12,70,none⟩):=by kernel_rfl
set_option maxRecDepth 100000 in
theorem handle_of {W:World} {hs:List (String × DataW Unit)} (h:handlesMet Tryz.prog hs W) (hm:("errors.errorType",(Rows.laid_errors_errorType:DataW Unit))∈hs):W.cell? ⟨1,0,none⟩=some (.iface 298 (.agg #[.pointer (some ⟨12,70,none⟩)])):=by
 obtain ⟨name,u,ty,e1,e2,e3,e4,e5⟩:=h _ hm
 have en:name=[101,114,114,111,114]:=(Option.some.inj e1).symm
 subst en
 obtain rfl:=Option.some.inj (et_rt.symm.trans e2)
 have hty:ty∈(List.range 434).filter fun t=>Tryz.prog.rowNamed t [101,114,114,111,114]:=List.mem_filter.2 ⟨List.mem_range.2 (by rw [← ty_size];exact e3),e4⟩
 rw [et_one] at hty
 obtain rfl:=List.mem_singleton.1 hty
 rw [et_handle] at e5
 simpa using World.var?_cell et_at e5 0
def sentT:Nat→List UInt8
 | 0=>[116,111,111,32,109,97,110,121,32,98,121,116,101,115]
 | 2=>[110,111,116,32,119,114,105,116,116,101,110,32,105,110,32,116,104,101,32,111,110,101,32,119,97,121,32,116,104,97,116,32,105,115,32,114,105,103,104,116]
 | 3=>[100,111,101,115,32,110,111,116,32,97,103,114,101,101,32,119,105,116,104,32,119,104,97,116,32,105,116,32,115,117,109,115,32,117,112]
 | 4=>[116,104,101,114,101,32,97,114,101,32,98,121,116,101,115,32,98,101,104,105,110,100,32,116,104,101,32,101,110,100]
 | 5=>[116,104,101,32,98,121,116,101,115,32,101,110,100,32,116,111,111,32,101,97,114,108,121]
 | 6=>[97,32,110,117,109,98,101,114,32,116,104,97,116,32,99,97,110,110,111,116,32,98,101]
 | 8=>[97,32,107,101,121,32,111,114,32,116,111,107,101,110,32,116,104,97,116,32,99,97,110,110,111,116,32,98,101,44,32,111,114,32,110,111,116,32,97,116,32,116,104,105,115,32,112,108,97,99,101]
 | _=>[]
theorem sentT_ne:∀ k∈sentL,k≠0→sentT k≠sentT 0:=by decide
abbrev laidP:List (String × DataW Unit):=[("math/bits.deBruijn32tab",Rows.laid_math_bits_deBruijn32tab),("math/bits.deBruijn64tab",Rows.laid_math_bits_deBruijn64tab),("internal/strconv.uint64pow10",Rows.laid_internal_strconv_uint64pow10),("scout/segment.ErrLong",Rows.laid_scout_segment_ErrLong),("scout/segment.ErrEnds",Rows.laid_scout_segment_ErrEnds),("scout/segment.ErrRest",Rows.laid_scout_segment_ErrRest),("scout/segment.ErrForm",Rows.laid_scout_segment_ErrForm),("scout/segment.ErrBound",Rows.laid_scout_segment_ErrBound),("scout/segment.ErrName",Rows.laid_scout_segment_ErrName),("scout/segment.ErrSum",Rows.laid_scout_segment_ErrSum)]
set_option maxRecDepth 100000 in
theorem sent_all {W:World} (h:laidMet Tryz.prog laidP W):∀ k∈sentL,∃ a,SentAt W k (sentT k) a:=by
 intro k hk
 simp only [sentL,List.mem_cons,List.not_mem_nil,or_false] at hk
 rcases hk with rfl | rfl | rfl | rfl | rfl | rfl | rfl
 ·exact sent_one (n := "scout/segment.ErrLong") h (List.Mem.tail _ (List.Mem.tail _ (List.Mem.tail _ (List.Mem.head _)))) (by kernel_rfl) (by kernel_rfl)
 ·exact sent_one (n := "scout/segment.ErrForm") h (List.Mem.tail _ (List.Mem.tail _ (List.Mem.tail _ (List.Mem.tail _ (List.Mem.tail _ (List.Mem.tail _ (List.Mem.head _))))))) (by kernel_rfl) (by kernel_rfl)
 ·exact sent_one (n := "scout/segment.ErrSum") h (List.Mem.tail _ (List.Mem.tail _ (List.Mem.tail _ (List.Mem.tail _ (List.Mem.tail _ (List.Mem.tail _ (List.Mem.tail _ (List.Mem.tail _ (List.Mem.tail _ (List.Mem.head _)))))))))) (by kernel_rfl) (by kernel_rfl)
 ·exact sent_one (n := "scout/segment.ErrRest") h (List.Mem.tail _ (List.Mem.tail _ (List.Mem.tail _ (List.Mem.tail _ (List.Mem.tail _ (List.Mem.head _)))))) (by kernel_rfl) (by kernel_rfl)
 ·exact sent_one (n := "scout/segment.ErrEnds") h (List.Mem.tail _ (List.Mem.tail _ (List.Mem.tail _ (List.Mem.tail _ (List.Mem.head _))))) (by kernel_rfl) (by kernel_rfl)
 ·exact sent_one (n := "scout/segment.ErrBound") h (List.Mem.tail _ (List.Mem.tail _ (List.Mem.tail _ (List.Mem.tail _ (List.Mem.tail _ (List.Mem.tail _ (List.Mem.tail _ (List.Mem.head _)))))))) (by kernel_rfl) (by kernel_rfl)
 ·exact sent_one (n := "scout/segment.ErrName") h (List.Mem.tail _ (List.Mem.tail _ (List.Mem.tail _ (List.Mem.tail _ (List.Mem.tail _ (List.Mem.tail _ (List.Mem.tail _ (List.Mem.tail _ (List.Mem.head _))))))))) (by kernel_rfl) (by kernel_rfl)
theorem db64_at:Tryz.prog.globalNamed "math/bits.deBruijn64tab"=some 11:=by kernel_rfl
set_option maxRecDepth 100000 in
theorem sent_of {W:World} (h:laidMetH Tryz.prog Rows.opensRow.laid W):∃ A,Sent W A W.heap.size:=by
 have h':laidMet Tryz.prog laidP W∧handlesMet Tryz.prog [("errors.errorType",Rows.laid_errors_errorType)] W:=h
 obtain ⟨h1,h2⟩:=h'
 have ha:=sent_all h1
 have ht:=tab_of h1 (List.Mem.tail _ (List.Mem.tail _ (List.Mem.head _)))
 have he:=handle_of h2 (List.Mem.head _)
 let A:Nat→Addr:=fun k=>if hk:k∈sentL then (ha k hk).choose else ⟨0,0,none⟩
 have hA:∀ k∈sentL,SentAt W k (sentT k) (A k):=fun k hk=>by
  have:A k=(ha k hk).choose:=dif_pos hk
  rw [this]
  exact (ha k hk).choose_spec
 have h12:12≤W.heap.size:=by
  obtain ⟨ps,hv,_,_⟩:=h1
  obtain ⟨g,t,cs,fuel,p,a1,a2,a3,_,_,_⟩:=laid_one hv (List.Mem.tail _ (List.Mem.head _))
  obtain rfl:=Option.some.inj (db64_at.symm.trans a1)
  unfold World.var? at a3
  rw [db64_at] at a3
  simp only [Option.bind_some] at a3
  cases hb:W.heap[11]? with
  | none=>rw [hb] at a3;simp at a3
  | some o =>
    have:=lt_of_block' hb
    omega
 refine ⟨A,h12,Nat.le_refl _,fun k hk=>(hA k hk).1,fun k hk=>?_,fun k hk h0 e=>?_,ht,he⟩
 ·obtain ⟨_,_,c,t,hb⟩:=hA k hk
  exact ⟨lt_of_block' hb,c,t,hb⟩
 ·obtain ⟨_,⟨s,c1,t1⟩,_⟩:=hA k hk
  obtain ⟨_,⟨s0,c0,t0⟩,_⟩:=hA 0 (by simp)
  rw [e,c0] at c1
  injection c1 with c1
  injection c1 with c1
  exact sentT_ne k hk h0 (by rw [← t1,← t0,c1])
end Go.Proofs.YtaacjjhmojecnaaGreatDoor
