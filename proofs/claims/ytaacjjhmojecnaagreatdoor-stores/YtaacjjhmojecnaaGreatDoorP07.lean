import Derived.Test.YtaacjjhmojecnaaGreatDoorP06
import Derived.Test.YtaacjjhmojecnaaGreatDoorP04
import Derived.Deep.AppendLies
import Derived.Deep.Onto
namespace Go.Proofs.YtaacjjhmojecnaaGreatDoor
open Go.RowKit Go.ScT Go.Proofs
abbrev lstV (l:Bs):Value:=.string ⟨l.toArray⟩
set_option maxHeartbeats 400000 in
set_option maxRecDepth 100000 in
theorem b1_any (n:Nat) (hn:n < 1000000) (w:World):Calls Tryz.prog 110 #[.int .i64 (n:Int)] w fun e w'=>e=.returned (lstV [byt n])∧Below w.heap.size w w':=by
 have hc:=fun w=>conv_one ((n:Int) % 256) (byt n) (by rw [byt_toNat];omega) w
 go_enter Tryz.func110,Tryz.ntmps110
 go_wp2
 go_ret
 exact ⟨rfl,(Below.refl _ w).alloc (Nat.le_refl _) _⟩
theorem b1_z (z:Int) (w:World) (h0:0≤z) (h1:z < 1000000):Calls Tryz.prog 110 #[.int .i64 z] w fun e w'=>e=.returned (lstV [byt z.toNat])∧Below w.heap.size w w':=by
 have:=b1_any z.toNat (by omega) w
 rw [show ((z.toNat:Nat):Int)=z by omega] at this
 exact this
set_option maxHeartbeats 400000 in
set_option maxRecDepth 100000 in
theorem varint_low (n:Nat) (hn:n < 128) (w:World):Calls Tryz.prog 109 #[.int .i64 (n:Int)] w fun e w'=>e=.returned (lstV [byt n])∧Below w.heap.size w w':=by
 have hni:(n:Int) < 128:=by omega
 have C:=hid (fun w=>b1_any n (by omega) w)
 go_enter Tryz.func109,Tryz.ntmps109
 go_wp2_with (first | (go_at_call 110;refine (C.out _).mono ?_;rintro e w1 ⟨rfl,hb1⟩))
 go_ret
 exact ⟨rfl,hb1⟩
set_option maxHeartbeats 400000 in
set_option maxRecDepth 100000 in
theorem varint_high (n:Nat) (hn:128≤n) (hh:n < 16384) (w:World):Calls Tryz.prog 109 #[.int .i64 (n:Int)] w fun e w'=>e=.returned (lstV [byt (n % 128+128),byt (n / 128)])∧Below w.heap.size w w':=by
 have hni:¬ ((n:Int) < 128):=by omega
 have C:Hid (∀ (z:Int) (w:World),0≤z→z < 1000000→Calls Tryz.prog 110 #[.int .i64 z] w fun e w'=>e=.returned (lstV [byt z.toNat])∧Below w.heap.size w w'):=fun z w h0 h1=>b1_z z w h0 h1
 have D:Hid (∀ (z:Int) (w:World),0≤z→z < 128→Calls Tryz.prog 109 #[.int .i64 z] w fun e w'=>e=.returned (lstV [byt z.toNat])∧Below w.heap.size w w'):=fun z w h0 h1=>by
  have:=varint_low z.toNat (by omega) w
  rw [show ((z.toNat:Nat):Int)=z by omega] at this
  exact this
 go_enter Tryz.func109,Tryz.ntmps109
 go_wp2_with (first
  | (go_at_call 110;refine (C.out _ _ (by omega) (by omega)).mono ?_;rintro e w1 ⟨rfl,hb1⟩)
  | (go_at_call 109;refine (D.out _ _ (by omega) (by omega)).mono ?_;rintro e w2 ⟨rfl,hb2⟩))
 go_ret
 refine ⟨?_,hb1.trans (hb2.mono hb1.size)⟩
 have e1:((n:Int) % 128+128).toNat=n % 128+128:=by omega
 have e2:((n:Int) / 128).toNat=n / 128:=by omega
 rw [← e1,← e2]
 exact ret_str (a:=[byt ((n:Int) % 128+128).toNat,byt ((n:Int) / 128).toNat]) rfl
theorem varintW_any (n:Nat) (hn:n < 16384) (w:World):Calls Tryz.prog 109 #[.int .i64 (n:Int)] w fun e w'=>e=.returned (lstV (vi n))∧Below w.heap.size w w':=by
 by_cases h:n < 128
 ·rw [vi,if_pos h];exact varint_low n h w
 ·rw [vi,if_neg h];exact varint_high n (by omega) hn w
theorem varintW_z (z:Int) (w:World) (h0:0≤z) (h1:z < 16384):Calls Tryz.prog 109 #[.int .i64 z] w fun e w'=>e=.returned (lstV (vi z.toNat))∧Below w.heap.size w w':=by
 have:=varintW_any z.toNat (by omega) w
 rw [show ((z.toNat:Nat):Int)=z by omega] at this
 exact this
theorem count_take {l:List Bs} {k:Nat} {x t:Bs} (h:l[k]?=some x):(l.take (k+1)).count t=(l.take k).count t+if x=t then 1 else 0:=by
 rw [List.take_add_one,h]
 simp [List.count_append,List.count_cons]
set_option maxHeartbeats 1000000 in
set_option maxRecDepth 100000 in
theorem countR_any (w:World) (base:Nat) (v:Value) (l:List Bs) (t:Bs) (h:w.ownsRow base 9 1 v l.length (l.map strV)) (hl:l.length≤100000) :
 Calls Tryz.prog 112 #[v,lstV t] w fun e w'=>e=.returned (.int .i64 ((l.count t:Nat):Int))∧w'=w:=by
 obtain ⟨g,cap,ao,hve,_,hao⟩:=ownsRow_shape h
 have HC:Hid (∀ (j:Nat) (x:Bs),l[j]?=some x→ao=some ⟨g,0,none⟩∧w.cell? ⟨g,j,none⟩=some (lstV x)):=by
  intro j x hj
  have hlt:=(List.getElem?_eq_some_iff.1 hj).1
  have h1:=hao (by omega)
  rw [hve,h1] at h
  refine ⟨h1,?_⟩
  rw [h.cellAt j (by omega),List.getElem?_map,hj]
  rfl
 rw [hve]
 clear h hve hao
 go_enter Tryz.func112,Tryz.ntmps112
 go_wp2
 go_loopw [5,6] (fun s5 s6 wr=>∃ k:Nat,s6=.int .i64 (k:Int)∧s5=.int .i64 (((l.take k).count t:Nat):Int)∧k≤l.length∧wr=w) (fun _ s6 _=>l.length - (intOf s6).toNat)
 case atStart=>exact ⟨0,rfl,by simp,by omega,rfl⟩
 case round =>
  obtain ⟨k,rfl,rfl,hk,rfl⟩:=hrel
  have hc0:(l.take k).count t≤k:=Nat.le_trans List.count_le_length (by simp;omega)
  by_cases hlt:k < l.length
  ·obtain ⟨x,hx⟩:∃ x,l[k]?=some x:=⟨_,List.getElem?_eq_getElem hlt⟩
   obtain ⟨rfl,hc⟩:=HC.out k x hx
   have hct:=hid (count_take (t:=t) hx)
   generalize hm:(l.take k).count t=m at *
   by_cases he:x=t
   ·subst he
    have hct2:Hid ((l.take (k+1)).count x=m+1):=show _=_ by rw [hct.out];simp
    go_wp2
    go_roundw
    case rel=>exact ⟨k+1,by go_num,by rw [hct2.out];go_num,by omega,by trivial⟩
    case measure=>simp [intOf];omega
   ·have hne:(x == t)=false:=beq_eq_false_iff_ne.2 he
    have hct2:Hid ((l.take (k+1)).count t=m):=show _=_ by rw [hct.out];simp [he]
    go_wp2
    go_roundw
    case rel=>exact ⟨k+1,by go_num,by rw [hct2.out],by omega,by trivial⟩
    case measure=>simp [intOf];omega
  ·have hkz:¬ ((k:Int) < (l.length:Int)):=by omega
   have he:l.take k=l:=List.take_of_length_le (by omega)
   rw [he]
   go_wp2
   go_ret
   exact ⟨rfl,rfl⟩
end Go.Proofs.YtaacjjhmojecnaaGreatDoor
namespace Go.ScT
theorem mx_snoc (a:List Nat) (x:Nat):mx (a++[x])=max (mx a) x:=by
 induction a with
 | nil=>simp [mx]
 | cons b r ih =>
   have h1:mx (b :: r++[x])=max b (mx (r++[x])):=rfl
   have h2:mx (b :: r)=max b (mx r):=rfl
   rw [h1,h2,ih];omega
theorem bl_max (a b:Nat):bl (max a b)=max (bl a) (bl b):=by
 have key:∀ w,bl (max a b)≤w ↔ max (bl a) (bl b)≤w:=by
  intro w
  rw [bl_le,Nat.max_le,bl_le,bl_le]
  have:=Nat.two_pow_pos w
  omega
 have h1:=(key (bl (max a b))).1 (Nat.le_refl _)
 have h2:=(key (max (bl a) (bl b))).2 (Nat.le_refl _)
 omega
theorem wd_take {l:List Nat} {k x:Nat} (h:l[k]?=some x):wd (l.take (k+1))=max (wd (l.take k)) (bl x):=by
 have:l.take (k+1)=l.take k++[x]:=by rw [List.take_add_one,h];rfl
 rw [wd,this,mx_snoc,bl_max];rfl
theorem bl_small {x:Nat} (h:x < 1048576):bl x≤20:=bl_le.2 (by omega)
end Go.ScT
namespace Go.Proofs.YtaacjjhmojecnaaGreatDoor
open Go.RowKit Go.ScT Go.Proofs
set_option maxHeartbeats 1000000 in
set_option maxRecDepth 1000000 in
theorem widthR_any (w:World) (base:Nat) (v:Value) (l:List Nat) (h:w.ownsRow base 3 1 v l.length (l.map natV)) (hl:l.length≤1000) (hx:∀ x∈l,x < 1048576) :
 Calls Tryz.prog 185 #[v] w fun e w'=>e=.returned (.int .i64 (wd l:Int))∧w'=w:=by
 obtain ⟨g,cap,ao,hve,_,hao⟩:=ownsRow_shape h
 have HC:Hid (∀ (j x:Nat),l[j]?=some x→ao=some ⟨g,0,none⟩∧w.cell? ⟨g,j,none⟩=some (.int .i64 (x:Int))):=by
  intro j x hj
  have hlt:=(List.getElem?_eq_some_iff.1 hj).1
  have h1:=hao (by omega)
  rw [hve,h1] at h
  refine ⟨h1,?_⟩
  rw [h.cellAt j (by omega),List.getElem?_map,hj]
  rfl
 rw [hve]
 clear h hve hao
 go_enter Tryz.func185,Tryz.ntmps185
 go_wp2
 go_loopw [3,4] (fun s3 s4 wr=>∃ k:Nat,s4=.int .i64 (k:Int)∧s3=.int .i64 (wd (l.take k):Int)∧k≤l.length∧wd (l.take k)≤20∧wr=w) (fun _ s4 _=>l.length - (intOf s4).toNat)
 case atStart=>exact ⟨0,rfl,rfl,by omega,by simp [wd,mx,bl],rfl⟩
 case round =>
  obtain ⟨k,rfl,rfl,hk,hw20,rfl⟩:=hrel
  by_cases hlt:k < l.length
  ·have hlti:(k:Int) < (l.length:Int):=by omega
   obtain ⟨x,hxk⟩:∃ x,l[k]?=some x:=⟨_,List.getElem?_eq_getElem hlt⟩
   obtain ⟨rfl,hc⟩:=HC.out k x hxk
   have hxs:=hx x (List.mem_of_getElem? hxk)
   have hbx:=bl_small hxs
   have HW:=hid (wd_take hxk)
   generalize hm:wd (l.take k)=m at *
   go_wp2
   go_loopw [3] (fun s3 wi=>∃ u:Nat,s3=.int .i64 (u:Int)∧m≤u∧u≤max m (bl x)∧wi=wr) (fun s3 _=>64 - (intOf s3).toNat)
   case atStart=>exact ⟨m,rfl,by omega,by omega,rfl⟩
   case round =>
    obtain ⟨u,rfl,hu1,hu2,rfl⟩:=hrel
    by_cases hsh:u < bl x
    ·have hp:2 ^ u≤x:=by
      have:¬ bl x≤u:=by omega
      rw [bl_le] at this
      omega
     have hdiv:1≤x / 2 ^ u:=(Nat.le_div_iff_mul_le (Nat.two_pow_pos u)).2 (by omega)
     have hdi:(0:Int) < (x:Int) / 2 ^ u:=by
      have e:((x / 2 ^ u:Nat):Int)=(x:Int) / 2 ^ u:=by simp
      rw [← e];omega
     clear hdiv
     go_wp2
     go_roundw
     case rel=>exact ⟨u+1,by go_num,by omega,by omega,trivial⟩
     case measure=>simp [intOf];omega
    ·have hp:x < 2 ^ u:=bl_le.1 (by omega)
     have hdi:¬ ((0:Int) < (x:Int) / 2 ^ u):=by
      have e:((x / 2 ^ u:Nat):Int)=(x:Int) / 2 ^ u:=by simp
      rw [← e,Nat.div_eq_of_lt hp];omega
     have HU:Hid (wd (l.take (k+1))=u):=show _=_ by rw [HW.out];omega
     go_wp2
     go_roundw
     case rel=>exact ⟨k+1,by go_num,by rw [HU.out],by omega,by rw [HU.out];omega,trivial⟩
     case measure=>simp [intOf];omega
  ·have hlti:¬ ((k:Int) < (l.length:Int)):=by omega
   have he:l.take k=l:=List.take_of_length_le (by omega)
   rw [he]
   go_wp2
   go_ret
   exact ⟨rfl,rfl⟩
end Go.Proofs.YtaacjjhmojecnaaGreatDoor
namespace Go.ScT
theorem leB_snoc:∀ (k x:Nat),leB (k+1) x=leB k x++[byt (x / 256 ^ k)]
 | 0,x=>by simp [leB]
 | k+1,x=>by
   have ih:=leB_snoc k (x / 256)
   rw [leB,ih,leB,List.cons_append,Nat.div_div_eq_div_mul,show 256 ^ (k+1)=256 * 256 ^ k by rw [Nat.pow_succ,Nat.mul_comm]]
theorem wrd_drop {w:Nat}:∀ {l:List Nat} (i:Nat),(∀ n∈l,n < 2 ^ w)→wrd w l / 2 ^ (w * i)=wrd w (l.drop i)
 | l,0,_=>by simp
 | [],i+1,_=>by simp [wrd]
 | n :: r,i+1,h=>by
   have hn:=h n (by simp)
   have ih:=wrd_drop (l:=r) i fun m hm=>h m (by simp [hm])
   rw [show w * (i+1)=w+w * i by rw [Nat.mul_succ,Nat.add_comm],Nat.pow_add,← Nat.div_div_eq_div_mul]
   have:wrd w (n :: r) / 2 ^ w=wrd w r:=by
    rw [wrd,Nat.add_mul_div_left _ _ (Nat.two_pow_pos w),Nat.div_eq_of_lt hn,Nat.zero_add]
   rw [this,ih];rfl
theorem wrd_bit {w:Nat} {l:List Nat} {i k x:Nat} (h:∀ n∈l,n < 2 ^ w) (hx:l[i]?=some x) (hk:k < w):wrd w l / 2 ^ (w * i+k) % 2=x / 2 ^ k % 2:=by
 rw [Nat.pow_add,← Nat.div_div_eq_div_mul,wrd_drop i h]
 obtain ⟨hi,rfl⟩:=List.getElem?_eq_some_iff.1 hx
 rw [List.drop_eq_getElem_cons hi,wrd]
 obtain ⟨d,rfl⟩:∃ d,w=k+(d+1):=⟨w - k - 1,by omega⟩
 rw [Nat.pow_add,Nat.mul_assoc,Nat.add_mul_div_left _ _ (Nat.two_pow_pos k),Nat.pow_succ]
 rw [show 2 ^ d * 2 * wrd (k+(d+1)) (List.drop (i+1) l)=2 * (2 ^ d * wrd (k+(d+1)) (List.drop (i+1) l)) by rw [Nat.mul_right_comm,Nat.mul_comm]]
 omega
def pkQ (W t:Nat):Bs:=leB (t / 8) W
def pkB (W t:Nat):Nat:=W / 256 ^ (t / 8) % 2 ^ (t % 8)
theorem pk_step {W t:Nat}:pkB W t+(W / 2 ^ t % 2) * 2 ^ (t % 8)=W / 256 ^ (t / 8) % 2 ^ (t % 8+1):=by
 unfold pkB
 rw [Nat.mod_pow_succ]
 have:W / 256 ^ (t / 8) / 2 ^ (t % 8)=W / 2 ^ t:=by
  rw [Nat.div_div_eq_div_mul,show (256:Nat)=2 ^ 8 by rfl,← Nat.pow_mul,← Nat.pow_add,show 8 * (t / 8)+t % 8=t by omega]
 rw [this,Nat.mul_comm]
theorem pk_low {W t:Nat} (h:t % 8≠7):pkQ W (t+1)=pkQ W t∧pkB W (t+1)=pkB W t+(W / 2 ^ t % 2) * 2 ^ (t % 8):=by
 have e1:(t+1) / 8=t / 8:=by omega
 have e2:(t+1) % 8=t % 8+1:=by omega
 exact ⟨by unfold pkQ;rw [e1],by rw [pk_step];unfold pkB;rw [e1,e2]⟩
theorem pk_full {W t:Nat} (h:t % 8=7):pkQ W (t+1)=pkQ W t++[byt (pkB W t+(W / 2 ^ t % 2) * 2 ^ (t % 8))]∧pkB W (t+1)=0:=by
 have e1:(t+1) / 8=t / 8+1:=by omega
 have e2:(t+1) % 8=0:=by omega
 refine ⟨?_,by unfold pkB;rw [e2,Nat.pow_zero,Nat.mod_one]⟩
 rw [pk_step,h]
 unfold pkQ
 rw [e1,leB_snoc]
 congr 2
 apply UInt8.toNat_inj.1
 rw [byt_toNat,byt_toNat]
 omega
theorem pkB_lt (W t:Nat):pkB W t < 2 ^ (t % 8):=Nat.mod_lt _ (Nat.two_pow_pos _)
theorem pk_end {w:Nat} {l:List Nat} (h:∀ n∈l,n < 2 ^ w) (h4:l.length=4):pk w l=if 0 < (w * 4) % 8 then pkQ (wrd w l) (w * 4)++[byt (pkB (wrd w l) (w * 4))] else pkQ (wrd w l) (w * 4):=by
 have hb:=wrd_lt w l h
 rw [h4] at hb
 unfold pk
 split
 ·rename_i hr
  rw [show psz w=(w * 4) / 8+1 by unfold psz;omega,leB_snoc,pkQ,pkB]
  rw [Nat.mod_eq_of_lt]
  rw [Nat.div_lt_iff_lt_mul (Nat.pow_pos (by omega)),show (256:Nat)=2 ^ 8 by rfl,← Nat.pow_mul,← Nat.pow_add,show w * 4 % 8+8 * (w * 4 / 8)=w * 4 by omega]
  exact hb
 ·rename_i hr
  rw [show psz w=(w * 4) / 8 by unfold psz;omega];rfl
end Go.ScT
namespace Go.Proofs.YtaacjjhmojecnaaGreatDoor
open Go.RowKit Go.ScT Go.Proofs
theorem row_at4 {w:World} {bs:Nat} {u:Value} {x:List Nat} (h:w.ownsRow bs 3 1 u x.length (x.map natV)) (hx:x.length=4):∃ g cap,u=.slice (some ⟨g,0,none⟩) x.length cap:=by
 obtain ⟨g,cap,ao,e,_,ha⟩:=ownsRow_shape h
 exact ⟨g,cap,by rw [e,ha (by omega)]⟩
theorem bit_num2 (b bt r:Nat) (hb:b < 2 ^ r) (hr:r < 8) (hx:bt≤1):wrap64 ((b:Int)+wrap64 ((bt:Int) * 2 ^ r))=((b+bt * 2 ^ r:Nat):Int)∧b+bt * 2 ^ r < 256:=by
 have h1:2 ^ r≤2 ^ 7:=Nat.pow_le_pow_right (by omega) (by omega)
 have h2:bt * 2 ^ r≤1 * 2 ^ r:=Nat.mul_le_mul_right _ (by omega)
 have h3:((bt:Int) * 2 ^ r)=((bt * 2 ^ r:Nat):Int):=by simp
 rw [h3]
 generalize bt * 2 ^ r=M at *
 generalize 2 ^ r=P at *
 refine ⟨?_,by omega⟩
 unfold wrap64
 omega
theorem bit_tmod (x k:Nat):((x:Int) / 2 ^ k).tmod 2=((x / 2 ^ k % 2:Nat):Int):=by
 have e:(x:Int) / 2 ^ k=((x / 2 ^ k:Nat):Int):=by simp
 rw [e]
 generalize x / 2 ^ k=y
 rw [Int.tmod_eq_emod_of_nonneg (by omega)]
 omega
set_option maxHeartbeats 2000000 in
set_option maxRecDepth 1000000 in
theorem packedR_any (w:World) (base:Nat) (v:Value) (l:List Nat) (wid:Nat) (h:w.ownsRow base 3 1 v l.length (l.map natV)) (h4:l.length=4) (hw8:wid≤8) (hx:∀ x∈l,x < 2 ^ wid) :
 Calls Tryz.prog 186 #[v,.int .i64 (wid:Int)] w fun e w'=>e=.returned (lstV (pk wid l))∧Below w.heap.size w w':=by
 have C:Hid (∀ (z:Int) (w:World),0≤z→z < 1000000→Calls Tryz.prog 110 #[.int .i64 z] w fun e w'=>e=.returned (lstV [byt z.toNat])∧Below w.heap.size w w'):=fun z w h0 h1=>b1_z z w h0 h1
 have HE:=hid (pk_end hx h4)
 obtain ⟨W,hW⟩:∃ W,wrd wid l=W:=⟨_,rfl⟩
 have HBIT:Hid (∀ (i k x:Nat),l[i]?=some x→k < wid→W / 2 ^ (wid * i+k) % 2=x / 2 ^ k % 2):=fun i k x h1 h2=>by rw [← hW];exact wrd_bit hx h1 h2
 rw [hW] at HE
 have h2p:2 ^ wid≤256:=by have:=Nat.pow_le_pow_right (n:=2) (by omega) hw8;omega
 obtain ⟨g,cap,rfl⟩:=row_at4 h h4
 have HR:=hid h
 clear h hW
 go_enter Tryz.func186,Tryz.ntmps186
 rw [h4]
 go_wp2
 go_loopw [5,6,7,8] (fun s5 s6 s7 s8 wr=>∃ i:Nat,s8=.int .i64 (i:Int)∧i≤4∧s5=lstV (pkQ W (wid * i))∧s6=.int .i64 (pkB W (wid * i):Int)∧s7=.int .i64 ((wid * i % 8:Nat):Int)∧Hid (Below w.heap.size w wr)) (fun _ _ _ s8 _=>4 - (intOf s8).toNat)
 case atStart=>exact ⟨0,rfl,by omega,by simp [pkQ,leB],by simp [pkB,Nat.mod_one],by simp,Below.refl _ _⟩
 case round =>
  obtain ⟨i,rfl,hi,rfl,rfl,rfl,HB⟩:=hrel
  by_cases hlt:i < 4
  ·have hlti:(i:Int) < 4:=by omega
   obtain ⟨x,hxi⟩:∃ x,l[i]?=some x:=⟨_,List.getElem?_eq_getElem (by omega)⟩
   have hxs:=hx x (List.mem_of_getElem? hxi)
   have HXI:=hid hxi
   clear hxi
   go_wp2
   go_loopw [5,6,7,9] (fun s5 s6 s7 s9 wr=>∃ (k t:Nat),s9=.int .i64 (k:Int)∧k≤wid∧t=wid * i+k∧s5=lstV (pkQ W t)∧s6=.int .i64 (pkB W t:Int)∧s7=.int .i64 ((t % 8:Nat):Int)∧Hid (Below w.heap.size w wr)) (fun _ _ _ s9 _=>wid - (intOf s9).toNat)
   case atStart=>exact ⟨0,wid * i,rfl,by omega,rfl,rfl,rfl,rfl,HB⟩
   case round =>
    obtain ⟨k,t,rfl,hk,ht,rfl,rfl,rfl,HB2⟩:=hrel
    have hBs:=HB2.out.size
    have hql:(pkQ W t).length≤1000:=by
     have h1:wid * i≤8 * 4:=Nat.mul_le_mul hw8 (by omega)
     unfold pkQ;rw [leB_len];omega
    by_cases hkw:k < wid
    ·have hkwi:(k:Int) < (wid:Int):=by omega
     have hbit:=HBIT.out i k x HXI.out hkw
     rw [← ht] at hbit
     have hpb:=pkB_lt W t
     obtain ⟨r,hr⟩:∃ r,t % 8=r:=⟨_,rfl⟩
     obtain ⟨bt,hbt⟩:∃ bt,x / 2 ^ k % 2=bt:=⟨_,rfl⟩
     have htm:=bit_tmod x k
     rw [hbt] at hbit htm
     obtain ⟨hn1,hn2⟩:=bit_num2 (pkB W t) bt r (by rw [← hr];exact hpb) (by omega) (by omega)
     have cx:wr.cell? ⟨g,i,none⟩=some (.int .i64 (x:Int)):=by
      have hrow:=ownsRow_turned HR.out (Turned.ofBelow (Z:=fun _=>False) HB2.out) (fun _ _ e=>e)
      rw [h4] at hrow
      rw [hrow.cellAt i (by omega),List.getElem?_map,HXI.out];rfl
     have HTT:=hid ht
     have HBIT2:=hid hbit
     have HRR:=hid hr
     have hr8:r < 8:=by omega
     have hrb:(r:Int) < 8:=by omega
     generalize hB:pkB W t=bb at *
     generalize hM:bb+bt * 2 ^ r=nb at *
     by_cases h7:r=7
     ·have HF:=hid (pk_full (W:=W) (t:=t) (by omega))
      have H7:=hid h7
      rw [hr]
      rw [h7,show (2:Int) ^ 7=128 by decide] at hn1
      clear ht hbit hr hbt hpb
      subst h7
      go_wp2_with (first | (go_at_call 110;refine (C.out _ _ (by omega) (by omega)).mono ?_;rintro e w5 ⟨rfl,hb5⟩))
      go_roundw
      case rel =>
       have hr:=HRR.out
       have h1:(t+1) % 8=0:=by omega
       refine ⟨k+1,t+1,by go_num,by omega,by have:=HTT.out;omega,?_,by rw [HF.out.2];rfl,by rw [h1];rfl,HB2.out.trans (hb5.mono hBs)⟩
       rw [HF.out.1,HBIT2.out,hr,hB,hM]
       exact congrArg Value.string (cat_two _ _)
      case measure=>simp [intOf];omega
     ·have HF:=hid (pk_low (W:=W) (t:=t) (by omega))
      have h8:¬ ((r:Int)+1=8):=by omega
      rw [hr]
      have HM:=hid hM
      have HBB:=hid hB
      clear ht hbit hr hbt hpb hM hB
      go_wp2
      go_roundw
      case rel =>
       have hr:=HRR.out
       have h1:(t+1) % 8=r+1:=by omega
       refine ⟨k+1,t+1,by go_num,by omega,by have:=HTT.out;omega,by rw [HF.out.1],?_,by rw [h1];go_num,HB2⟩
       rw [HF.out.2,HBIT2.out,hr,HBB.out,HM.out,hn1]
      case measure=>simp [intOf];omega
    ·have hkwi:¬ ((k:Int) < (wid:Int)):=by omega
     have hte:t=wid * (i+1):=by rw [Nat.mul_succ];omega
     subst hte
     go_wp2
     go_roundw
     case rel=>exact ⟨i+1,by go_num,by omega,rfl,rfl,rfl,HB2⟩
     case measure=>simp [intOf];omega
  ·have hlti:¬ ((i:Int) < 4):=by omega
   obtain rfl:i=4:=by omega
   have hBs:=HB.out.size
   have hpb:=pkB_lt W (wid * 4)
   have hql:(pkQ W (wid * 4)).length≤1000:=by unfold pkQ;rw [leB_len];omega
   have hp7:2 ^ (wid * 4 % 8)≤128:=by have:=Nat.pow_le_pow_right (n:=2) (by omega) (show wid * 4 % 8≤7 by omega);omega
   generalize hr:wid * 4 % 8=r at *
   have hpl:pkB W (wid * 4) < 256:=Nat.lt_of_lt_of_le hpb (Nat.le_trans hp7 (by decide))
   clear hpb hp7
   by_cases h0:0 < r
   ·have h0i:(0:Int) < (r:Int):=by omega
    have HE2:Hid (pk wid l=pkQ W (wid * 4)++[byt (pkB W (wid * 4))]):=show _=_ by rw [HE.out,if_pos h0]
    go_wp2_with (first | (go_at_call 110;refine (C.out _ _ (by omega) (by omega)).mono ?_;rintro e w5 ⟨rfl,hb5⟩))
    go_ret
    refine ⟨?_,HB.out.trans (hb5.mono hBs)⟩
    rw [HE2.out]
    exact congrArg Ending.returned (congrArg Value.string (cat_two _ _))
   ·have h0i:¬ ((0:Int) < (r:Int)):=by omega
    have HE2:Hid (pk wid l=pkQ W (wid * 4)):=show _=_ by rw [HE.out,if_neg h0]
    go_wp2
    go_ret
    rw [HE2.out]
    exact ⟨rfl,HB.out⟩
end Go.Proofs.YtaacjjhmojecnaaGreatDoor
namespace Go.ScT
theorem plc_in:∀ {l:List Bs} {s:Bs},Srt l→s∈l→plc l s=l
 | a :: r,s,hs,h=>by
   have hs:=srt_cons.1 hs
   simp only [plc]
   by_cases e:a=s
   ·rw [if_pos e]
   ·rw [if_neg e]
    rcases List.mem_cons.1 h with h | h
    ·exact absurd h.symm e
    ·have:=hs.1 s h
     rw [if_neg (by rw [ltB_asymm this];simp),plc_in hs.2 h]
theorem plc_past {s:Bs}:∀ {p q:List Bs},(∀ a∈p,ltB a s=true)→plc (p++q) s=p++plc q s
 | [],_,_=>rfl
 | a :: p,q,h=>by
   have ha:=h a (by simp)
   have hne:a≠s:=fun e=>by subst e;rw [ltB_irrefl] at ha;cases ha
   simp only [List.cons_append,plc]
   rw [if_neg hne,if_neg (by rw [ltB_asymm ha];simp),plc_past fun x hx=>h x (by simp [hx])]
def PlcAt (p:List Bs) (s:Bs) (done:Bool) (m:List Bs):Prop :=
 if done then ∃ p1 y r,p=p1++y :: r∧(∀ a∈p1,ltB a s=true)∧ltB s y=true∧m=p1++s :: y :: r else m=p∧∀ a∈p,ltB a s=true
theorem PlcAt.start (s:Bs):PlcAt [] s false []:=⟨rfl,by simp⟩
theorem PlcAt.low {p:List Bs} {s x:Bs} {m:List Bs} (h:PlcAt p s false m) (hx:ltB x s=true):PlcAt (p++[x]) s false (m++[x]):=by
 obtain ⟨rfl,h⟩:=h
 refine ⟨rfl,?_⟩
 intro a ha
 rcases List.mem_append.1 ha with ha | ha
 ·exact h a ha
 ·simp at ha;subst ha;exact hx
theorem PlcAt.put {p:List Bs} {s x:Bs} {m:List Bs} (h:PlcAt p s false m) (hx:ltB s x=true):PlcAt (p++[x]) s true (m++[s]++[x]):=by
 obtain ⟨rfl,h⟩:=h
 exact ⟨m,x,[],rfl,h,hx,by simp⟩
theorem PlcAt.more {p:List Bs} {s x:Bs} {m:List Bs} (h:PlcAt p s true m):PlcAt (p++[x]) s true (m++[x]):=by
 obtain ⟨p1,y,r,rfl,h1,h2,rfl⟩:=h
 exact ⟨p1,y,r++[x],by simp,h1,h2,by simp⟩
theorem PlcAt.done {p:List Bs} {s:Bs} {m:List Bs} (h:PlcAt p s true m):plc p s=m:=by
 obtain ⟨p1,y,r,rfl,h1,h2,rfl⟩:=h
 rw [plc_past h1]
 have hne:y≠s:=fun e=>by subst e;rw [ltB_irrefl] at h2;cases h2
 simp only [plc]
 rw [if_neg hne,if_pos h2]
theorem PlcAt.open_ {p:List Bs} {s:Bs} {m:List Bs} (h:PlcAt p s false m):plc p s=m++[s]:=by
 obtain ⟨rfl,h⟩:=h
 have:=plc_past (q:=[]) h
 simpa [plc] using this
end Go.ScT
namespace Go.Proofs.YtaacjjhmojecnaaGreatDoor
open Go.RowKit Go.ScT Go.Proofs
theorem less_eq:∀ a b:Bs,Op.bytesLess a b=ltB a b
 | _,[]=>by simp [Op.bytesLess,ltB]
 | [],_ :: _=>by simp [Op.bytesLess,ltB]
 | a :: x,b :: y=>by
   have ih:=less_eq x y
   simp only [Op.bytesLess,ltB,ih,UInt8.lt_iff_toNat_lt]
theorem below_row {w wr w3:World} {o:Obj} {u:Value} {e:TypeId} {size n:Nat} {xs:List Value} (hb:Below w.heap.size w wr) (h:wr.ownsRow w.heap.size e size u n xs) (hg:(wr.alloc o).grownBy w3 u.ownBlock):Below w.heap.size w w3:=by
 have hT:Turned (fun j=>u.ownBlock=some j) wr w3:=(Turned.ofAlloc wr o).trans (Turned.ofGrown hg (fun j hj _=>hj))
 refine ⟨hT.os.trans hb.os,hT.tape.trans hb.tape,hT.output.trans hb.output,Nat.le_trans hb.size hT.size,fun i hi=>?_⟩
 exact (hT.block i (Nat.lt_of_lt_of_le hi hb.size) (fun e=>by have:=(h.lt i e).1;omega)).trans (hb.block i hi)
set_option maxHeartbeats 2000000 in
set_option maxRecDepth 1000000 in
theorem placedR_any (w:World) (base:Nat) (v:Value) (l:List Bs) (s:Bs) (h:w.ownsRow base 9 1 v l.length (l.map strV)) (hl:l.length≤100000) (hs:Srt l) (hbw:base≤w.heap.size) :
 Calls Tryz.prog 184 #[v,lstV s] w fun e w'=>∃ v',e=.returned v'∧w'.ownsRow base 9 1 v' (plc l s).length ((plc l s).map strV)∧Below w.heap.size w w':=by
 obtain ⟨g,cap,ao,hve,_,hao⟩:=ownsRow_shape h
 have HC:Hid (∀ (w':World) (j:Nat) (x:Bs),Below w.heap.size w w'→l[j]?=some x→ao=some ⟨g,0,none⟩∧w'.cell? ⟨g,j,none⟩=some (lstV x)):=by
  intro w' j x hb hj
  have hlt:=(List.getElem?_eq_some_iff.1 hj).1
  have h1:=hao (by omega)
  have h2:=ownsRow_turned h (Turned.ofBelow (Z:=fun _=>False) hb) (fun _ _ e=>e)
  rw [hve,h1] at h2
  refine ⟨h1,?_⟩
  rw [h2.cellAt j (by omega),List.getElem?_map,hj]
  rfl
 have H0:=hid h
 rw [hve] at H0 ⊢
 clear h hve hao
 have hi9:(Tryz.prog.info? 9).map (fun i=>(i.zero,i.size,i.bytes))=some (some (.string ⟨#[]⟩),1,16):=by kernel_rfl
 obtain ⟨i0,hi,hz0,hz1,hz2⟩:=info_parts hi9
 clear hi9
 go_enter Tryz.func184,Tryz.ntmps184
 go_wp2
 go_loopw [5,6,7] (fun s5 s6 s7 wr=>∃ (k:Nat) (done:Bool) (m:List Bs),s7=.int .i64 (k:Int)∧s6=.bool done∧k≤l.length∧m.length≤k+1∧Hid (wr.ownsRow w.heap.size 9 1 s5 m.length (m.map strV))∧Hid (Below w.heap.size w wr)∧Hid (PlcAt (l.take k) s done m)) (fun _ _ s7 _=>l.length - (intOf s7).toNat)
 case atStart=>exact ⟨0,false,[],rfl,rfl,by omega,by simp,hid ⟨rfl,Or.inl ⟨rfl,rfl⟩⟩,Below.refl _ _,hid (by simpa using PlcAt.start s)⟩
 case round =>
  obtain ⟨k,done,m,rfl,rfl,hk,hm,HO,HB,HP⟩:=hrel
  have hsz:=HB.out.size
  by_cases hlt:k < l.length
  ·have hlti:(k:Int) < (l.length:Int):=by omega
   obtain ⟨x,hx⟩:∃ x,l[k]?=some x:=⟨_,List.getElem?_eq_getElem hlt⟩
   obtain ⟨rfl,hc⟩:=HC.out wr k x HB.out hx
   have htk:Hid (l.take (k+1)=l.take k++[x]):=show _=_ by rw [List.take_add_one,hx];rfl
   by_cases he:x=s
   ·subst he
    have HE:Hid (plc l x=l):=plc_in hs (List.mem_of_getElem? hx)
    go_wp2
    go_ret
    rw [HE.out]
    exact ⟨_,rfl,ownsRow_turned H0.out (Turned.ofBelow (Z:=fun _=>False) HB.out) (fun _ _ e=>e),HB.out⟩
   ·have hne:(x == s)=false:=beq_eq_false_iff_ne.2 he
    have hbl:Op.bytesLess s x=ltB s x:=less_eq s x
    have hbl2:Op.bytesLess x s=!(ltB s x):=by
     rw [less_eq]
     cases hgt:ltB s x with
     | true=>rw [ltB_asymm hgt];rfl
     | false=>rw [ltB_total (fun e=>he e.symm) hgt];rfl
    cases hgt:ltB s x with
    | true =>
      rw [hgt] at hbl hbl2
      simp only [Bool.not_true] at hbl2
      cases done with
      | true =>
        have HP2:=hid (HP.out.more (x:=x))
        rw [← htk.out] at HP2
        go_wp2_with (first | (at_builtin;refine wpList_append_lies _ rfl _ _ 34 rfl w.heap.size 9 i0 (.string ⟨#[]⟩) 1 16 Tryz.underlying34 hi hz0 hz1 hz2 rfl (by decide) _ _ _ rfl (HO.out.alloc _) ⟨wr.heap.size,0,none⟩ 1 1 [strV x] rfl rfl (cell_one_new _ _ _) (fun y hy=>by simp at hy;subst hy;rfl) (by omega) (by unfold maxLen;omega) (by omega) (by simp;omega) (wr.heap.size+1) (by simp) ?_;intro gA3 capA3 w3 hown3 hgrow3 hat3 hlt3))
        go_roundw
        case rel=>exact ⟨k+1,true,m++[x],by go_num,rfl,by omega,by simp;omega,hid (by simpa using hown3),below_row HB.out HO.out hgrow3,HP2⟩
        case measure=>simp [intOf];omega
      | false =>
        have hmk:m.length≤k:=by
         have e:m=l.take k:=HP.out.1
         rw [e];simp;omega
        have HP2:=hid (HP.out.put hgt)
        rw [← htk.out] at HP2
        go_wp2_with (first
         | (at_builtin;have _hh:=HO3;refine wpList_append_lies _ rfl _ _ 34 rfl w.heap.size 9 i0 (.string ⟨#[]⟩) 1 16 Tryz.underlying34 hi hz0 hz1 hz2 rfl (by decide) _ _ _ rfl (HO3.out.alloc _) ⟨w3.heap.size,0,none⟩ 1 1 [strV x] rfl rfl (cell_one_new _ _ _) (fun y hy=>by simp at hy;subst hy;rfl) (by omega) (by unfold maxLen;omega) (by omega) (by simp;omega) (w3.heap.size+1) (by simp) ?_;intro gA4 capA4 w4 hown4 hgrow4 hat4 hlt4)
         | (at_builtin;refine wpList_append_lies _ rfl _ _ 34 rfl w.heap.size 9 i0 (.string ⟨#[]⟩) 1 16 Tryz.underlying34 hi hz0 hz1 hz2 rfl (by decide) _ _ _ rfl (HO.out.alloc _) ⟨wr.heap.size,0,none⟩ 1 1 [strV s] rfl rfl (cell_one_new _ _ _) (fun y hy=>by simp at hy;subst hy;rfl) (by omega) (by unfold maxLen;omega) (by omega) (by simp;omega) (wr.heap.size+1) (by simp) ?_;intro gA3 capA3 w3 hown3 hgrow3 hat3 hlt3;have HO3:Hid (w3.ownsRow w.heap.size 9 1 (.slice (some ⟨gA3,0,none⟩) (m.length+1) capA3) (m.length+1) ((m++[s]).map strV)):=show World.ownsRow _ _ _ _ _ _ _ by { simpa using hown3 };have hB3:=below_row HB.out HO.out hgrow3;have hsz3:=hB3.size;have hc3:=(HC.out w3 k x hB3 hx).2))
        go_roundw
        case rel=>exact ⟨k+1,true,m++[s]++[x],by go_num,rfl,by omega,by simp;omega,hid (by simpa using hown4),below_row hB3 HO3.out hgrow4,HP2⟩
        case measure=>simp [intOf];omega
    | false =>
      rw [hgt] at hbl hbl2
      simp only [Bool.not_false] at hbl2
      cases done with
      | true =>
        have HP2:=hid (HP.out.more (x:=x))
        rw [← htk.out] at HP2
        go_wp2_with (first | (at_builtin;refine wpList_append_lies _ rfl _ _ 34 rfl w.heap.size 9 i0 (.string ⟨#[]⟩) 1 16 Tryz.underlying34 hi hz0 hz1 hz2 rfl (by decide) _ _ _ rfl (HO.out.alloc _) ⟨wr.heap.size,0,none⟩ 1 1 [strV x] rfl rfl (cell_one_new _ _ _) (fun y hy=>by simp at hy;subst hy;rfl) (by omega) (by unfold maxLen;omega) (by omega) (by simp;omega) (wr.heap.size+1) (by simp) ?_;intro gA3 capA3 w3 hown3 hgrow3 hat3 hlt3))
        go_roundw
        case rel=>exact ⟨k+1,true,m++[x],by go_num,rfl,by omega,by simp;omega,hid (by simpa using hown3),below_row HB.out HO.out hgrow3,HP2⟩
        case measure=>simp [intOf];omega
      | false =>
        have HP2:=hid (HP.out.low (ltB_total (fun e=>he e.symm) hgt))
        rw [← htk.out] at HP2
        go_wp2_with (first | (at_builtin;refine wpList_append_lies _ rfl _ _ 34 rfl w.heap.size 9 i0 (.string ⟨#[]⟩) 1 16 Tryz.underlying34 hi hz0 hz1 hz2 rfl (by decide) _ _ _ rfl (HO.out.alloc _) ⟨wr.heap.size,0,none⟩ 1 1 [strV x] rfl rfl (cell_one_new _ _ _) (fun y hy=>by simp at hy;subst hy;rfl) (by omega) (by unfold maxLen;omega) (by omega) (by simp;omega) (wr.heap.size+1) (by simp) ?_;intro gA3 capA3 w3 hown3 hgrow3 hat3 hlt3))
        go_roundw
        case rel=>exact ⟨k+1,false,m++[x],by go_num,rfl,by omega,by simp;omega,hid (by simpa using hown3),below_row HB.out HO.out hgrow3,HP2⟩
        case measure=>simp [intOf];omega
  ·have hlti:¬ ((k:Int) < (l.length:Int)):=by omega
   have hte:l.take k=l:=List.take_of_length_le (by omega)
   rw [hte] at HP
   cases done with
   | true =>
     have HE:=hid HP.out.done
     go_wp2
     go_ret
     rw [HE.out]
     exact ⟨_,rfl,World.ownsRow.mono HO.out hbw,HB.out⟩
   | false =>
     have HE:=hid HP.out.open_
     go_wp2_with (first | (at_builtin;refine wpList_append_lies _ rfl _ _ 34 rfl w.heap.size 9 i0 (.string ⟨#[]⟩) 1 16 Tryz.underlying34 hi hz0 hz1 hz2 rfl (by decide) _ _ _ rfl (HO.out.alloc _) ⟨wr.heap.size,0,none⟩ 1 1 [strV s] rfl rfl (cell_one_new _ _ _) (fun y hy=>by simp at hy;subst hy;rfl) (by omega) (by unfold maxLen;omega) (by omega) (by simp;omega) (wr.heap.size+1) (by simp) ?_;intro gA3 capA3 w3 hown3 hgrow3 hat3 hlt3))
     go_ret
     rw [HE.out]
     exact ⟨_,rfl,World.ownsRow.mono (by simpa using hown3) hbw,below_row HB.out HO.out hgrow3⟩
theorem tag_ne {w:World} {a b:Nat} {ca cb:Array Value} {ta tb:TypeId} {fa fb:Nat × Nat} (ha:w.heap[a]?=some (.cells ca ta fa)) (hb:w.heap[b]?=some (.cells cb tb fb)) (h:ta≠tb):a≠b:=by
 intro e
 subst e
 rw [ha] at hb
 simp at hb
 exact h hb.2.1
theorem ownsRow_block {w:World} {base:Nat} {e:TypeId} {size:Nat} {v:Value} {n:Nat} {xs:List Value} (h:w.ownsRow base e size v n xs) {g:Nat} (hg:v.ownBlock=some g):∃ cur,w.heap[g]?=some (.cells cur e (0,0)):=by
 rcases h.2 with ⟨h1,_⟩ | ⟨g',cap,cur,h1,_,h3,_⟩
 ·rw [h1] at hg;simp [Value.ownBlock] at hg
 ·rw [h1] at hg
  simp [Value.ownBlock] at hg
  subst hg
  exact ⟨cur,h3⟩
theorem map_modify_snd (ds:List (List UInt8 × Bool)) (i:Nat):(killAt ds i).map (fun d=>Value.bool d.2)=(ds.map fun d=>Value.bool d.2).set i (.bool false):=by
 unfold killAt
 apply List.ext_getElem?
 intro j
 rw [List.getElem?_map,List.getElem?_modify,List.getElem?_set]
 by_cases h:i=j
 ·subst h
  rw [List.getElem?_map]
  by_cases hl:i < ds.length
  ·simp [hl]
  ·simp [hl]
 ·simp [h]
theorem kill_fst (ds:List (List UInt8 × Bool)) (i j:Nat) (d:List UInt8 × Bool) (h:(killAt ds i)[j]?=some d):∃ d',ds[j]?=some d'∧d'.1=d.1:=by
 unfold killAt at h
 rw [List.getElem?_modify] at h
 obtain ⟨d',h1,h2⟩:=Option.map_eq_some_iff.1 h
 refine ⟨d',h1,?_⟩
 rw [← h2]
 split <;> rfl
theorem RefOk.kill {w:World} {Z:Nat→Prop} {y:Nat} {ds:List (List UInt8 × Bool)} {v4:Value} {xs:List Value} {ws:List Bool} {v1:Value} {g2 cap2 g3 cap3:Nat}
 (h:RefOk w Z y ds v1 (.slice (some ⟨g2,0,none⟩) ds.length cap2) (.slice (some ⟨g3,0,none⟩) ds.length cap3) v4 xs ws) (i:Nat) :
 RefOk ((w.setCell ⟨g2,i,none⟩ (.bool false)).setCell ⟨g3,i,none⟩ (.bool false)) Z y (killAt ds i) v1 (.slice (some ⟨g2,0,none⟩) ds.length cap2) (.slice (some ⟨g3,0,none⟩) ds.length cap3) v4 xs (ws.set i false) ∧
 Turned Z w ((w.setCell ⟨g2,i,none⟩ (.bool false)).setCell ⟨g3,i,none⟩ (.bool false)):=by
 have hlen:(killAt ds i).length=ds.length:=by simp [killAt]
 have h23:g2≠g3:=fun e=>h.apart g2 rfl (by rw [e];rfl)
 obtain ⟨cu2,b2⟩:=ownsRow_block h.own2 (g:=g2) rfl
 obtain ⟨cu3,b3⟩:=ownsRow_block h.own3 (g:=g3) rfl
 have hy2:y≠g2:=tag_ne h.eng b2 (by decide)
 have hy3:y≠g3:=tag_ne h.eng b3 (by decide)
 have n12:∀ g,v1.ownBlock=some g→g≠g2∧g≠g3:=fun g hg=>by
  obtain ⟨cu1,b1⟩:=ownsRow_block h.own1 hg
  exact ⟨tag_ne b1 b2 (by decide),tag_ne b1 b3 (by decide)⟩
 have s2:=(h.own2.stored i (.bool false)).1
 have s3:=((ownsRow_setCell_other h.own3 (a:=⟨g2,i,none⟩) (by simp [Value.ownBlock];exact fun e=>h23 e.symm) (.bool false)).stored i (.bool false)).1
 refine ⟨⟨?_,?_,?_,?_,?_,h.zy,h.z1,h.z2,h.z3,h.apart⟩,?_⟩
 ·rw [Below.heap_setCell _ _ _ _ hy3,Below.heap_setCell _ _ _ _ hy2];exact h.eng
 ·rw [hlen]
  exact ownsRow_setCell_other (ownsRow_setCell_other h.own1 (fun e=>(n12 _ e).1 rfl) _) (fun e=>(n12 _ e).2 rfl) _
 ·intro j d hj
  obtain ⟨d',h1,h2⟩:=kill_fst ds i j d hj
  rw [← h2];exact h.keys j d' h1
 ·rw [hlen,map_modify_snd]
  exact ownsRow_setCell_other s2 (by simp [Value.ownBlock];exact h23) _
 ·rw [hlen,List.map_set]
  exact s3
 ·exact (Turned.ofSet w _ _ (h.z2 g2 rfl)).trans (Turned.ofSet _ _ _ (h.z3 g3 rfl))
theorem RefOk.turned {w w':World} {Z:Nat→Prop} {y:Nat} {ds:List (List UInt8 × Bool)} {v1 v2 v3 v4:Value} {xs:List Value} {ws:List Bool} (h:RefOk w Z y ds v1 v2 v3 v4 xs ws) {Z':Nat→Prop} (ht:Turned Z' w w') (hz:∀ b,Z b→¬ Z' b) :
 RefOk w' Z y ds v1 v2 v3 v4 xs ws :=
 ⟨(ht.block y (lt_of_block h.eng) (hz y h.zy)).trans h.eng,ownsRow_turned h.own1 ht (fun g hg=>hz g (h.z1 g hg)),h.keys,ownsRow_turned h.own2 ht (fun g hg=>hz g (h.z2 g hg)),ownsRow_turned h.own3 ht (fun g hg=>hz g (h.z3 g hg)),h.zy,h.z1,h.z2,h.z3,h.apart⟩
theorem RefOk.same {w w':World} {Z:Nat→Prop} {y:Nat} {ds:List (List UInt8 × Bool)} {v1 v2 v3 v4:Value} {xs:List Value} {ws:List Bool} (h:RefOk w Z y ds v1 v2 v3 v4 xs ws) (e:w'.heap=w.heap):RefOk w' Z y ds v1 v2 v3 v4 xs ws:=by
 have own:∀ {ty:TypeId} {sz:Nat} {v:Value} {n:Nat} {l:List Value},w.ownsRow 0 ty sz v n l→w'.ownsRow 0 ty sz v n l:=by
  intro ty sz v n l hh
  unfold World.ownsRow at hh ⊢
  rw [e]
  exact hh
 exact ⟨by rw [e];exact h.eng,own h.own1,h.keys,own h.own2,own h.own3,h.zy,h.z1,h.z2,h.z3,h.apart⟩
def killK (ds:List (List UInt8 × Bool)) (key:List UInt8):List (List UInt8 × Bool):=match findK ds key with | some i=>killAt ds i | none=>ds
set_option maxHeartbeats 400000 in
theorem refNew_any (w:World):Calls Tryz.prog 63 #[] w fun e w'=>e=.returned (.pointer (some ⟨w.heap.size,0,none⟩))∧w'=w.alloc (.cells #[.slice none 0 0,.slice none 0 0,.slice none 0 0,.slice none 0 0] 193):=by
 go_enter Tryz.func63,Tryz.ntmps63
 go_wp2
 go_ret
 exact ⟨rfl,rfl⟩
end Go.Proofs.YtaacjjhmojecnaaGreatDoor
