import Derived.Shelf.SlIter.Nil
import Derived.Shelf.SortM.Plain
import Derived.Shelf.SortM.SortNone
import Derived.Ground.GgzProg
import Derived.Ground.SlgmProg
import Derived.Test.YtaacjjhmojecnaaGreatDoorProg
namespace Go.Proofs.YtaacjjhmojecnaaGreatDoor
open Go.RowKit Go.Maps Go.Sort Go.Shelf Go.Proofs
shelf_lay_g SlLaysZ.n7 Ggz 7 at Tryz 176 as Tryz.keys176
shelf_lay_g SlLaysZ.n6 Ggz 6 at Tryz 175 as Tryz.sorted175
shelf_lay_g SlLaysM.n6 Slgm 6 at Tryz 68 as Tryz.sort68
theorem sorts68 (m:Nat):AnyZ.SortsIn Tryz.prog Tryz.sorted175_ren Fence.wide m :=
 ⟨fun blk off cap ss W hH hblk hsz=>callsIn_wide.2 (AnyM.slices_Sort_string Tryz.sort68 blk off cap ss W hH hblk hsz),
  fun p cap W=>callsIn_wide.2 (AnyM.slices_Sort_string_none Tryz.sort68 p cap W)⟩
theorem keys_any (mb:Option Nat) (W:World):Calls Tryz.prog 176 #[.map mb] W fun e w'=>e=.returned (.func (.func 245) #[] #[.pointer (some ⟨W.heap.size,0,none⟩)])∧w'=W.alloc (.cells #[.map mb] 83) :=
 (callsIn_wide (n:=5)).1 (AnyZ.keys_in Tryz.keys176 Fence.wide 5 trivial rfl mb W)
set_option maxHeartbeats 1000000 in
theorem sorted_any {H:Type} {b nn:Nat} {D0:DataW H} {R:Value→Option (DataW H × List MemPlace)} {w:World} (hown:w.ownsMap Tryz.prog 9 R b nn D0) (hmax:Maps.size D0≤10000) :
 Calls Tryz.prog 175 #[.func (.func 245) #[] #[.pointer (some ⟨w.heap.size,0,none⟩)]] (w.alloc (.cells #[.map (some b)] 83)) fun e w'=>∃ (v:Value) (ss:List (List UInt8)),e=.returned v∧ss.Perm (strKeys D0) ∧
  w'.ownsRow w.heap.size 9 1 v ss.length ((ss.mergeSort (fun x y=>decide (x≤y))).map encStr)∧Below w.heap.size w w':=by
 have hbl:=hown.lt
 have hseq:SeqGives Fence.wide 2 Tryz.prog 245 #[.pointer (some ⟨w.heap.size,0,none⟩)] encStr (fun ss=>ss.Perm (strKeys D0)) (Maps.size D0) (w.alloc (.cells #[.map (some b)] 83)) :=
  AnyZ.keys_gives (ρ:=Tryz.keys176_ren) { Tryz.keys176 with } Fence.wide _ trivial rfl (by omega) w.heap.size b nn D0 _ (by simp) (by simp) (by
   obtain ⟨es,clock,hb,Ft,hs,hD⟩:=hown
   exact ⟨es,clock,(Below.heap_alloc _ _ b hbl).trans hb,Ft,hs,hD⟩)
 have C:=AnyZ.sorted_in Tryz.sorted175 Fence.wide 5 trivial trivial trivial trivial rfl (by omega) (sorts68 _) (enters_of Tryz.func68 (by kernel_rfl) rfl) 245 #[.pointer (some ⟨w.heap.size,0,none⟩)] trivial (enters_of Tryz.func245 (by kernel_rfl) rfl) _ _ (by unfold maxLen;omega) (by omega) _ hseq
 refine ((callsIn_wide (n:=5)).1 C).mono ?_
 rintro e w' ⟨v,ss,rfl,hS,hrow,hnil,hb⟩
 exact ⟨v,ss,rfl,hS,ownsRow_base_a hrow (by simp),((Below.refl _ w).alloc (Nat.le_refl _) _).trans (hb.mono (by simp))⟩
end Go.Proofs.YtaacjjhmojecnaaGreatDoor
