/- A store at a key that is there into the map that is ranged over, where all elements read alike. -/
import Derived.Maps.RangeWalk
namespace Go.ScT
open Go Go.ChangeMaps Go.MapKept Go.WideShapes
open Go.WideElems (Fit rd rg pl rd_key rd_val rg_of rd_mk other_key)
open Go.Maps (Keyed)

theorem ranges_store {H : Type} {P : Program} {k : TypeId} {R : Value → Option (DataW H × List MemPlace)} {w : World} {b r n : Nat} {D : DataW H} {left : Lit → Bool} {cnt : Nat} {t e : TypeId} {z : Value}
    (h : w.ranges P k R b r n D left cnt) (K : Keyed P k) (ht : P.underlying t = some (.map k e)) (hz : (zeroValue e).run P w = .ok z w) {key val : Value} {kl : Lit} (hkey : keyOf P k key = some kl)
    (hall : ∀ v y, R v = some y → y = (.nil, [])) (hv : R val = some (.nil, [])) (hthere : ∀ zd, D.atKey kl zd = .nil) :
    ∃ w', (Instr.mapUpdate t (.map (some b)) key val).run P w = .ok () w' ∧ w'.ranges P k R b r n D left cnt ∧ w.grownBy w' (some b) ∧ w'.heap.size = w.heap.size := by
  have hne := h.ne
  obtain ⟨es, clock, since, seen, c0, hb, F, hs, rfl, hr, hold, hcnt, hl1, hl2, hsc, hsk⟩ := h
  rcases K.find w hkey es.toList F.keys with ⟨h1, h2⟩ | ⟨j, e0, h1, h2, h3⟩
  · exfalso
    rcases Maps.fit_look false K ht hz hb F hkey with ⟨_, _, hat⟩ | ⟨e0, y, hm, hk0, _⟩
    · have := (hthere (.lit (.bool true))).symm.trans (hat (.lit (.bool true)))
      cases this
    · exact h2 e0 hm hk0
  · have hj : es[j]? = some e0 := by simpa using h2
    have he0 : e0 ∈ es.toList := List.mem_of_getElem? h2
    have hkeyf : ∀ e', es[j]? = some e' → ({ e' with key := key, val := val } : MapEntry).key = e'.key := fun e' he' => by rw [hj] at he'; cases he'; exact h3.symm
    have hlist : (es.modify j (fun e' => { e' with key := key, val := val })).toList = es.toList.set j { e0 with key := key, val := val } := by rw [Array.toList_modify, modify_eq_set _ _ _ _ h2]
    have hrg : rg P k R { e0 with key := key, val := val } = rg P k R e0 := by
      obtain ⟨y, hy⟩ := F.reads e0 he0
      obtain ⟨zz, hzz, hzd⟩ := rd_val hy
      have hk1 := rd_key hy
      rw [h3, hkey] at hk1
      have h5 := hall _ _ hzz
      rw [rg_of hy, rg_of (rd_mk hkey hv)]
      refine Prod.ext (Option.some.inj hk1) ?_
      rw [hzd, h5]
    have hmapset : (es.toList.set j { e0 with key := key, val := val }).map (rg P k R) = es.toList.map (rg P k R) := by
      rw [List.map_set, hrg]
      apply List.ext_getElem?
      intro i
      rw [List.getElem?_set]
      split
      · rename_i hij
        subst hij
        rw [List.getElem?_map, h2]
        simp
        exact (List.getElem?_eq_some_iff.1 h2).1
      · rfl
    have hmem : ∀ x ∈ es.toList.set j { e0 with key := key, val := val }, ∃ x0 ∈ es.toList, x0.born = x.born ∧ rg P k R x = rg P k R x0 ∧ ∃ y, rd P k R x = some y := by
      intro x hx
      obtain ⟨i, hi, ex⟩ := List.getElem_of_mem hx
      rw [List.getElem_set] at ex
      split at ex
      · subst ex
        exact ⟨e0, he0, rfl, hrg, ⟨_, rd_mk hkey hv⟩⟩
      · have hi' : i < es.toList.length := by simpa using hi
        have hx0 : x ∈ es.toList := ex ▸ List.getElem_mem hi'
        exact ⟨x, hx0, rfl, rfl, F.reads x hx0⟩
    have hborns : (es.toList.set j { e0 with key := key, val := val }).map (·.born) = es.toList.map (·.born) := by
      rw [List.map_set]
      apply List.ext_getElem?
      intro i
      rw [List.getElem?_set]
      split
      · rename_i hij
        subst hij
        rw [List.getElem?_map, h2]
        simp
        exact (List.getElem?_eq_some_iff.1 h2).1
      · rfl
    have hrun : (Instr.mapUpdate t (.map (some b)) key val).run P w = .ok () (setBlock w b (.map (es.modify j (fun e' => { e' with key := key, val := val })) clock)) := by
      simp [Instr.mapUpdate, run_underlying ht, MapKept.run_getObj_map hb, K.check w false hkey, h1, hj, h3, K.stays w hkey, MapKept.run_setObj_map _ hb, Result.andThen, setBlock]
    refine ⟨_, hrun, ⟨es.modify j (fun e' => { e' with key := key, val := val }), clock, since, seen, c0, heap_setBlock_same hb _, ⟨by simpa using F.size, stamped_modify F.stamped _ _ (fun _ _ => rfl) (fun e' _ he' => hkeyf e' he'), fun x hx => ?_⟩, by simpa using hs, by rw [hlist, hmapset], (heap_setBlock_other hb _ hne).trans hr, fun x hx => ?_, ?_, fun x hx => ?_, fun x0 hx0 => ?_, hsc, hsk⟩, ⟨rfl, rfl, rfl, by simp [setBlock], fun i _ hi => heap_setBlock_other hb _ (fun e => hi (by rw [e]))⟩, by simp [setBlock]⟩
    · rw [hlist] at hx
      obtain ⟨_, _, _, _, hy⟩ := hmem x hx
      exact hy
    · rw [hlist] at hx
      obtain ⟨x1, hx1, hb1, _, _⟩ := hmem x hx
      rw [← hb1]; exact hold x1 hx1
    · rw [← hcnt]
      have e1 : ∀ a : Array MapEntry, (leftOf a seen).size = ((a.toList.map (·.born)).filter fun c => !seen.contains c).length := fun a => by
        unfold leftOf
        rw [← Array.length_toList, Array.toList_filter, List.filter_map, List.length_map]
        rfl
      rw [e1, e1, hlist, hborns]
    · rw [hlist] at hx
      obtain ⟨x1, hx1, hb1, hg1, _⟩ := hmem x hx
      rw [hg1, ← hb1]; exact hl1 x1 hx1
    · obtain ⟨x, hx, hxe⟩ := hl2 x0 hx0
      have : (rg P k R x) ∈ (es.toList.set j { e0 with key := key, val := val }).map (rg P k R) := by rw [hmapset]; exact List.mem_map_of_mem hx
      obtain ⟨x', hx', hge⟩ := List.mem_map.1 this
      exact ⟨x', by rw [hlist]; exact hx', by rw [hge]; exact hxe⟩
end Go.ScT
