/- errors.As over the reader's errors, at the target's type **AtByte. -/
import Derived.Test.YtaacjjhmojecnaaGreatDoorErr
import Derived.WalkKit
namespace Go.Proofs.YtaacjjhmojecnaaGreatDoor
open Go.RowKit Go.Extern.Stop Go.Stop Go.Extern Go.Proofs Go.ScT

/-- errors.As(nil, target). -/
theorem as_nil (t : Value) (w : World) :
    Calls Tryz.prog 73 #[.nilIface, t] w fun e w' => e = .returned (.bool false) ∧ w' = w := by
  go_enter Tryz.func73, Tryz.ntmps73
  go_wp2
  go_ret
  exact ⟨rfl, rfl⟩

theorem Tryz.valueOf117 (t : Addr) (w : World) : (ReflectliteValue.unpack (.iface 119 (.pointer (some t)))).run Tryz.prog w
    = .ok (.agg #[.pointer (some ⟨12, 119, none⟩), .pointer (some ⟨w.heap.size, 0, none⟩), .int .u64 150]) (w.alloc (.cells #[.pointer (some t)] 119)) := by kernel_rfl
theorem Tryz.type117 (a : Addr) (w : World) : (ReflectliteValue.methodAny (ReflectliteValue.valueError "reflectlite.Value.Type" 0) (fun t _ _ _ => ReflectliteType.toType t) #[.agg #[.pointer (some ⟨12, 119, none⟩), .pointer (some a), .int .u64 150]]).run Tryz.prog w
    = .ok (.iface 298 (.agg #[.pointer (some ⟨12, 119, none⟩)])) w := by kernel_rfl
theorem Tryz.methodKind (h : Value) (w : World) : (Go.method 534 298 (.agg #[h]) "Kind").run Tryz.prog w = .ok (336, h) w := by kernel_rfl
theorem Tryz.kind117 (w : World) : ((ReflectliteType.abiMethod fun t => Functor.map (fun a : Nat => Value.int IntKind.u8 (a : Int)) (Rtype.kind t)) #[.pointer (some ⟨12, 119, none⟩)]).run Tryz.prog w = .ok (.int .u8 22) w := by kernel_rfl
theorem Tryz.kind114 (w : World) : ((ReflectliteType.abiMethod fun t => Functor.map (fun a : Nat => Value.int IntKind.u8 (a : Int)) (Rtype.kind t)) #[.pointer (some ⟨12, 116, none⟩)]).run Tryz.prog w = .ok (.int .u8 22) w := by kernel_rfl
theorem rlm (z : Sem Value) (f : TypeId → Addr → Nat → Nat → Sem Value) (v : Value) :
    ReflectliteValue.method z f #[v] = (do match ← ReflectliteValue.parts v with | none => z | some (t, a, fl) => f t a fl (fl % 32)) := rfl
theorem Tryz.parts117 (a : Addr) (w : World) : (ReflectliteValue.parts (.agg #[.pointer (some ⟨12, 119, none⟩), .pointer (some a), .int .u64 150])).run Tryz.prog w = .ok (some (119, a, 150)) w := by kernel_rfl
theorem Tryz.isNil117 (a p : Addr) (W : World) (ha : W.cell? a = some (.pointer (some p))) :
    (ReflectliteValue.method (ReflectliteValue.valueError "reflectlite.Value.IsNil" 0) ReflectliteValue.isNil #[.agg #[.pointer (some ⟨12, 119, none⟩), .pointer (some a), .int .u64 150]]).run Tryz.prog W = .ok (.bool false) W := by
  rw [rlm]
  simp only [Sem.run_bind, Tryz.parts117, Result.andThen]
  simp [ReflectliteValue.isNil, loadVar, isAgg, underlying, Tryz.underlying119, ha, Result.andThen]
theorem Tryz.methodElem (h : Value) (w : World) : (Go.method 534 298 (.agg #[h]) "Elem").run Tryz.prog w = .ok (350, .agg #[h]) w := by kernel_rfl
theorem Tryz.methodImplements (h : Value) (w : World) : (Go.method 534 298 (.agg #[h]) "Implements").run Tryz.prog w = .ok (351, .agg #[h]) w := by kernel_rfl
theorem Tryz.methodAssignableTo (h : Value) (w : World) : (Go.method 534 298 (.agg #[h]) "AssignableTo").run Tryz.prog w = .ok (348, .agg #[h]) w := by kernel_rfl
theorem Tryz.elem117 (w : World) : (ReflectliteType.method ReflectliteType.elem #[.agg #[.pointer (some ⟨12, 119, none⟩)]]).run Tryz.prog w = .ok (.iface 298 (.agg #[.pointer (some ⟨12, 116, none⟩)])) w := by kernel_rfl
theorem Tryz.implements114 (w : World) : (ReflectliteType.relation "Implements" ReflectliteType.implements_ #[.agg #[.pointer (some ⟨12, 116, none⟩)], .iface 298 (.agg #[.pointer (some ⟨12, 70, none⟩)])]).run Tryz.prog w = .ok (.bool true) w := by kernel_rfl
theorem Tryz.typeOf114 (v : Value) (w : World) : (ReflectliteType.typeOf #[.iface 116 v]).run Tryz.prog w = .ok (.iface 298 (.agg #[.pointer (some ⟨12, 116, none⟩)])) w := by kernel_rfl
theorem Tryz.typeOf152 (v : Value) (w : World) : (ReflectliteType.typeOf #[.iface 156 v]).run Tryz.prog w = .ok (.iface 298 (.agg #[.pointer (some ⟨12, 156, none⟩)])) w := by kernel_rfl
theorem Tryz.assignable114 (w : World) : (ReflectliteType.relation "AssignableTo" ReflectliteType.assignableTo #[.agg #[.pointer (some ⟨12, 116, none⟩)], .iface 298 (.agg #[.pointer (some ⟨12, 116, none⟩)])]).run Tryz.prog w = .ok (.bool true) w := by kernel_rfl
theorem Tryz.assignable152 (w : World) : (ReflectliteType.relation "AssignableTo" ReflectliteType.assignableTo #[.agg #[.pointer (some ⟨12, 156, none⟩)], .iface 298 (.agg #[.pointer (some ⟨12, 116, none⟩)])]).run Tryz.prog w = .ok (.bool false) w := by kernel_rfl
theorem Tryz.valueOf114 (e : Addr) (w : World) : (ReflectliteValue.unpack (.iface 116 (.pointer (some e)))).run Tryz.prog w
    = .ok (.agg #[.pointer (some ⟨12, 116, none⟩), .pointer (some ⟨w.heap.size, 0, none⟩), .int .u64 150]) (w.alloc (.cells #[.pointer (some e)] 116)) := by kernel_rfl
theorem Tryz.elemOf117 (w : World) : (Rtype.elem? 119).run Tryz.prog w = .ok (some 116) w := by kernel_rfl
theorem Tryz.mk114 (p : Addr) (w : World) : (ReflectliteValue.mk 116 p ReflectliteValue.flagAddr).run Tryz.prog w = .ok (.agg #[.pointer (some ⟨12, 116, none⟩), .pointer (some p), .int .u64 406]) w := by kernel_rfl
theorem Tryz.elemV117 (a p : Addr) (W : World) (ha : W.cell? a = some (.pointer (some p))) :
    (ReflectliteValue.method (ReflectliteValue.valueError "reflectlite.Value.Elem" 0) ReflectliteValue.elem #[.agg #[.pointer (some ⟨12, 119, none⟩), .pointer (some a), .int .u64 150]]).run Tryz.prog W
      = .ok (.agg #[.pointer (some ⟨12, 116, none⟩), .pointer (some p), .int .u64 406]) W := by
  rw [rlm]
  simp only [Sem.run_bind, Tryz.parts117, Result.andThen]
  simp [ReflectliteValue.elem, loadVar, isAgg, underlying, Tryz.underlying119, ha, Result.andThen, Tryz.elemOf117, Tryz.mk114]
theorem Tryz.parts114a (a : Addr) (w : World) : (ReflectliteValue.parts (.agg #[.pointer (some ⟨12, 116, none⟩), .pointer (some a), .int .u64 406])).run Tryz.prog w = .ok (some (116, a, 406)) w := by kernel_rfl
theorem Tryz.parts114 (a : Addr) (w : World) : (ReflectliteValue.parts (.agg #[.pointer (some ⟨12, 116, none⟩), .pointer (some a), .int .u64 150])).run Tryz.prog w = .ok (some (116, a, 150)) w := by kernel_rfl
theorem Tryz.direct114 (w : World) : (Rtype.directlyAssignable 116 116).run Tryz.prog w = .ok true w := by kernel_rfl
def setRest (v x : Value) : { f : Option (TypeId × Addr × Nat) → Option (TypeId × Addr × Nat) → Sem Value // ReflectliteValue.set #[v, x] = (ReflectliteValue.parts v >>= fun a => ReflectliteValue.parts x >>= fun c => f a c) } := ⟨_, rfl⟩
theorem Tryz.set114 (ta b e : Addr) (old : Value) (W : World) (hb : W.cell? b = some (.pointer (some e))) (ht : W.cell? ta = some old) (hf : W.frozen? ta = false) :
    (ReflectliteValue.set #[.agg #[.pointer (some ⟨12, 116, none⟩), .pointer (some ta), .int .u64 406], .agg #[.pointer (some ⟨12, 116, none⟩), .pointer (some b), .int .u64 150]]).run Tryz.prog W
      = .ok (.tuple #[]) (W.setCell ta (.pointer (some e))) := by
  rw [(setRest _ _).2]
  simp only [Sem.run_bind, Tryz.parts114a, Tryz.parts114, Result.andThen]
  simp [setRest, ReflectliteValue.flagAddr, loadVar, isAgg, underlying, Tryz.underlying116, hb, Result.andThen, Tryz.direct114, storeVar, Value.cells, storeCells, Addr.add]
  rw [run_store Tryz.prog W ta _ _ (by rfl)]
  simp [ht, hf]
theorem Tryz.noAsA (v : Value) (xT : TypeId) (w : World) : (Instr.typeAssert (.iface 116 v) xT 309 true).run Tryz.prog w = .ok (.tuple #[.nilIface, .bool false]) w := run_typeAssert_lacksB Tryz.underlying309 (by kernel_rfl) (by kernel_rfl) v xT w
theorem Tryz.noAsI (v : Value) (xT : TypeId) (w : World) : (Instr.typeAssert (.iface 156 v) xT 309 true).run Tryz.prog w = .ok (.tuple #[.nilIface, .bool false]) w := run_typeAssert_lacksB Tryz.underlying309 (by kernel_rfl) (by kernel_rfl) v xT w
set_option maxHeartbeats 4000000 in
set_option maxRecDepth 100000 in
theorem as_chain0 (e t : Addr) (old : Value) (w : World) (hg : w.cell? ⟨1, 0, none⟩ = some (.iface 298 (.agg #[.pointer (some ⟨12, 70, none⟩)]))) (ht0 : w.cell? t = some old) (hf0 : w.frozen? t = false) :
    Calls Tryz.prog 73 #[.iface 116 (.pointer (some e)), .iface 119 (.pointer (some t))] w fun ev w' => ev = .returned (.bool true) ∧ w' = ((((w.alloc (.cells #[.pointer (some t)] 119)).alloc (.cells #[.pointer (some ⟨12, 119, none⟩), .pointer (some ⟨w.heap.size, 0, none⟩), .int .u64 150] 212)).alloc (.cells #[.pointer (some ⟨12, 119, none⟩), .pointer (some ⟨w.heap.size, 0, none⟩), .int .u64 150] 212)).alloc (.cells #[.pointer (some e)] 116)).setCell t (.pointer (some e)) := by
  have x132 := @run_callFunc_extern Tryz.prog 134 _ (fun args => ReflectliteValue.unpack (args.getD 0 (.tuple #[]))) Tryz.func134 (by kernel_rfl) (by kernel_rfl) (by kernel_rfl) (by kernel_rfl)
  have x133 := @run_callFunc_extern Tryz.prog 135 _ (ReflectliteValue.methodAny (ReflectliteValue.valueError "reflectlite.Value.Type" 0) (fun t _ _ _ => ReflectliteType.toType t)) Tryz.func135 (by kernel_rfl) (by kernel_rfl) (by kernel_rfl) (by kernel_rfl)
  have x134 := @run_callFunc_extern Tryz.prog 136 _ (ReflectliteValue.method (ReflectliteValue.valueError "reflectlite.Value.IsNil" 0) ReflectliteValue.isNil) Tryz.func136 (by kernel_rfl) (by kernel_rfl) (by kernel_rfl) (by kernel_rfl)
  have x308 := @run_callFunc_extern Tryz.prog 336 _ (ReflectliteType.abiMethod fun t => do pure (.int .u8 (← Rtype.kind t))) Tryz.func336 (by kernel_rfl) (by kernel_rfl) (by kernel_rfl) (by kernel_rfl)
  have x322 := @run_callFunc_extern Tryz.prog 350 _ (ReflectliteType.method ReflectliteType.elem) Tryz.func350 (by kernel_rfl) (by kernel_rfl) (by kernel_rfl) (by kernel_rfl)
  have x323 := @run_callFunc_extern Tryz.prog 351 _ (ReflectliteType.relation "Implements" ReflectliteType.implements_) Tryz.func351 (by kernel_rfl) (by kernel_rfl) (by kernel_rfl) (by kernel_rfl)
  have x130 := @run_callFunc_extern Tryz.prog 132 _ ReflectliteType.typeOf Tryz.func132 (by kernel_rfl) (by kernel_rfl) (by kernel_rfl) (by kernel_rfl)
  have x320 := @run_callFunc_extern Tryz.prog 348 _ (ReflectliteType.relation "AssignableTo" ReflectliteType.assignableTo) Tryz.func348 (by kernel_rfl) (by kernel_rfl) (by kernel_rfl) (by kernel_rfl)
  have x204 := @run_callFunc_extern Tryz.prog 208 _ (ReflectliteValue.method (ReflectliteValue.valueError "reflectlite.Value.Elem" 0) ReflectliteValue.elem) Tryz.func208 (by kernel_rfl) (by kernel_rfl) (by kernel_rfl) (by kernel_rfl)
  have x205 := @run_callFunc_extern Tryz.prog 209 _ ReflectliteValue.set Tryz.func209 (by kernel_rfl) (by kernel_rfl) (by kernel_rfl) (by kernel_rfl)
  have k0 := Tryz.typeOf114
  have k1 := Tryz.typeOf152
  have k2 := Tryz.methodAssignableTo
  have k3 := Tryz.assignable114
  have k4 := Tryz.assignable152
  have k5 := Tryz.valueOf114
  have k6 := Tryz.valueOf117
  have k7 := Tryz.type117
  have k8 := Tryz.methodKind
  have k9 := Tryz.methodElem
  have k10 := Tryz.methodImplements
  have k11 := Tryz.kind117
  have k12 := Tryz.kind114
  have k13 := Tryz.elem117
  have k14 := Tryz.implements114
  have k15 := Tryz.noAsA
  have k16 := Tryz.noAsI
  have k17 := Tryz.hasUnwrapA
  have k18 := Tryz.hasUnwrapI
  have k19 := Tryz.methodUnwrapA
  have k20 := Tryz.methodUnwrapI
  have n8 := Tryz.isNil117 ⟨w.heap.size, 0, none⟩ t ((w.alloc (.cells #[.pointer (some t)] 119)).alloc (.cells #[.pointer (some ⟨12, 119, none⟩), .pointer (some ⟨w.heap.size, 0, none⟩), .int .u64 150] 212)) (by simp)
  have hlt : 1 < w.heap.size := by
    rcases Nat.lt_or_ge 1 w.heap.size with h | h
    · exact h
    · simp [World.cell?, Array.getElem?_eq_none h] at hg
  have hg2 : ((w.alloc (.cells #[.pointer (some t)] 119)).alloc (.cells #[.pointer (some ⟨12, 119, none⟩), .pointer (some ⟨w.heap.size, 0, none⟩), .int .u64 150] 212)).cell? ⟨1, 0, none⟩ = some (.iface 298 (.agg #[.pointer (some ⟨12, 70, none⟩)])) := by
    rw [World.cell?_alloc_lt _ _ ⟨1, 0, none⟩ (by simp; omega), World.cell?_alloc_lt _ _ ⟨1, 0, none⟩ hlt]; exact hg
  have htl : t.block < w.heap.size := by
    rcases Nat.lt_or_ge t.block w.heap.size with h | h
    · exact h
    · simp [World.cell?, Array.getElem?_eq_none h] at ht0
  have el := Tryz.elemV117 ⟨w.heap.size, 0, none⟩ t (((w.alloc (.cells #[.pointer (some t)] 119)).alloc (.cells #[.pointer (some ⟨12, 119, none⟩), .pointer (some ⟨w.heap.size, 0, none⟩), .int .u64 150] 212)).alloc (.cells #[.pointer (some ⟨12, 119, none⟩), .pointer (some ⟨w.heap.size, 0, none⟩), .int .u64 150] 212)) (by rw [World.cell?_alloc_lt _ _ ⟨w.heap.size, 0, none⟩ (by simp; omega)]; simp)
  have st := Tryz.set114 t ⟨w.heap.size + 1 + 1 + 1, 0, none⟩ e old ((((w.alloc (.cells #[.pointer (some t)] 119)).alloc (.cells #[.pointer (some ⟨12, 119, none⟩), .pointer (some ⟨w.heap.size, 0, none⟩), .int .u64 150] 212)).alloc (.cells #[.pointer (some ⟨12, 119, none⟩), .pointer (some ⟨w.heap.size, 0, none⟩), .int .u64 150] 212)).alloc (.cells #[.pointer (some e)] 116))
    (by rw [World.cell?_alloc_at _ _ _ _ (by simp)]; rfl)
    (by rw [World.cell?_alloc_lt _ _ t (by simp; omega), World.cell?_alloc_lt _ _ t (by simp; omega), World.cell?_alloc_lt _ _ t (by simp; omega), World.cell?_alloc_lt _ _ t htl]; exact ht0)
    (by rw [World.frozen?_alloc_old _ _ t (by simp; omega), World.frozen?_alloc_old _ _ t (by simp; omega), World.frozen?_alloc_old _ _ t (by simp; omega), World.frozen?_alloc_old _ _ t (Nat.ne_of_lt htl)]; exact hf0)
  go_enter Tryz.func73, Tryz.ntmps73
  go_wp2
  refine wp_loop_rounds 1 ?_
  rw [rounds_succ]
  go_wp2
  go_ret
  exact ⟨rfl, rfl⟩
set_option maxHeartbeats 4000000 in
set_option maxRecDepth 100000 in
theorem as_chain1 (p0 : Nat) (e t : Addr) (old : Value) (w : World) (h0 : w.cell? ⟨p0, 1, none⟩ = some (.iface 116 (.pointer (some e)))) (hg : w.cell? ⟨1, 0, none⟩ = some (.iface 298 (.agg #[.pointer (some ⟨12, 70, none⟩)]))) (ht0 : w.cell? t = some old) (hf0 : w.frozen? t = false) :
    Calls Tryz.prog 73 #[.iface 156 (.pointer (some ⟨p0, 0, none⟩)), .iface 119 (.pointer (some t))] w fun ev w' => ev = .returned (.bool true) ∧ w' = ((((w.alloc (.cells #[.pointer (some t)] 119)).alloc (.cells #[.pointer (some ⟨12, 119, none⟩), .pointer (some ⟨w.heap.size, 0, none⟩), .int .u64 150] 212)).alloc (.cells #[.pointer (some ⟨12, 119, none⟩), .pointer (some ⟨w.heap.size, 0, none⟩), .int .u64 150] 212)).alloc (.cells #[.pointer (some e)] 116)).setCell t (.pointer (some e)) := by
  have x132 := @run_callFunc_extern Tryz.prog 134 _ (fun args => ReflectliteValue.unpack (args.getD 0 (.tuple #[]))) Tryz.func134 (by kernel_rfl) (by kernel_rfl) (by kernel_rfl) (by kernel_rfl)
  have x133 := @run_callFunc_extern Tryz.prog 135 _ (ReflectliteValue.methodAny (ReflectliteValue.valueError "reflectlite.Value.Type" 0) (fun t _ _ _ => ReflectliteType.toType t)) Tryz.func135 (by kernel_rfl) (by kernel_rfl) (by kernel_rfl) (by kernel_rfl)
  have x134 := @run_callFunc_extern Tryz.prog 136 _ (ReflectliteValue.method (ReflectliteValue.valueError "reflectlite.Value.IsNil" 0) ReflectliteValue.isNil) Tryz.func136 (by kernel_rfl) (by kernel_rfl) (by kernel_rfl) (by kernel_rfl)
  have x308 := @run_callFunc_extern Tryz.prog 336 _ (ReflectliteType.abiMethod fun t => do pure (.int .u8 (← Rtype.kind t))) Tryz.func336 (by kernel_rfl) (by kernel_rfl) (by kernel_rfl) (by kernel_rfl)
  have x322 := @run_callFunc_extern Tryz.prog 350 _ (ReflectliteType.method ReflectliteType.elem) Tryz.func350 (by kernel_rfl) (by kernel_rfl) (by kernel_rfl) (by kernel_rfl)
  have x323 := @run_callFunc_extern Tryz.prog 351 _ (ReflectliteType.relation "Implements" ReflectliteType.implements_) Tryz.func351 (by kernel_rfl) (by kernel_rfl) (by kernel_rfl) (by kernel_rfl)
  have x130 := @run_callFunc_extern Tryz.prog 132 _ ReflectliteType.typeOf Tryz.func132 (by kernel_rfl) (by kernel_rfl) (by kernel_rfl) (by kernel_rfl)
  have x320 := @run_callFunc_extern Tryz.prog 348 _ (ReflectliteType.relation "AssignableTo" ReflectliteType.assignableTo) Tryz.func348 (by kernel_rfl) (by kernel_rfl) (by kernel_rfl) (by kernel_rfl)
  have x204 := @run_callFunc_extern Tryz.prog 208 _ (ReflectliteValue.method (ReflectliteValue.valueError "reflectlite.Value.Elem" 0) ReflectliteValue.elem) Tryz.func208 (by kernel_rfl) (by kernel_rfl) (by kernel_rfl) (by kernel_rfl)
  have x205 := @run_callFunc_extern Tryz.prog 209 _ ReflectliteValue.set Tryz.func209 (by kernel_rfl) (by kernel_rfl) (by kernel_rfl) (by kernel_rfl)
  have k0 := Tryz.typeOf114
  have k1 := Tryz.typeOf152
  have k2 := Tryz.methodAssignableTo
  have k3 := Tryz.assignable114
  have k4 := Tryz.assignable152
  have k5 := Tryz.valueOf114
  have k6 := Tryz.valueOf117
  have k7 := Tryz.type117
  have k8 := Tryz.methodKind
  have k9 := Tryz.methodElem
  have k10 := Tryz.methodImplements
  have k11 := Tryz.kind117
  have k12 := Tryz.kind114
  have k13 := Tryz.elem117
  have k14 := Tryz.implements114
  have k15 := Tryz.noAsA
  have k16 := Tryz.noAsI
  have k17 := Tryz.hasUnwrapA
  have k18 := Tryz.hasUnwrapI
  have k19 := Tryz.methodUnwrapA
  have k20 := Tryz.methodUnwrapI
  have n8 := Tryz.isNil117 ⟨w.heap.size, 0, none⟩ t ((w.alloc (.cells #[.pointer (some t)] 119)).alloc (.cells #[.pointer (some ⟨12, 119, none⟩), .pointer (some ⟨w.heap.size, 0, none⟩), .int .u64 150] 212)) (by simp)
  have hlt : 1 < w.heap.size := by
    rcases Nat.lt_or_ge 1 w.heap.size with h | h
    · exact h
    · simp [World.cell?, Array.getElem?_eq_none h] at hg
  have hg2 : ((w.alloc (.cells #[.pointer (some t)] 119)).alloc (.cells #[.pointer (some ⟨12, 119, none⟩), .pointer (some ⟨w.heap.size, 0, none⟩), .int .u64 150] 212)).cell? ⟨1, 0, none⟩ = some (.iface 298 (.agg #[.pointer (some ⟨12, 70, none⟩)])) := by
    rw [World.cell?_alloc_lt _ _ ⟨1, 0, none⟩ (by simp; omega), World.cell?_alloc_lt _ _ ⟨1, 0, none⟩ hlt]; exact hg
  have htl : t.block < w.heap.size := by
    rcases Nat.lt_or_ge t.block w.heap.size with h | h
    · exact h
    · simp [World.cell?, Array.getElem?_eq_none h] at ht0
  have l0 : p0 < w.heap.size := by
    rcases Nat.lt_or_ge p0 w.heap.size with h | h
    · exact h
    · simp [World.cell?, Array.getElem?_eq_none h] at h0
  have g0 : (((w.alloc (.cells #[.pointer (some t)] 119)).alloc (.cells #[.pointer (some ⟨12, 119, none⟩), .pointer (some ⟨w.heap.size, 0, none⟩), .int .u64 150] 212)).alloc (.cells #[.pointer (some ⟨12, 119, none⟩), .pointer (some ⟨w.heap.size, 0, none⟩), .int .u64 150] 212)).cell? ⟨p0, 1, none⟩ = some (.iface 116 (.pointer (some e))) := by
    rw [World.cell?_alloc_lt _ _ ⟨p0, 1, none⟩ (by simp; omega), World.cell?_alloc_lt _ _ ⟨p0, 1, none⟩ (by simp; omega), World.cell?_alloc_lt _ _ ⟨p0, 1, none⟩ l0]; exact h0
  have el := Tryz.elemV117 ⟨w.heap.size, 0, none⟩ t (((w.alloc (.cells #[.pointer (some t)] 119)).alloc (.cells #[.pointer (some ⟨12, 119, none⟩), .pointer (some ⟨w.heap.size, 0, none⟩), .int .u64 150] 212)).alloc (.cells #[.pointer (some ⟨12, 119, none⟩), .pointer (some ⟨w.heap.size, 0, none⟩), .int .u64 150] 212)) (by rw [World.cell?_alloc_lt _ _ ⟨w.heap.size, 0, none⟩ (by simp; omega)]; simp)
  have st := Tryz.set114 t ⟨w.heap.size + 1 + 1 + 1, 0, none⟩ e old ((((w.alloc (.cells #[.pointer (some t)] 119)).alloc (.cells #[.pointer (some ⟨12, 119, none⟩), .pointer (some ⟨w.heap.size, 0, none⟩), .int .u64 150] 212)).alloc (.cells #[.pointer (some ⟨12, 119, none⟩), .pointer (some ⟨w.heap.size, 0, none⟩), .int .u64 150] 212)).alloc (.cells #[.pointer (some e)] 116))
    (by rw [World.cell?_alloc_at _ _ _ _ (by simp)]; rfl)
    (by rw [World.cell?_alloc_lt _ _ t (by simp; omega), World.cell?_alloc_lt _ _ t (by simp; omega), World.cell?_alloc_lt _ _ t (by simp; omega), World.cell?_alloc_lt _ _ t htl]; exact ht0)
    (by rw [World.frozen?_alloc_old _ _ t (by simp; omega), World.frozen?_alloc_old _ _ t (by simp; omega), World.frozen?_alloc_old _ _ t (by simp; omega), World.frozen?_alloc_old _ _ t (Nat.ne_of_lt htl)]; exact hf0)
  go_enter Tryz.func73, Tryz.ntmps73
  go_wp2
  refine wp_loop_rounds 2 ?_
  rw [rounds_succ]
  go_wp2
  rw [rounds_succ]
  go_wp2
  go_ret
  exact ⟨rfl, rfl⟩
set_option maxHeartbeats 4000000 in
set_option maxRecDepth 100000 in
theorem as_chain2 (p0 p1 : Nat) (e t : Addr) (old : Value) (w : World) (h0 : w.cell? ⟨p0, 1, none⟩ = some (.iface 156 (.pointer (some ⟨p1, 0, none⟩)))) (h1 : w.cell? ⟨p1, 1, none⟩ = some (.iface 116 (.pointer (some e)))) (hg : w.cell? ⟨1, 0, none⟩ = some (.iface 298 (.agg #[.pointer (some ⟨12, 70, none⟩)]))) (ht0 : w.cell? t = some old) (hf0 : w.frozen? t = false) :
    Calls Tryz.prog 73 #[.iface 156 (.pointer (some ⟨p0, 0, none⟩)), .iface 119 (.pointer (some t))] w fun ev w' => ev = .returned (.bool true) ∧ w' = ((((w.alloc (.cells #[.pointer (some t)] 119)).alloc (.cells #[.pointer (some ⟨12, 119, none⟩), .pointer (some ⟨w.heap.size, 0, none⟩), .int .u64 150] 212)).alloc (.cells #[.pointer (some ⟨12, 119, none⟩), .pointer (some ⟨w.heap.size, 0, none⟩), .int .u64 150] 212)).alloc (.cells #[.pointer (some e)] 116)).setCell t (.pointer (some e)) := by
  have x132 := @run_callFunc_extern Tryz.prog 134 _ (fun args => ReflectliteValue.unpack (args.getD 0 (.tuple #[]))) Tryz.func134 (by kernel_rfl) (by kernel_rfl) (by kernel_rfl) (by kernel_rfl)
  have x133 := @run_callFunc_extern Tryz.prog 135 _ (ReflectliteValue.methodAny (ReflectliteValue.valueError "reflectlite.Value.Type" 0) (fun t _ _ _ => ReflectliteType.toType t)) Tryz.func135 (by kernel_rfl) (by kernel_rfl) (by kernel_rfl) (by kernel_rfl)
  have x134 := @run_callFunc_extern Tryz.prog 136 _ (ReflectliteValue.method (ReflectliteValue.valueError "reflectlite.Value.IsNil" 0) ReflectliteValue.isNil) Tryz.func136 (by kernel_rfl) (by kernel_rfl) (by kernel_rfl) (by kernel_rfl)
  have x308 := @run_callFunc_extern Tryz.prog 336 _ (ReflectliteType.abiMethod fun t => do pure (.int .u8 (← Rtype.kind t))) Tryz.func336 (by kernel_rfl) (by kernel_rfl) (by kernel_rfl) (by kernel_rfl)
  have x322 := @run_callFunc_extern Tryz.prog 350 _ (ReflectliteType.method ReflectliteType.elem) Tryz.func350 (by kernel_rfl) (by kernel_rfl) (by kernel_rfl) (by kernel_rfl)
  have x323 := @run_callFunc_extern Tryz.prog 351 _ (ReflectliteType.relation "Implements" ReflectliteType.implements_) Tryz.func351 (by kernel_rfl) (by kernel_rfl) (by kernel_rfl) (by kernel_rfl)
  have x130 := @run_callFunc_extern Tryz.prog 132 _ ReflectliteType.typeOf Tryz.func132 (by kernel_rfl) (by kernel_rfl) (by kernel_rfl) (by kernel_rfl)
  have x320 := @run_callFunc_extern Tryz.prog 348 _ (ReflectliteType.relation "AssignableTo" ReflectliteType.assignableTo) Tryz.func348 (by kernel_rfl) (by kernel_rfl) (by kernel_rfl) (by kernel_rfl)
  have x204 := @run_callFunc_extern Tryz.prog 208 _ (ReflectliteValue.method (ReflectliteValue.valueError "reflectlite.Value.Elem" 0) ReflectliteValue.elem) Tryz.func208 (by kernel_rfl) (by kernel_rfl) (by kernel_rfl) (by kernel_rfl)
  have x205 := @run_callFunc_extern Tryz.prog 209 _ ReflectliteValue.set Tryz.func209 (by kernel_rfl) (by kernel_rfl) (by kernel_rfl) (by kernel_rfl)
  have k0 := Tryz.typeOf114
  have k1 := Tryz.typeOf152
  have k2 := Tryz.methodAssignableTo
  have k3 := Tryz.assignable114
  have k4 := Tryz.assignable152
  have k5 := Tryz.valueOf114
  have k6 := Tryz.valueOf117
  have k7 := Tryz.type117
  have k8 := Tryz.methodKind
  have k9 := Tryz.methodElem
  have k10 := Tryz.methodImplements
  have k11 := Tryz.kind117
  have k12 := Tryz.kind114
  have k13 := Tryz.elem117
  have k14 := Tryz.implements114
  have k15 := Tryz.noAsA
  have k16 := Tryz.noAsI
  have k17 := Tryz.hasUnwrapA
  have k18 := Tryz.hasUnwrapI
  have k19 := Tryz.methodUnwrapA
  have k20 := Tryz.methodUnwrapI
  have n8 := Tryz.isNil117 ⟨w.heap.size, 0, none⟩ t ((w.alloc (.cells #[.pointer (some t)] 119)).alloc (.cells #[.pointer (some ⟨12, 119, none⟩), .pointer (some ⟨w.heap.size, 0, none⟩), .int .u64 150] 212)) (by simp)
  have hlt : 1 < w.heap.size := by
    rcases Nat.lt_or_ge 1 w.heap.size with h | h
    · exact h
    · simp [World.cell?, Array.getElem?_eq_none h] at hg
  have hg2 : ((w.alloc (.cells #[.pointer (some t)] 119)).alloc (.cells #[.pointer (some ⟨12, 119, none⟩), .pointer (some ⟨w.heap.size, 0, none⟩), .int .u64 150] 212)).cell? ⟨1, 0, none⟩ = some (.iface 298 (.agg #[.pointer (some ⟨12, 70, none⟩)])) := by
    rw [World.cell?_alloc_lt _ _ ⟨1, 0, none⟩ (by simp; omega), World.cell?_alloc_lt _ _ ⟨1, 0, none⟩ hlt]; exact hg
  have htl : t.block < w.heap.size := by
    rcases Nat.lt_or_ge t.block w.heap.size with h | h
    · exact h
    · simp [World.cell?, Array.getElem?_eq_none h] at ht0
  have l0 : p0 < w.heap.size := by
    rcases Nat.lt_or_ge p0 w.heap.size with h | h
    · exact h
    · simp [World.cell?, Array.getElem?_eq_none h] at h0
  have g0 : (((w.alloc (.cells #[.pointer (some t)] 119)).alloc (.cells #[.pointer (some ⟨12, 119, none⟩), .pointer (some ⟨w.heap.size, 0, none⟩), .int .u64 150] 212)).alloc (.cells #[.pointer (some ⟨12, 119, none⟩), .pointer (some ⟨w.heap.size, 0, none⟩), .int .u64 150] 212)).cell? ⟨p0, 1, none⟩ = some (.iface 156 (.pointer (some ⟨p1, 0, none⟩))) := by
    rw [World.cell?_alloc_lt _ _ ⟨p0, 1, none⟩ (by simp; omega), World.cell?_alloc_lt _ _ ⟨p0, 1, none⟩ (by simp; omega), World.cell?_alloc_lt _ _ ⟨p0, 1, none⟩ l0]; exact h0
  have l1 : p1 < w.heap.size := by
    rcases Nat.lt_or_ge p1 w.heap.size with h | h
    · exact h
    · simp [World.cell?, Array.getElem?_eq_none h] at h1
  have g1 : (((w.alloc (.cells #[.pointer (some t)] 119)).alloc (.cells #[.pointer (some ⟨12, 119, none⟩), .pointer (some ⟨w.heap.size, 0, none⟩), .int .u64 150] 212)).alloc (.cells #[.pointer (some ⟨12, 119, none⟩), .pointer (some ⟨w.heap.size, 0, none⟩), .int .u64 150] 212)).cell? ⟨p1, 1, none⟩ = some (.iface 116 (.pointer (some e))) := by
    rw [World.cell?_alloc_lt _ _ ⟨p1, 1, none⟩ (by simp; omega), World.cell?_alloc_lt _ _ ⟨p1, 1, none⟩ (by simp; omega), World.cell?_alloc_lt _ _ ⟨p1, 1, none⟩ l1]; exact h1
  have el := Tryz.elemV117 ⟨w.heap.size, 0, none⟩ t (((w.alloc (.cells #[.pointer (some t)] 119)).alloc (.cells #[.pointer (some ⟨12, 119, none⟩), .pointer (some ⟨w.heap.size, 0, none⟩), .int .u64 150] 212)).alloc (.cells #[.pointer (some ⟨12, 119, none⟩), .pointer (some ⟨w.heap.size, 0, none⟩), .int .u64 150] 212)) (by rw [World.cell?_alloc_lt _ _ ⟨w.heap.size, 0, none⟩ (by simp; omega)]; simp)
  have st := Tryz.set114 t ⟨w.heap.size + 1 + 1 + 1, 0, none⟩ e old ((((w.alloc (.cells #[.pointer (some t)] 119)).alloc (.cells #[.pointer (some ⟨12, 119, none⟩), .pointer (some ⟨w.heap.size, 0, none⟩), .int .u64 150] 212)).alloc (.cells #[.pointer (some ⟨12, 119, none⟩), .pointer (some ⟨w.heap.size, 0, none⟩), .int .u64 150] 212)).alloc (.cells #[.pointer (some e)] 116))
    (by rw [World.cell?_alloc_at _ _ _ _ (by simp)]; rfl)
    (by rw [World.cell?_alloc_lt _ _ t (by simp; omega), World.cell?_alloc_lt _ _ t (by simp; omega), World.cell?_alloc_lt _ _ t (by simp; omega), World.cell?_alloc_lt _ _ t htl]; exact ht0)
    (by rw [World.frozen?_alloc_old _ _ t (by simp; omega), World.frozen?_alloc_old _ _ t (by simp; omega), World.frozen?_alloc_old _ _ t (by simp; omega), World.frozen?_alloc_old _ _ t (Nat.ne_of_lt htl)]; exact hf0)
  go_enter Tryz.func73, Tryz.ntmps73
  go_wp2
  refine wp_loop_rounds 3 ?_
  rw [rounds_succ]
  go_wp2
  rw [rounds_succ]
  go_wp2
  rw [rounds_succ]
  go_wp2
  go_ret
  exact ⟨rfl, rfl⟩
set_option maxHeartbeats 4000000 in
set_option maxRecDepth 100000 in
theorem as_chain3 (p0 p1 p2 : Nat) (e t : Addr) (old : Value) (w : World) (h0 : w.cell? ⟨p0, 1, none⟩ = some (.iface 156 (.pointer (some ⟨p1, 0, none⟩)))) (h1 : w.cell? ⟨p1, 1, none⟩ = some (.iface 156 (.pointer (some ⟨p2, 0, none⟩)))) (h2 : w.cell? ⟨p2, 1, none⟩ = some (.iface 116 (.pointer (some e)))) (hg : w.cell? ⟨1, 0, none⟩ = some (.iface 298 (.agg #[.pointer (some ⟨12, 70, none⟩)]))) (ht0 : w.cell? t = some old) (hf0 : w.frozen? t = false) :
    Calls Tryz.prog 73 #[.iface 156 (.pointer (some ⟨p0, 0, none⟩)), .iface 119 (.pointer (some t))] w fun ev w' => ev = .returned (.bool true) ∧ w' = ((((w.alloc (.cells #[.pointer (some t)] 119)).alloc (.cells #[.pointer (some ⟨12, 119, none⟩), .pointer (some ⟨w.heap.size, 0, none⟩), .int .u64 150] 212)).alloc (.cells #[.pointer (some ⟨12, 119, none⟩), .pointer (some ⟨w.heap.size, 0, none⟩), .int .u64 150] 212)).alloc (.cells #[.pointer (some e)] 116)).setCell t (.pointer (some e)) := by
  have x132 := @run_callFunc_extern Tryz.prog 134 _ (fun args => ReflectliteValue.unpack (args.getD 0 (.tuple #[]))) Tryz.func134 (by kernel_rfl) (by kernel_rfl) (by kernel_rfl) (by kernel_rfl)
  have x133 := @run_callFunc_extern Tryz.prog 135 _ (ReflectliteValue.methodAny (ReflectliteValue.valueError "reflectlite.Value.Type" 0) (fun t _ _ _ => ReflectliteType.toType t)) Tryz.func135 (by kernel_rfl) (by kernel_rfl) (by kernel_rfl) (by kernel_rfl)
  have x134 := @run_callFunc_extern Tryz.prog 136 _ (ReflectliteValue.method (ReflectliteValue.valueError "reflectlite.Value.IsNil" 0) ReflectliteValue.isNil) Tryz.func136 (by kernel_rfl) (by kernel_rfl) (by kernel_rfl) (by kernel_rfl)
  have x308 := @run_callFunc_extern Tryz.prog 336 _ (ReflectliteType.abiMethod fun t => do pure (.int .u8 (← Rtype.kind t))) Tryz.func336 (by kernel_rfl) (by kernel_rfl) (by kernel_rfl) (by kernel_rfl)
  have x322 := @run_callFunc_extern Tryz.prog 350 _ (ReflectliteType.method ReflectliteType.elem) Tryz.func350 (by kernel_rfl) (by kernel_rfl) (by kernel_rfl) (by kernel_rfl)
  have x323 := @run_callFunc_extern Tryz.prog 351 _ (ReflectliteType.relation "Implements" ReflectliteType.implements_) Tryz.func351 (by kernel_rfl) (by kernel_rfl) (by kernel_rfl) (by kernel_rfl)
  have x130 := @run_callFunc_extern Tryz.prog 132 _ ReflectliteType.typeOf Tryz.func132 (by kernel_rfl) (by kernel_rfl) (by kernel_rfl) (by kernel_rfl)
  have x320 := @run_callFunc_extern Tryz.prog 348 _ (ReflectliteType.relation "AssignableTo" ReflectliteType.assignableTo) Tryz.func348 (by kernel_rfl) (by kernel_rfl) (by kernel_rfl) (by kernel_rfl)
  have x204 := @run_callFunc_extern Tryz.prog 208 _ (ReflectliteValue.method (ReflectliteValue.valueError "reflectlite.Value.Elem" 0) ReflectliteValue.elem) Tryz.func208 (by kernel_rfl) (by kernel_rfl) (by kernel_rfl) (by kernel_rfl)
  have x205 := @run_callFunc_extern Tryz.prog 209 _ ReflectliteValue.set Tryz.func209 (by kernel_rfl) (by kernel_rfl) (by kernel_rfl) (by kernel_rfl)
  have k0 := Tryz.typeOf114
  have k1 := Tryz.typeOf152
  have k2 := Tryz.methodAssignableTo
  have k3 := Tryz.assignable114
  have k4 := Tryz.assignable152
  have k5 := Tryz.valueOf114
  have k6 := Tryz.valueOf117
  have k7 := Tryz.type117
  have k8 := Tryz.methodKind
  have k9 := Tryz.methodElem
  have k10 := Tryz.methodImplements
  have k11 := Tryz.kind117
  have k12 := Tryz.kind114
  have k13 := Tryz.elem117
  have k14 := Tryz.implements114
  have k15 := Tryz.noAsA
  have k16 := Tryz.noAsI
  have k17 := Tryz.hasUnwrapA
  have k18 := Tryz.hasUnwrapI
  have k19 := Tryz.methodUnwrapA
  have k20 := Tryz.methodUnwrapI
  have n8 := Tryz.isNil117 ⟨w.heap.size, 0, none⟩ t ((w.alloc (.cells #[.pointer (some t)] 119)).alloc (.cells #[.pointer (some ⟨12, 119, none⟩), .pointer (some ⟨w.heap.size, 0, none⟩), .int .u64 150] 212)) (by simp)
  have hlt : 1 < w.heap.size := by
    rcases Nat.lt_or_ge 1 w.heap.size with h | h
    · exact h
    · simp [World.cell?, Array.getElem?_eq_none h] at hg
  have hg2 : ((w.alloc (.cells #[.pointer (some t)] 119)).alloc (.cells #[.pointer (some ⟨12, 119, none⟩), .pointer (some ⟨w.heap.size, 0, none⟩), .int .u64 150] 212)).cell? ⟨1, 0, none⟩ = some (.iface 298 (.agg #[.pointer (some ⟨12, 70, none⟩)])) := by
    rw [World.cell?_alloc_lt _ _ ⟨1, 0, none⟩ (by simp; omega), World.cell?_alloc_lt _ _ ⟨1, 0, none⟩ hlt]; exact hg
  have htl : t.block < w.heap.size := by
    rcases Nat.lt_or_ge t.block w.heap.size with h | h
    · exact h
    · simp [World.cell?, Array.getElem?_eq_none h] at ht0
  have l0 : p0 < w.heap.size := by
    rcases Nat.lt_or_ge p0 w.heap.size with h | h
    · exact h
    · simp [World.cell?, Array.getElem?_eq_none h] at h0
  have g0 : (((w.alloc (.cells #[.pointer (some t)] 119)).alloc (.cells #[.pointer (some ⟨12, 119, none⟩), .pointer (some ⟨w.heap.size, 0, none⟩), .int .u64 150] 212)).alloc (.cells #[.pointer (some ⟨12, 119, none⟩), .pointer (some ⟨w.heap.size, 0, none⟩), .int .u64 150] 212)).cell? ⟨p0, 1, none⟩ = some (.iface 156 (.pointer (some ⟨p1, 0, none⟩))) := by
    rw [World.cell?_alloc_lt _ _ ⟨p0, 1, none⟩ (by simp; omega), World.cell?_alloc_lt _ _ ⟨p0, 1, none⟩ (by simp; omega), World.cell?_alloc_lt _ _ ⟨p0, 1, none⟩ l0]; exact h0
  have l1 : p1 < w.heap.size := by
    rcases Nat.lt_or_ge p1 w.heap.size with h | h
    · exact h
    · simp [World.cell?, Array.getElem?_eq_none h] at h1
  have g1 : (((w.alloc (.cells #[.pointer (some t)] 119)).alloc (.cells #[.pointer (some ⟨12, 119, none⟩), .pointer (some ⟨w.heap.size, 0, none⟩), .int .u64 150] 212)).alloc (.cells #[.pointer (some ⟨12, 119, none⟩), .pointer (some ⟨w.heap.size, 0, none⟩), .int .u64 150] 212)).cell? ⟨p1, 1, none⟩ = some (.iface 156 (.pointer (some ⟨p2, 0, none⟩))) := by
    rw [World.cell?_alloc_lt _ _ ⟨p1, 1, none⟩ (by simp; omega), World.cell?_alloc_lt _ _ ⟨p1, 1, none⟩ (by simp; omega), World.cell?_alloc_lt _ _ ⟨p1, 1, none⟩ l1]; exact h1
  have l2 : p2 < w.heap.size := by
    rcases Nat.lt_or_ge p2 w.heap.size with h | h
    · exact h
    · simp [World.cell?, Array.getElem?_eq_none h] at h2
  have g2 : (((w.alloc (.cells #[.pointer (some t)] 119)).alloc (.cells #[.pointer (some ⟨12, 119, none⟩), .pointer (some ⟨w.heap.size, 0, none⟩), .int .u64 150] 212)).alloc (.cells #[.pointer (some ⟨12, 119, none⟩), .pointer (some ⟨w.heap.size, 0, none⟩), .int .u64 150] 212)).cell? ⟨p2, 1, none⟩ = some (.iface 116 (.pointer (some e))) := by
    rw [World.cell?_alloc_lt _ _ ⟨p2, 1, none⟩ (by simp; omega), World.cell?_alloc_lt _ _ ⟨p2, 1, none⟩ (by simp; omega), World.cell?_alloc_lt _ _ ⟨p2, 1, none⟩ l2]; exact h2
  have el := Tryz.elemV117 ⟨w.heap.size, 0, none⟩ t (((w.alloc (.cells #[.pointer (some t)] 119)).alloc (.cells #[.pointer (some ⟨12, 119, none⟩), .pointer (some ⟨w.heap.size, 0, none⟩), .int .u64 150] 212)).alloc (.cells #[.pointer (some ⟨12, 119, none⟩), .pointer (some ⟨w.heap.size, 0, none⟩), .int .u64 150] 212)) (by rw [World.cell?_alloc_lt _ _ ⟨w.heap.size, 0, none⟩ (by simp; omega)]; simp)
  have st := Tryz.set114 t ⟨w.heap.size + 1 + 1 + 1, 0, none⟩ e old ((((w.alloc (.cells #[.pointer (some t)] 119)).alloc (.cells #[.pointer (some ⟨12, 119, none⟩), .pointer (some ⟨w.heap.size, 0, none⟩), .int .u64 150] 212)).alloc (.cells #[.pointer (some ⟨12, 119, none⟩), .pointer (some ⟨w.heap.size, 0, none⟩), .int .u64 150] 212)).alloc (.cells #[.pointer (some e)] 116))
    (by rw [World.cell?_alloc_at _ _ _ _ (by simp)]; rfl)
    (by rw [World.cell?_alloc_lt _ _ t (by simp; omega), World.cell?_alloc_lt _ _ t (by simp; omega), World.cell?_alloc_lt _ _ t (by simp; omega), World.cell?_alloc_lt _ _ t htl]; exact ht0)
    (by rw [World.frozen?_alloc_old _ _ t (by simp; omega), World.frozen?_alloc_old _ _ t (by simp; omega), World.frozen?_alloc_old _ _ t (by simp; omega), World.frozen?_alloc_old _ _ t (Nat.ne_of_lt htl)]; exact hf0)
  go_enter Tryz.func73, Tryz.ntmps73
  go_wp2
  refine wp_loop_rounds 4 ?_
  rw [rounds_succ]
  go_wp2
  rw [rounds_succ]
  go_wp2
  rw [rounds_succ]
  go_wp2
  rw [rounds_succ]
  go_wp2
  go_ret
  exact ⟨rfl, rfl⟩
end Go.Proofs.YtaacjjhmojecnaaGreatDoor

