import Derived.Test.YtaacjjhmojecnaaGreatDoorQ21
import Derived.Stop.Asserts
import Derived.LaidEql
import Derived.RowKitTokens
namespace Go.Proofs.YtaacjjhmojecnaaGreatDoor
open Go.RowKit Go.Extern.Stop Go.Stop Go.Extern Go.Proofs Go.ScT
theorem Tryz.isTypeOf (v:Value) (w:World):(Extern.ReflectliteType.typeOf #[.iface 404 v]).run Tryz.prog w=.ok (.iface 298 (.agg #[.pointer (some ⟨12,404,none⟩)])) w:=by kernel_rfl
def cmpX:Array Value→Sem Value:=Extern.ReflectliteType.method fun t=>do Extern.Rtype.noPackHeld "Comparable" t;pure (.bool (← typeInfo t).comparable)
theorem Tryz.isComparable (w:World):(cmpX #[.agg #[.pointer (some ⟨12,404,none⟩)]]).run Tryz.prog w=.ok (.bool true) w:=by kernel_rfl
theorem Tryz.isMethodComparable (v:Value) (w:World):(Go.method 534 298 v "Comparable").run Tryz.prog w=.ok (349,v) w:=by kernel_rfl
theorem Tryz.isComp:(Tryz.prog.info? 404).map (·.comparable)=some true:=by kernel_rfl
theorem Tryz.isSize:(Tryz.prog.info? 422).map (·.size)=some 1:=by kernel_rfl
theorem Tryz.noIsE (v:Value) (xT:TypeId) (w:World):(Instr.typeAssert (.iface 404 v) xT 300 true).run Tryz.prog w=.ok (.tuple #[.nilIface,.bool false]) w:=run_typeAssert_lacksB Tryz.underlying300 (by kernel_rfl) (by kernel_rfl) v xT w
theorem Tryz.noIsA (v:Value) (xT:TypeId) (w:World):(Instr.typeAssert (.iface 116 v) xT 300 true).run Tryz.prog w=.ok (.tuple #[.nilIface,.bool false]) w:=run_typeAssert_lacksB Tryz.underlying300 (by kernel_rfl) (by kernel_rfl) v xT w
theorem Tryz.noIsI (v:Value) (xT:TypeId) (w:World):(Instr.typeAssert (.iface 156 v) xT 300 true).run Tryz.prog w=.ok (.tuple #[.nilIface,.bool false]) w:=run_typeAssert_lacksB Tryz.underlying300 (by kernel_rfl) (by kernel_rfl) v xT w
theorem Tryz.noUnwrapE (v:Value) (xT:TypeId) (w:World):(Instr.typeAssert (.iface 404 v) xT 303 true).run Tryz.prog w=.ok (.tuple #[.nilIface,.bool false]) w:=run_typeAssert_lacksB Tryz.underlying303 (by kernel_rfl) (by kernel_rfl) v xT w
theorem Tryz.noUnwrapsE (v:Value) (xT:TypeId) (w:World):(Instr.typeAssert (.iface 404 v) xT 304 true).run Tryz.prog w=.ok (.tuple #[.nilIface,.bool false]) w:=run_typeAssert_lacksB Tryz.underlying304 (by kernel_rfl) (by kernel_rfl) v xT w
theorem Tryz.hasUnwrapA (v:Value) (xT:TypeId) (w:World):(Instr.typeAssert (.iface 116 v) xT 303 true).run Tryz.prog w=.ok (.tuple #[.iface 116 v,.bool true]) w:=run_typeAssert_hasB Tryz.underlying303 (by kernel_rfl) v xT w
theorem Tryz.methodUnwrapA (v:Value) (w:World):(Go.method 534 116 v "Unwrap").run Tryz.prog w=.ok (340,v) w:=by kernel_rfl
theorem Tryz.hasUnwrapI (v:Value) (xT:TypeId) (w:World):(Instr.typeAssert (.iface 156 v) xT 303 true).run Tryz.prog w=.ok (.tuple #[.iface 156 v,.bool true]) w:=run_typeAssert_hasB Tryz.underlying303 (by kernel_rfl) v xT w
theorem Tryz.methodUnwrapI (v:Value) (w:World):(Go.method 534 156 v "Unwrap").run Tryz.prog w=.ok (342,v) w:=by kernel_rfl
set_option maxRecDepth 100000 in
theorem is_same (a:Addr) (w:World) :
 Calls Tryz.prog 72 #[.iface 404 (.pointer (some a)),.iface 404 (.pointer (some a))] w fun e w'=>e=.returned (.bool true)∧w'=w:=by
 obtain ⟨i,hi,hcmp⟩:=Option.map_eq_some_iff.1 Tryz.isComp
 obtain ⟨j,hj,hjs⟩:=Option.map_eq_some_iff.1 Tryz.isSize
 have h8:=@run_callFunc_extern Tryz.prog 132 _ Extern.ReflectliteType.typeOf Tryz.func132 (by kernel_rfl) (by kernel_rfl) (by kernel_rfl) (by kernel_rfl)
 have h32:=@run_callFunc_extern Tryz.prog 349 _ cmpX Tryz.func349 (by kernel_rfl) (by kernel_rfl) (by kernel_rfl) (by kernel_rfl)
 have tT:=Tryz.isTypeOf
 have cT:=Tryz.isComparable
 have mR:=Tryz.isMethodComparable
 have heq:=run_eql_iface_ptr_same (P:=Tryz.prog) w a Tryz.underlying70 Tryz.underlying404 hi hcmp hj
 go_enter Tryz.func72,Tryz.ntmps72
 go_wp2
 refine wp_loop_rounds 1 ?_
 rw [rounds_succ]
 go_wp2
 go_ret
 exact ⟨rfl,rfl⟩
set_option maxRecDepth 100000 in
theorem is_nil (b:Addr) (w:World) :
 Calls Tryz.prog 72 #[.nilIface,.iface 404 (.pointer (some b))] w fun e w'=>e=.returned (.bool false)∧w'=w:=by
 have hn:=run_eql_iface_nil_left (P:=Tryz.prog) w 404 (.pointer (some b)) Tryz.underlying70
 go_enter Tryz.func72,Tryz.ntmps72
 go_wp2
 go_ret
 exact ⟨rfl,rfl⟩
set_option maxHeartbeats 1000000 in
set_option maxRecDepth 100000 in
theorem is_chain0 (p0:Nat) (a b:Addr) (ca cb:Array Value) (ta tb:TypeId) (w:World) (h0:w.cell? ⟨p0,1,none⟩=some (.iface 404 (.pointer (some a)))) (hne:a≠b) (ha:w.heap[a.block]?=some (.cells ca ta (0,0))) (hb:w.heap[b.block]?=some (.cells cb tb (0,0))) :
 Calls Tryz.prog 72 #[.iface 116 (.pointer (some ⟨p0,0,none⟩)),.iface 404 (.pointer (some b))] w fun e w'=>e=.returned (.bool false)∧w'=w:=by
 obtain ⟨i,hi,hcmp⟩:=Option.map_eq_some_iff.1 Tryz.isComp
 obtain ⟨j,hj,hjs⟩:=Option.map_eq_some_iff.1 Tryz.isSize
 have h8:=@run_callFunc_extern Tryz.prog 132 _ Extern.ReflectliteType.typeOf Tryz.func132 (by kernel_rfl) (by kernel_rfl) (by kernel_rfl) (by kernel_rfl)
 have h32:=@run_callFunc_extern Tryz.prog 349 _ cmpX Tryz.func349 (by kernel_rfl) (by kernel_rfl) (by kernel_rfl) (by kernel_rfl)
 have tT:=Tryz.isTypeOf
 have cT:=Tryz.isComparable
 have mR:=Tryz.isMethodComparable
 have nE:=Tryz.noIsE
 have nA:=Tryz.noIsA
 have nI:=Tryz.noIsI
 have uE:=Tryz.noUnwrapE
 have vE:=Tryz.noUnwrapsE
 have uA:=Tryz.hasUnwrapA
 have uI:=Tryz.hasUnwrapI
 have mA:=Tryz.methodUnwrapA
 have mI:=Tryz.methodUnwrapI
 have heq:=run_eql_iface_ptr_other (P:=Tryz.prog) w Tryz.underlying70 Tryz.underlying404 hi hcmp hj (by rw [hjs];decide) hne ha hb
 have hty0:=run_eql_iface_types (P:=Tryz.prog) 116 404 (.pointer (some ⟨p0,0,none⟩)) (.pointer (some b)) Tryz.underlying70 (by decide) w
 go_enter Tryz.func72,Tryz.ntmps72
 go_wp2
 refine wp_loop_rounds 2 ?_
 rw [rounds_succ]
 go_wp2
 rw [rounds_succ]
 go_wp2
 go_ret
 exact ⟨rfl,rfl⟩
set_option maxHeartbeats 1000000 in
set_option maxRecDepth 100000 in
theorem is_chain1 (p0 p1:Nat) (a b:Addr) (ca cb:Array Value) (ta tb:TypeId) (w:World) (h0:w.cell? ⟨p0,1,none⟩=some (.iface 116 (.pointer (some ⟨p1,0,none⟩)))) (h1:w.cell? ⟨p1,1,none⟩=some (.iface 404 (.pointer (some a)))) (hne:a≠b) (ha:w.heap[a.block]?=some (.cells ca ta (0,0))) (hb:w.heap[b.block]?=some (.cells cb tb (0,0))) :
 Calls Tryz.prog 72 #[.iface 156 (.pointer (some ⟨p0,0,none⟩)),.iface 404 (.pointer (some b))] w fun e w'=>e=.returned (.bool false)∧w'=w:=by
 obtain ⟨i,hi,hcmp⟩:=Option.map_eq_some_iff.1 Tryz.isComp
 obtain ⟨j,hj,hjs⟩:=Option.map_eq_some_iff.1 Tryz.isSize
 have h8:=@run_callFunc_extern Tryz.prog 132 _ Extern.ReflectliteType.typeOf Tryz.func132 (by kernel_rfl) (by kernel_rfl) (by kernel_rfl) (by kernel_rfl)
 have h32:=@run_callFunc_extern Tryz.prog 349 _ cmpX Tryz.func349 (by kernel_rfl) (by kernel_rfl) (by kernel_rfl) (by kernel_rfl)
 have tT:=Tryz.isTypeOf
 have cT:=Tryz.isComparable
 have mR:=Tryz.isMethodComparable
 have nE:=Tryz.noIsE
 have nA:=Tryz.noIsA
 have nI:=Tryz.noIsI
 have uE:=Tryz.noUnwrapE
 have vE:=Tryz.noUnwrapsE
 have uA:=Tryz.hasUnwrapA
 have uI:=Tryz.hasUnwrapI
 have mA:=Tryz.methodUnwrapA
 have mI:=Tryz.methodUnwrapI
 have heq:=run_eql_iface_ptr_other (P:=Tryz.prog) w Tryz.underlying70 Tryz.underlying404 hi hcmp hj (by rw [hjs];decide) hne ha hb
 have hty0:=run_eql_iface_types (P:=Tryz.prog) 156 404 (.pointer (some ⟨p0,0,none⟩)) (.pointer (some b)) Tryz.underlying70 (by decide) w
 have hty1:=run_eql_iface_types (P:=Tryz.prog) 116 404 (.pointer (some ⟨p1,0,none⟩)) (.pointer (some b)) Tryz.underlying70 (by decide) w
 go_enter Tryz.func72,Tryz.ntmps72
 go_wp2
 refine wp_loop_rounds 3 ?_
 rw [rounds_succ]
 go_wp2
 rw [rounds_succ]
 go_wp2
 rw [rounds_succ]
 go_wp2
 go_ret
 exact ⟨rfl,rfl⟩
set_option maxHeartbeats 1000000 in
set_option maxRecDepth 100000 in
theorem is_chain2 (p0 p1 p2:Nat) (a b:Addr) (ca cb:Array Value) (ta tb:TypeId) (w:World) (h0:w.cell? ⟨p0,1,none⟩=some (.iface 156 (.pointer (some ⟨p1,0,none⟩)))) (h1:w.cell? ⟨p1,1,none⟩=some (.iface 116 (.pointer (some ⟨p2,0,none⟩)))) (h2:w.cell? ⟨p2,1,none⟩=some (.iface 404 (.pointer (some a)))) (hne:a≠b) (ha:w.heap[a.block]?=some (.cells ca ta (0,0))) (hb:w.heap[b.block]?=some (.cells cb tb (0,0))) :
 Calls Tryz.prog 72 #[.iface 156 (.pointer (some ⟨p0,0,none⟩)),.iface 404 (.pointer (some b))] w fun e w'=>e=.returned (.bool false)∧w'=w:=by
 obtain ⟨i,hi,hcmp⟩:=Option.map_eq_some_iff.1 Tryz.isComp
 obtain ⟨j,hj,hjs⟩:=Option.map_eq_some_iff.1 Tryz.isSize
 have h8:=@run_callFunc_extern Tryz.prog 132 _ Extern.ReflectliteType.typeOf Tryz.func132 (by kernel_rfl) (by kernel_rfl) (by kernel_rfl) (by kernel_rfl)
 have h32:=@run_callFunc_extern Tryz.prog 349 _ cmpX Tryz.func349 (by kernel_rfl) (by kernel_rfl) (by kernel_rfl) (by kernel_rfl)
 have tT:=Tryz.isTypeOf
 have cT:=Tryz.isComparable
 have mR:=Tryz.isMethodComparable
 have nE:=Tryz.noIsE
 have nA:=Tryz.noIsA
 have nI:=Tryz.noIsI
 have uE:=Tryz.noUnwrapE
 have vE:=Tryz.noUnwrapsE
 have uA:=Tryz.hasUnwrapA
 have uI:=Tryz.hasUnwrapI
 have mA:=Tryz.methodUnwrapA
 have mI:=Tryz.methodUnwrapI
 have heq:=run_eql_iface_ptr_other (P:=Tryz.prog) w Tryz.underlying70 Tryz.underlying404 hi hcmp hj (by rw [hjs];decide) hne ha hb
 have hty0:=run_eql_iface_types (P:=Tryz.prog) 156 404 (.pointer (some ⟨p0,0,none⟩)) (.pointer (some b)) Tryz.underlying70 (by decide) w
 have hty1:=run_eql_iface_types (P:=Tryz.prog) 156 404 (.pointer (some ⟨p1,0,none⟩)) (.pointer (some b)) Tryz.underlying70 (by decide) w
 have hty2:=run_eql_iface_types (P:=Tryz.prog) 116 404 (.pointer (some ⟨p2,0,none⟩)) (.pointer (some b)) Tryz.underlying70 (by decide) w
 go_enter Tryz.func72,Tryz.ntmps72
 go_wp2
 refine wp_loop_rounds 4 ?_
 rw [rounds_succ]
 go_wp2
 rw [rounds_succ]
 go_wp2
 rw [rounds_succ]
 go_wp2
 rw [rounds_succ]
 go_wp2
 go_ret
 exact ⟨rfl,rfl⟩
set_option maxHeartbeats 1000000 in
set_option maxRecDepth 100000 in
theorem is_chain3 (p0 p1 p2 p3:Nat) (a b:Addr) (ca cb:Array Value) (ta tb:TypeId) (w:World) (h0:w.cell? ⟨p0,1,none⟩=some (.iface 156 (.pointer (some ⟨p1,0,none⟩)))) (h1:w.cell? ⟨p1,1,none⟩=some (.iface 156 (.pointer (some ⟨p2,0,none⟩)))) (h2:w.cell? ⟨p2,1,none⟩=some (.iface 116 (.pointer (some ⟨p3,0,none⟩)))) (h3:w.cell? ⟨p3,1,none⟩=some (.iface 404 (.pointer (some a)))) (hne:a≠b) (ha:w.heap[a.block]?=some (.cells ca ta (0,0))) (hb:w.heap[b.block]?=some (.cells cb tb (0,0))) :
 Calls Tryz.prog 72 #[.iface 156 (.pointer (some ⟨p0,0,none⟩)),.iface 404 (.pointer (some b))] w fun e w'=>e=.returned (.bool false)∧w'=w:=by
 obtain ⟨i,hi,hcmp⟩:=Option.map_eq_some_iff.1 Tryz.isComp
 obtain ⟨j,hj,hjs⟩:=Option.map_eq_some_iff.1 Tryz.isSize
 have h8:=@run_callFunc_extern Tryz.prog 132 _ Extern.ReflectliteType.typeOf Tryz.func132 (by kernel_rfl) (by kernel_rfl) (by kernel_rfl) (by kernel_rfl)
 have h32:=@run_callFunc_extern Tryz.prog 349 _ cmpX Tryz.func349 (by kernel_rfl) (by kernel_rfl) (by kernel_rfl) (by kernel_rfl)
 have tT:=Tryz.isTypeOf
 have cT:=Tryz.isComparable
 have mR:=Tryz.isMethodComparable
 have nE:=Tryz.noIsE
 have nA:=Tryz.noIsA
 have nI:=Tryz.noIsI
 have uE:=Tryz.noUnwrapE
 have vE:=Tryz.noUnwrapsE
 have uA:=Tryz.hasUnwrapA
 have uI:=Tryz.hasUnwrapI
 have mA:=Tryz.methodUnwrapA
 have mI:=Tryz.methodUnwrapI
 have heq:=run_eql_iface_ptr_other (P:=Tryz.prog) w Tryz.underlying70 Tryz.underlying404 hi hcmp hj (by rw [hjs];decide) hne ha hb
 have hty0:=run_eql_iface_types (P:=Tryz.prog) 156 404 (.pointer (some ⟨p0,0,none⟩)) (.pointer (some b)) Tryz.underlying70 (by decide) w
 have hty1:=run_eql_iface_types (P:=Tryz.prog) 156 404 (.pointer (some ⟨p1,0,none⟩)) (.pointer (some b)) Tryz.underlying70 (by decide) w
 have hty2:=run_eql_iface_types (P:=Tryz.prog) 156 404 (.pointer (some ⟨p2,0,none⟩)) (.pointer (some b)) Tryz.underlying70 (by decide) w
 have hty3:=run_eql_iface_types (P:=Tryz.prog) 116 404 (.pointer (some ⟨p3,0,none⟩)) (.pointer (some b)) Tryz.underlying70 (by decide) w
 go_enter Tryz.func72,Tryz.ntmps72
 go_wp2
 refine wp_loop_rounds 5 ?_
 rw [rounds_succ]
 go_wp2
 rw [rounds_succ]
 go_wp2
 rw [rounds_succ]
 go_wp2
 rw [rounds_succ]
 go_wp2
 rw [rounds_succ]
 go_wp2
 go_ret
 exact ⟨rfl,rfl⟩
end Go.Proofs.YtaacjjhmojecnaaGreatDoor
