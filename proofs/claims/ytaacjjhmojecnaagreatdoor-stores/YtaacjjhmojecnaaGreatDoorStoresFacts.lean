import Derived.Test.YtaacjjhmojecnaaGreatDoorDoor
namespace Go.Proofs.YtaacjjhmojecnaaGreatDoor
open Go.RowKit
theorem stores_fact0:Rows.storesRow.wf (OpenSpec.ofChange Rows.storesSpec)=true:=by kernel_rfl
theorem stores_fact1:laidOutB Tryz.prog=true:=by kernel_rfl
theorem stores_fact2:mapsRowed Tryz.prog=true:=by kernel_rfl
theorem stores_fact3:Tryz.f6.params.all (Tryz.prog.readableRec ·)=true:=by kernel_rfl
theorem stores_fact4:namedTie Tryz.prog Rows.storesRow.named Rows.storesSpec.vars=true:=by kernel_rfl
theorem stores_fact5:(Rows.storesRow.stops == [])=true:=by kernel_rfl
theorem stores_fact6:(Tryz.prog.stops == [])=true:=by kernel_rfl
theorem stores_fact7:(Rows.storesRow.knobs == [])=true:=by kernel_rfl
theorem stores_fact8:(Tryz.prog.stopKnobs == [])=true:=by kernel_rfl
theorem stores_fact9:(Rows.storesRow.inPlace == Tryz.prog.inPlace 6)=true:=by kernel_rfl
theorem stores_fact10:(Rows.storesRow.unfollowed == Tryz.prog.unfollowed 6)=true:=by kernel_rfl
theorem stores_fact11:(Rows.storesRow.recurses == Tryz.prog.recurses 6)=true:=by kernel_rfl
theorem stores_fact12:(Rows.storesRow.named == Tryz.prog.varsNamed 6)=true:=by kernel_rfl
theorem stores_fact13:(Rows.storesRow.maps == (Tryz.f6.params.toList++Rows.storesSpec.plain.varTypes Tryz.prog).any (Tryz.prog.mapsRec ·))=true:=by kernel_rfl
theorem stores_fact14:(Rows.storesRow.ifaces == (Tryz.f6.params.toList++Rows.storesSpec.plain.varTypes Tryz.prog).any (Tryz.prog.ifacesRec ·))=true:=by kernel_rfl
theorem stores_fact15:(Rows.storesRow.mapsOut == Tryz.prog.mapsAmong Tryz.f6.resultTypes.toList)=true:=by kernel_rfl
theorem stores_fact16:(Rows.storesRow.loops == (Tryz.f6.params.toList++Rows.storesSpec.plain.varTypes Tryz.prog).any (Tryz.prog.loopsFrom ·))=true:=by kernel_rfl
theorem stores_fact17:(Rows.storesRow.wideKeys == (Tryz.f6.params.toList++Rows.storesSpec.plain.varTypes Tryz.prog++Tryz.f6.resultTypes.toList).any (Tryz.prog.wideKeysFrom ·))=true:=by kernel_rfl
theorem stores_fact18:Rows.storesSpec.vars.all (Tryz.prog.varReadable ·)=true:=by kernel_rfl
theorem stores_fact19:Tryz.f6.resultTypes.all (fun t=>Tryz.prog.readableRec t && decide (t < Tryz.prog.types.size))=true:=by kernel_rfl
theorem stores_fact20:(Rows.storesRow.ifacesOut == Tryz.f6.resultTypes.toList.any (Tryz.prog.ifacesRec ·))=true:=by kernel_rfl
theorem stores_fact21:(Rows.storesRow.loopsOut == Tryz.f6.resultTypes.toList.any (Tryz.prog.loopsFrom ·))=true:=by kernel_rfl
theorem stores_fact22:(Rows.storesRow.plainKeys == Tryz.prog.plainKeys)=true:=by kernel_rfl
theorem stores_fact23:Rows.storesRow.shortTexts.isNone=true:=by kernel_rfl
theorem stores_fact24:Tryz.prog.stopsHeard=true:=by kernel_rfl
theorem stores_fact25:Tryz.prog.mayEnter=true:=by kernel_rfl
theorem stores_fact26:(Rows.storesRow.lifted == Tryz.prog.liftsFinal)=true:=by kernel_rfl
theorem stores_fact27:(Tryz.prog.make == some Rows.storesRow.make)=true:=by kernel_rfl
theorem stores_fact28:(Rows.storesRow.kinds == (if Rows.storesRow.domain.isEmpty then [] else Tryz.f6.params.toList.map fun t=>match Tryz.prog.underlying t with | some (.int k)=>some k | _=>none))=true:=by kernel_rfl
theorem stores_fact29:(Rows.storesRow.pinned == Rows.storesRow.pinnedBy)=true:=by kernel_rfl
theorem stores_fact30:(Rows.storesRow.veiled == (Tryz.f6.params.toList++Rows.storesSpec.plain.varTypes Tryz.prog++Tryz.f6.resultTypes.toList).any (Tryz.prog.veiledRec ·))=true:=by kernel_rfl
theorem stores_fact31:Rows.storesRow.veiledFits Tryz.prog Tryz.f6.params.toList (Tryz.f6.params.toList++Rows.storesSpec.plain.varTypes Tryz.prog++Tryz.f6.resultTypes.toList)=true:=by kernel_rfl
set_option maxRecDepth 100000 in
theorem stores_closed:joinedFacts Tryz.prog 6 Tryz.f6 Rows.storesSpec Rows.storesRow=true :=
 and_mk (and_mk (and_mk (and_mk (and_mk (and_mk (and_mk (and_mk (and_mk (and_mk (and_mk (and_mk (and_mk (and_mk (and_mk (and_mk (and_mk (and_mk (and_mk (and_mk (and_mk (and_mk (and_mk (and_mk (and_mk (and_mk (and_mk (and_mk (and_mk (and_mk (and_mk stores_fact0 stores_fact1) stores_fact2) stores_fact3) stores_fact4) stores_fact5) stores_fact6) stores_fact7) stores_fact8) stores_fact9) stores_fact10) stores_fact11) stores_fact12) stores_fact13) stores_fact14) stores_fact15) stores_fact16) stores_fact17) stores_fact18) stores_fact19) stores_fact20) stores_fact21) stores_fact22) stores_fact23) stores_fact24) stores_fact25) stores_fact26) stores_fact27) stores_fact28) stores_fact29) stores_fact30) stores_fact31
end Go.Proofs.YtaacjjhmojecnaaGreatDoor
