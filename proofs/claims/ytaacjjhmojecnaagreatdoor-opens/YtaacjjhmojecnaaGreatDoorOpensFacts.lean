/- The closed facts of the row of Opens, each by itself. -/
import Derived.Test.YtaacjjhmojecnaaGreatDoorDoor
namespace Go.Proofs.YtaacjjhmojecnaaGreatDoor
open Go.RowKit
theorem opens_fact0 : Rows.opensRow.wf (OpenSpec.ofChange Rows.opensSpec) = true := by kernel_rfl
theorem opens_fact1 : laidOutB Tryz.prog = true := by kernel_rfl
theorem opens_fact2 : mapsRowed Tryz.prog = true := by kernel_rfl
theorem opens_fact3 : Tryz.f5.params.all (Tryz.prog.readableRec ·) = true := by kernel_rfl
theorem opens_fact4 : namedTie Tryz.prog Rows.opensRow.named Rows.opensSpec.vars = true := by kernel_rfl
theorem opens_fact5 : (Rows.opensRow.stops == []) = true := by kernel_rfl
theorem opens_fact6 : (Tryz.prog.stops == []) = true := by kernel_rfl
theorem opens_fact7 : (Rows.opensRow.knobs == []) = true := by kernel_rfl
theorem opens_fact8 : (Tryz.prog.stopKnobs == []) = true := by kernel_rfl
theorem opens_fact9 : (Rows.opensRow.inPlace == Tryz.prog.inPlace 5) = true := by kernel_rfl
theorem opens_fact10 : (Rows.opensRow.unfollowed == Tryz.prog.unfollowed 5) = true := by kernel_rfl
theorem opens_fact11 : (Rows.opensRow.recurses == Tryz.prog.recurses 5) = true := by kernel_rfl
theorem opens_fact12 : (Rows.opensRow.named == Tryz.prog.varsNamed 5) = true := by kernel_rfl
theorem opens_fact13 : (Rows.opensRow.maps == (Tryz.f5.params.toList ++ Rows.opensSpec.plain.varTypes Tryz.prog).any (Tryz.prog.mapsRec ·)) = true := by kernel_rfl
theorem opens_fact14 : (Rows.opensRow.ifaces == (Tryz.f5.params.toList ++ Rows.opensSpec.plain.varTypes Tryz.prog).any (Tryz.prog.ifacesRec ·)) = true := by kernel_rfl
theorem opens_fact15 : (Rows.opensRow.mapsOut == Tryz.prog.mapsAmong Tryz.f5.resultTypes.toList) = true := by kernel_rfl
theorem opens_fact16 : (Rows.opensRow.loops == (Tryz.f5.params.toList ++ Rows.opensSpec.plain.varTypes Tryz.prog).any (Tryz.prog.loopsFrom ·)) = true := by kernel_rfl
theorem opens_fact17 : (Rows.opensRow.wideKeys == (Tryz.f5.params.toList ++ Rows.opensSpec.plain.varTypes Tryz.prog ++ Tryz.f5.resultTypes.toList).any (Tryz.prog.wideKeysFrom ·)) = true := by kernel_rfl
theorem opens_fact18 : Rows.opensSpec.vars.all (Tryz.prog.varReadable ·) = true := by kernel_rfl
theorem opens_fact19 : Tryz.f5.resultTypes.all (fun t => Tryz.prog.readableRec t && decide (t < Tryz.prog.types.size)) = true := by kernel_rfl
theorem opens_fact20 : (Rows.opensRow.ifacesOut == Tryz.f5.resultTypes.toList.any (Tryz.prog.ifacesRec ·)) = true := by kernel_rfl
theorem opens_fact21 : (Rows.opensRow.loopsOut == Tryz.f5.resultTypes.toList.any (Tryz.prog.loopsFrom ·)) = true := by kernel_rfl
theorem opens_fact22 : (Rows.opensRow.plainKeys == Tryz.prog.plainKeys) = true := by kernel_rfl
theorem opens_fact23 : Rows.opensRow.shortTexts.isNone = true := by kernel_rfl
theorem opens_fact24 : Tryz.prog.stopsHeard = true := by kernel_rfl
theorem opens_fact25 : Tryz.prog.mayEnter = true := by kernel_rfl
theorem opens_fact26 : (Rows.opensRow.lifted == Tryz.prog.liftsFinal) = true := by kernel_rfl
theorem opens_fact27 : (Tryz.prog.make == some Rows.opensRow.make) = true := by kernel_rfl
theorem opens_fact28 : (Rows.opensRow.kinds == (if Rows.opensRow.domain.isEmpty then [] else Tryz.f5.params.toList.map fun t => match Tryz.prog.underlying t with | some (.int k) => some k | _ => none)) = true := by kernel_rfl
theorem opens_fact29 : (Rows.opensRow.pinned == Rows.opensRow.pinnedBy) = true := by kernel_rfl
theorem opens_fact30 : (Rows.opensRow.veiled == (Tryz.f5.params.toList ++ Rows.opensSpec.plain.varTypes Tryz.prog ++ Tryz.f5.resultTypes.toList).any (Tryz.prog.veiledRec ·)) = true := by kernel_rfl
theorem opens_fact31 : Rows.opensRow.veiledFits Tryz.prog Tryz.f5.params.toList (Tryz.f5.params.toList ++ Rows.opensSpec.plain.varTypes Tryz.prog ++ Tryz.f5.resultTypes.toList) = true := by kernel_rfl
set_option maxRecDepth 100000 in
theorem opens_closed : joinedFacts Tryz.prog 5 Tryz.f5 Rows.opensSpec Rows.opensRow = true :=
  and_mk (and_mk (and_mk (and_mk (and_mk (and_mk (and_mk (and_mk (and_mk (and_mk (and_mk (and_mk (and_mk (and_mk (and_mk (and_mk (and_mk (and_mk (and_mk (and_mk (and_mk (and_mk (and_mk (and_mk (and_mk (and_mk (and_mk (and_mk (and_mk (and_mk (and_mk opens_fact0 opens_fact1) opens_fact2) opens_fact3) opens_fact4) opens_fact5) opens_fact6) opens_fact7) opens_fact8) opens_fact9) opens_fact10) opens_fact11) opens_fact12) opens_fact13) opens_fact14) opens_fact15) opens_fact16) opens_fact17) opens_fact18) opens_fact19) opens_fact20) opens_fact21) opens_fact22) opens_fact23) opens_fact24) opens_fact25) opens_fact26) opens_fact27) opens_fact28) opens_fact29) opens_fact30) opens_fact31
end Go.Proofs.YtaacjjhmojecnaaGreatDoor

