/- The closed facts of the row of Keys, each by itself. -/
import Derived.Test.YtaacjjhmojecnaaGreatDoorDoor
namespace Go.Proofs.YtaacjjhmojecnaaGreatDoor
open Go.RowKit
theorem keys_fact0 : Rows.keysRow.wf (OpenSpec.ofChange Rows.keysSpec) = true := by kernel_rfl
theorem keys_fact1 : laidOutB Tryz.prog = true := by kernel_rfl
theorem keys_fact2 : mapsRowed Tryz.prog = true := by kernel_rfl
theorem keys_fact3 : Tryz.f4.params.all (Tryz.prog.readableRec ·) = true := by kernel_rfl
theorem keys_fact4 : namedTie Tryz.prog Rows.keysRow.named Rows.keysSpec.vars = true := by kernel_rfl
theorem keys_fact5 : (Rows.keysRow.stops == []) = true := by kernel_rfl
theorem keys_fact6 : (Tryz.prog.stops == []) = true := by kernel_rfl
theorem keys_fact7 : (Rows.keysRow.knobs == []) = true := by kernel_rfl
theorem keys_fact8 : (Tryz.prog.stopKnobs == []) = true := by kernel_rfl
theorem keys_fact9 : (Rows.keysRow.inPlace == Tryz.prog.inPlace 4) = true := by kernel_rfl
theorem keys_fact10 : (Rows.keysRow.unfollowed == Tryz.prog.unfollowed 4) = true := by kernel_rfl
theorem keys_fact11 : (Rows.keysRow.recurses == Tryz.prog.recurses 4) = true := by kernel_rfl
theorem keys_fact12 : (Rows.keysRow.named == Tryz.prog.varsNamed 4) = true := by kernel_rfl
theorem keys_fact13 : (Rows.keysRow.maps == (Tryz.f4.params.toList ++ Rows.keysSpec.plain.varTypes Tryz.prog).any (Tryz.prog.mapsRec ·)) = true := by kernel_rfl
theorem keys_fact14 : (Rows.keysRow.ifaces == (Tryz.f4.params.toList ++ Rows.keysSpec.plain.varTypes Tryz.prog).any (Tryz.prog.ifacesRec ·)) = true := by kernel_rfl
theorem keys_fact15 : (Rows.keysRow.mapsOut == Tryz.prog.mapsAmong Tryz.f4.resultTypes.toList) = true := by kernel_rfl
theorem keys_fact16 : (Rows.keysRow.loops == (Tryz.f4.params.toList ++ Rows.keysSpec.plain.varTypes Tryz.prog).any (Tryz.prog.loopsFrom ·)) = true := by kernel_rfl
theorem keys_fact17 : (Rows.keysRow.wideKeys == (Tryz.f4.params.toList ++ Rows.keysSpec.plain.varTypes Tryz.prog ++ Tryz.f4.resultTypes.toList).any (Tryz.prog.wideKeysFrom ·)) = true := by kernel_rfl
theorem keys_fact18 : Rows.keysSpec.vars.all (Tryz.prog.varReadable ·) = true := by kernel_rfl
theorem keys_fact19 : Tryz.f4.resultTypes.all (fun t => Tryz.prog.readableRec t && decide (t < Tryz.prog.types.size)) = true := by kernel_rfl
theorem keys_fact20 : (Rows.keysRow.ifacesOut == Tryz.f4.resultTypes.toList.any (Tryz.prog.ifacesRec ·)) = true := by kernel_rfl
theorem keys_fact21 : (Rows.keysRow.loopsOut == Tryz.f4.resultTypes.toList.any (Tryz.prog.loopsFrom ·)) = true := by kernel_rfl
theorem keys_fact22 : (Rows.keysRow.plainKeys == Tryz.prog.plainKeys) = true := by kernel_rfl
theorem keys_fact23 : Rows.keysRow.shortTexts.isNone = true := by kernel_rfl
theorem keys_fact24 : Tryz.prog.stopsHeard = true := by kernel_rfl
theorem keys_fact25 : Tryz.prog.mayEnter = true := by kernel_rfl
theorem keys_fact26 : (Rows.keysRow.lifted == Tryz.prog.liftsFinal) = true := by kernel_rfl
theorem keys_fact27 : (Tryz.prog.make == some Rows.keysRow.make) = true := by kernel_rfl
theorem keys_fact28 : (Rows.keysRow.kinds == (if Rows.keysRow.domain.isEmpty then [] else Tryz.f4.params.toList.map fun t => match Tryz.prog.underlying t with | some (.int k) => some k | _ => none)) = true := by kernel_rfl
theorem keys_fact29 : (Rows.keysRow.pinned == Rows.keysRow.pinnedBy) = true := by kernel_rfl
theorem keys_fact30 : (Rows.keysRow.veiled == (Tryz.f4.params.toList ++ Rows.keysSpec.plain.varTypes Tryz.prog ++ Tryz.f4.resultTypes.toList).any (Tryz.prog.veiledRec ·)) = true := by kernel_rfl
theorem keys_fact31 : Rows.keysRow.veiledFits Tryz.prog Tryz.f4.params.toList (Tryz.f4.params.toList ++ Rows.keysSpec.plain.varTypes Tryz.prog ++ Tryz.f4.resultTypes.toList) = true := by kernel_rfl
set_option maxRecDepth 100000 in
theorem keys_closed : joinedFacts Tryz.prog 4 Tryz.f4 Rows.keysSpec Rows.keysRow = true :=
  and_mk (and_mk (and_mk (and_mk (and_mk (and_mk (and_mk (and_mk (and_mk (and_mk (and_mk (and_mk (and_mk (and_mk (and_mk (and_mk (and_mk (and_mk (and_mk (and_mk (and_mk (and_mk (and_mk (and_mk (and_mk (and_mk (and_mk (and_mk (and_mk (and_mk (and_mk keys_fact0 keys_fact1) keys_fact2) keys_fact3) keys_fact4) keys_fact5) keys_fact6) keys_fact7) keys_fact8) keys_fact9) keys_fact10) keys_fact11) keys_fact12) keys_fact13) keys_fact14) keys_fact15) keys_fact16) keys_fact17) keys_fact18) keys_fact19) keys_fact20) keys_fact21) keys_fact22) keys_fact23) keys_fact24) keys_fact25) keys_fact26) keys_fact27) keys_fact28) keys_fact29) keys_fact30) keys_fact31
end Go.Proofs.YtaacjjhmojecnaaGreatDoor

