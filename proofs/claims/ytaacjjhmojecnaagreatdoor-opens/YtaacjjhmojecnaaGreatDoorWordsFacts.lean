/- The closed facts of the row of Words, each by itself. -/
import Derived.Test.YtaacjjhmojecnaaGreatDoorDoor
namespace Go.Proofs.YtaacjjhmojecnaaGreatDoor
open Go.RowKit
theorem words_fact0 : Rows.wordsRow.wf (OpenSpec.ofChange Rows.wordsSpec) = true := by kernel_rfl
theorem words_fact1 : laidOutB Tryz.prog = true := by kernel_rfl
theorem words_fact2 : mapsRowed Tryz.prog = true := by kernel_rfl
theorem words_fact3 : Tryz.f3.params.all (Tryz.prog.readableRec ·) = true := by kernel_rfl
theorem words_fact4 : namedTie Tryz.prog Rows.wordsRow.named Rows.wordsSpec.vars = true := by kernel_rfl
theorem words_fact5 : (Rows.wordsRow.stops == []) = true := by kernel_rfl
theorem words_fact6 : (Tryz.prog.stops == []) = true := by kernel_rfl
theorem words_fact7 : (Rows.wordsRow.knobs == []) = true := by kernel_rfl
theorem words_fact8 : (Tryz.prog.stopKnobs == []) = true := by kernel_rfl
theorem words_fact9 : (Rows.wordsRow.inPlace == Tryz.prog.inPlace 3) = true := by kernel_rfl
theorem words_fact10 : (Rows.wordsRow.unfollowed == Tryz.prog.unfollowed 3) = true := by kernel_rfl
theorem words_fact11 : (Rows.wordsRow.recurses == Tryz.prog.recurses 3) = true := by kernel_rfl
theorem words_fact12 : (Rows.wordsRow.named == Tryz.prog.varsNamed 3) = true := by kernel_rfl
theorem words_fact13 : (Rows.wordsRow.maps == (Tryz.f3.params.toList ++ Rows.wordsSpec.plain.varTypes Tryz.prog).any (Tryz.prog.mapsRec ·)) = true := by kernel_rfl
theorem words_fact14 : (Rows.wordsRow.ifaces == (Tryz.f3.params.toList ++ Rows.wordsSpec.plain.varTypes Tryz.prog).any (Tryz.prog.ifacesRec ·)) = true := by kernel_rfl
theorem words_fact15 : (Rows.wordsRow.mapsOut == Tryz.prog.mapsAmong Tryz.f3.resultTypes.toList) = true := by kernel_rfl
theorem words_fact16 : (Rows.wordsRow.loops == (Tryz.f3.params.toList ++ Rows.wordsSpec.plain.varTypes Tryz.prog).any (Tryz.prog.loopsFrom ·)) = true := by kernel_rfl
theorem words_fact17 : (Rows.wordsRow.wideKeys == (Tryz.f3.params.toList ++ Rows.wordsSpec.plain.varTypes Tryz.prog ++ Tryz.f3.resultTypes.toList).any (Tryz.prog.wideKeysFrom ·)) = true := by kernel_rfl
theorem words_fact18 : Rows.wordsSpec.vars.all (Tryz.prog.varReadable ·) = true := by kernel_rfl
theorem words_fact19 : Tryz.f3.resultTypes.all (fun t => Tryz.prog.readableRec t && decide (t < Tryz.prog.types.size)) = true := by kernel_rfl
theorem words_fact20 : (Rows.wordsRow.ifacesOut == Tryz.f3.resultTypes.toList.any (Tryz.prog.ifacesRec ·)) = true := by kernel_rfl
theorem words_fact21 : (Rows.wordsRow.loopsOut == Tryz.f3.resultTypes.toList.any (Tryz.prog.loopsFrom ·)) = true := by kernel_rfl
theorem words_fact22 : (Rows.wordsRow.plainKeys == Tryz.prog.plainKeys) = true := by kernel_rfl
theorem words_fact23 : Rows.wordsRow.shortTexts.isNone = true := by kernel_rfl
theorem words_fact24 : Tryz.prog.stopsHeard = true := by kernel_rfl
theorem words_fact25 : Tryz.prog.mayEnter = true := by kernel_rfl
theorem words_fact26 : (Rows.wordsRow.lifted == Tryz.prog.liftsFinal) = true := by kernel_rfl
theorem words_fact27 : (Tryz.prog.make == some Rows.wordsRow.make) = true := by kernel_rfl
theorem words_fact28 : (Rows.wordsRow.kinds == (if Rows.wordsRow.domain.isEmpty then [] else Tryz.f3.params.toList.map fun t => match Tryz.prog.underlying t with | some (.int k) => some k | _ => none)) = true := by kernel_rfl
theorem words_fact29 : (Rows.wordsRow.pinned == Rows.wordsRow.pinnedBy) = true := by kernel_rfl
theorem words_fact30 : (Rows.wordsRow.veiled == (Tryz.f3.params.toList ++ Rows.wordsSpec.plain.varTypes Tryz.prog ++ Tryz.f3.resultTypes.toList).any (Tryz.prog.veiledRec ·)) = true := by kernel_rfl
theorem words_fact31 : Rows.wordsRow.veiledFits Tryz.prog Tryz.f3.params.toList (Tryz.f3.params.toList ++ Rows.wordsSpec.plain.varTypes Tryz.prog ++ Tryz.f3.resultTypes.toList) = true := by kernel_rfl
set_option maxRecDepth 100000 in
theorem words_closed : joinedFacts Tryz.prog 3 Tryz.f3 Rows.wordsSpec Rows.wordsRow = true :=
  and_mk (and_mk (and_mk (and_mk (and_mk (and_mk (and_mk (and_mk (and_mk (and_mk (and_mk (and_mk (and_mk (and_mk (and_mk (and_mk (and_mk (and_mk (and_mk (and_mk (and_mk (and_mk (and_mk (and_mk (and_mk (and_mk (and_mk (and_mk (and_mk (and_mk (and_mk words_fact0 words_fact1) words_fact2) words_fact3) words_fact4) words_fact5) words_fact6) words_fact7) words_fact8) words_fact9) words_fact10) words_fact11) words_fact12) words_fact13) words_fact14) words_fact15) words_fact16) words_fact17) words_fact18) words_fact19) words_fact20) words_fact21) words_fact22) words_fact23) words_fact24) words_fact25) words_fact26) words_fact27) words_fact28) words_fact29) words_fact30) words_fact31
end Go.Proofs.YtaacjjhmojecnaaGreatDoor

