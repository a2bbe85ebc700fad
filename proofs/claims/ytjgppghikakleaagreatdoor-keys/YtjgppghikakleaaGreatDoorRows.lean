/-
  NARROWER THAN 'FOR EVERY INPUT', by the rows' own cells (each row's printed sentence says how): Words: laid · Keys: laid · Opens: laid · Stores: laid.
  DERIVED. THE GIVEN ROWS OF THIS SEAT. 4 by the template 'for every input the law returns true; each argument reads behind the call as it read before'; 0 by the template 'total and deterministic' (their statements: YtjgppghikakleaaGreatDoorTotals.lean).
  GIVEN WITH THE SEED: the statements are not yours to turn. If you find one false, say at which input.
  Laid BY PROGRAM, IN A SANDBOX (cutbox-rows.mjs): the forced cells as the released guide's own fill.sh prints them over the translation 64e38d562ae248b3… (all of the seat's roots in one cut). By AI agents, Wed Nov 11 2026. No macro, syntax, notation, axiom, sorry.
-/
import Derived.Test.YtjgppghikakleaaGreatDoorChecked
import GoSem.Claim
import GoSem.ClaimJoined
import GoSem.ClaimMapViews
import Derived.JoinedTies
import Derived.KernelRfl
namespace Go.Proofs.YtjgppghikakleaaGreatDoor
/- THE CELL 'sum', in the pinned program and in every row, IS THE sha256 OF THE DUMP (.gsa) THAT YtjgppghikakleaaGreatDoorProg.lean LOADS. Nothing in Lean hashes anything: it is a label: what it is worth is what the hold of that sum in a sandbox is worth. -/
noncomputable def Tryz.pinned : Pinned := { name := "ytjgppghikakleaagreatdoor", sum := "64e38d562ae248b3763a90e775d8accfc18296bb3cc156395d340f079d0d1e85", checked := Tryz.checked }
namespace Rows
def none {H : Type} : Left H := { results := [], args := [] }

/- WHAT THE LISTED PACKAGE-LEVEL VARIABLES READ AS WHEN THE CALL BEGINS. Each datum BY PROGRAM (the guide's laid-datum.mjs) off the statement by which the dump's own 'gosem.cut.vars' lays the variable. In a bare row this is a premise. The card (YtjgppghikakleaaGreatDoorCards.lean) ties it to the program's text. -/
def laid_math_bits_deBruijn32tab {H : Type} : DataW H := .agg [.lit (.int .u8 0), .lit (.int .u8 1), .lit (.int .u8 28), .lit (.int .u8 2), .lit (.int .u8 29), .lit (.int .u8 14), .lit (.int .u8 24), .lit (.int .u8 3), .lit (.int .u8 30), .lit (.int .u8 22), .lit (.int .u8 20), .lit (.int .u8 15), .lit (.int .u8 25), .lit (.int .u8 17), .lit (.int .u8 4), .lit (.int .u8 8), .lit (.int .u8 31), .lit (.int .u8 27), .lit (.int .u8 13), .lit (.int .u8 23), .lit (.int .u8 21), .lit (.int .u8 19), .lit (.int .u8 16), .lit (.int .u8 7), .lit (.int .u8 26), .lit (.int .u8 12), .lit (.int .u8 18), .lit (.int .u8 6), .lit (.int .u8 11), .lit (.int .u8 5), .lit (.int .u8 10), .lit (.int .u8 9)]
def laid_math_bits_deBruijn64tab {H : Type} : DataW H := .agg [.lit (.int .u8 0), .lit (.int .u8 1), .lit (.int .u8 56), .lit (.int .u8 2), .lit (.int .u8 57), .lit (.int .u8 49), .lit (.int .u8 28), .lit (.int .u8 3), .lit (.int .u8 61), .lit (.int .u8 58), .lit (.int .u8 42), .lit (.int .u8 50), .lit (.int .u8 38), .lit (.int .u8 29), .lit (.int .u8 17), .lit (.int .u8 4), .lit (.int .u8 62), .lit (.int .u8 47), .lit (.int .u8 59), .lit (.int .u8 36), .lit (.int .u8 45), .lit (.int .u8 43), .lit (.int .u8 51), .lit (.int .u8 22), .lit (.int .u8 53), .lit (.int .u8 39), .lit (.int .u8 33), .lit (.int .u8 30), .lit (.int .u8 24), .lit (.int .u8 18), .lit (.int .u8 12), .lit (.int .u8 5), .lit (.int .u8 63), .lit (.int .u8 55), .lit (.int .u8 48), .lit (.int .u8 27), .lit (.int .u8 60), .lit (.int .u8 41), .lit (.int .u8 37), .lit (.int .u8 16), .lit (.int .u8 46), .lit (.int .u8 35), .lit (.int .u8 44), .lit (.int .u8 21), .lit (.int .u8 52), .lit (.int .u8 32), .lit (.int .u8 23), .lit (.int .u8 11), .lit (.int .u8 54), .lit (.int .u8 26), .lit (.int .u8 40), .lit (.int .u8 15), .lit (.int .u8 34), .lit (.int .u8 20), .lit (.int .u8 31), .lit (.int .u8 10), .lit (.int .u8 25), .lit (.int .u8 14), .lit (.int .u8 19), .lit (.int .u8 9), .lit (.int .u8 13), .lit (.int .u8 8), .lit (.int .u8 7), .lit (.int .u8 6)]
def laid_internal_strconv_uint64pow10 {H : Type} : DataW H := .agg [.lit (.int .u64 1), .lit (.int .u64 10), .lit (.int .u64 100), .lit (.int .u64 1000), .lit (.int .u64 10000), .lit (.int .u64 100000), .lit (.int .u64 1000000), .lit (.int .u64 10000000), .lit (.int .u64 100000000), .lit (.int .u64 1000000000), .lit (.int .u64 10000000000), .lit (.int .u64 100000000000), .lit (.int .u64 1000000000000), .lit (.int .u64 10000000000000), .lit (.int .u64 100000000000000), .lit (.int .u64 1000000000000000), .lit (.int .u64 10000000000000000), .lit (.int .u64 100000000000000000), .lit (.int .u64 1000000000000000000), .lit (.int .u64 10000000000000000000)]
def laid_errors_errorType {H : Type} : DataW H := .iface "internal/reflectlite.rtype" (.agg [.ptr (.lit (.string [101, 114, 114, 111, 114]))])
def laid_scout_segment_ErrLong {H : Type} : DataW H := .iface "*errors.errorString" (.ptr (.agg [.lit (.string [116, 111, 111, 32, 109, 97, 110, 121, 32, 98, 121, 116, 101, 115])]))
def laid_scout_segment_ErrEnds {H : Type} : DataW H := .iface "*errors.errorString" (.ptr (.agg [.lit (.string [116, 104, 101, 32, 98, 121, 116, 101, 115, 32, 101, 110, 100, 32, 116, 111, 111, 32, 101, 97, 114, 108, 121])]))
def laid_scout_segment_ErrRest {H : Type} : DataW H := .iface "*errors.errorString" (.ptr (.agg [.lit (.string [116, 104, 101, 114, 101, 32, 97, 114, 101, 32, 98, 121, 116, 101, 115, 32, 98, 101, 104, 105, 110, 100, 32, 116, 104, 101, 32, 101, 110, 100])]))
def laid_scout_segment_ErrForm {H : Type} : DataW H := .iface "*errors.errorString" (.ptr (.agg [.lit (.string [110, 111, 116, 32, 119, 114, 105, 116, 116, 101, 110, 32, 105, 110, 32, 116, 104, 101, 32, 111, 110, 101, 32, 119, 97, 121, 32, 116, 104, 97, 116, 32, 105, 115, 32, 114, 105, 103, 104, 116])]))
def laid_scout_segment_ErrBound {H : Type} : DataW H := .iface "*errors.errorString" (.ptr (.agg [.lit (.string [97, 32, 110, 117, 109, 98, 101, 114, 32, 116, 104, 97, 116, 32, 99, 97, 110, 110, 111, 116, 32, 98, 101])]))
def laid_scout_segment_ErrName {H : Type} : DataW H := .iface "*errors.errorString" (.ptr (.agg [.lit (.string [97, 32, 107, 101, 121, 32, 111, 114, 32, 116, 111, 107, 101, 110, 32, 116, 104, 97, 116, 32, 99, 97, 110, 110, 111, 116, 32, 98, 101, 44, 32, 111, 114, 32, 110, 111, 116, 32, 97, 116, 32, 116, 104, 105, 115, 32, 112, 108, 97, 99, 101])]))
def laid_scout_segment_ErrSum {H : Type} : DataW H := .iface "*errors.errorString" (.ptr (.agg [.lit (.string [100, 111, 101, 115, 32, 110, 111, 116, 32, 97, 103, 114, 101, 101, 32, 119, 105, 116, 104, 32, 119, 104, 97, 116, 32, 105, 116, 32, 115, 117, 109, 115, 32, 117, 112])]))

/-- 'scoutlaw.Words': WHATEVER THE INPUT: true; the input reads as it did. -/
def wordsSpec : ChangeSpec := { name := "words", fn := fun _ => fun
  | [d] => { results := [.lit (.bool true)], args := [d] }
  | _ => none }
def wordsRow : OpenClaim := { program := "ytjgppghikakleaagreatdoor", sum := "64e38d562ae248b3763a90e775d8accfc18296bb3cc156395d340f079d0d1e85", func := "scout/scoutlaw.Words", spec := "words", inPlace := ["internal/abi.NoEscape", "internal/bytealg.MakeNoZero", "internal/reflectlite.TypeOf", "internal/reflectlite.ValueOf", "(internal/reflectlite.Value).Type", "(internal/reflectlite.Value).IsNil", "(internal/reflectlite.Value).Elem", "(internal/reflectlite.Value).Set"], unfollowed := true, recurses := true, named := ["scout/segment.ErrLong", "scout/segment.ErrForm", "scout/segment.ErrEnds", "scout/segment.ErrBound", "scout/segment.ErrName", "internal/strconv.uint64pow10", "math/bits.deBruijn32tab", "math/bits.deBruijn64tab", "scout/segment.ErrSum", "scout/segment.ErrRest", "errors.errorType"], apart := false, laid := [("math/bits.deBruijn32tab", laid_math_bits_deBruijn32tab), ("math/bits.deBruijn64tab", laid_math_bits_deBruijn64tab), ("internal/strconv.uint64pow10", laid_internal_strconv_uint64pow10), ("errors.errorType", laid_errors_errorType), ("scout/segment.ErrLong", laid_scout_segment_ErrLong), ("scout/segment.ErrEnds", laid_scout_segment_ErrEnds), ("scout/segment.ErrRest", laid_scout_segment_ErrRest), ("scout/segment.ErrForm", laid_scout_segment_ErrForm), ("scout/segment.ErrBound", laid_scout_segment_ErrBound), ("scout/segment.ErrName", laid_scout_segment_ErrName), ("scout/segment.ErrSum", laid_scout_segment_ErrSum)] }
def WordsSaid : Prop := wordsRow.holds Tryz.pinned (OpenSpec.ofChange wordsSpec)

/-- ITS FALSE NEIGHBOUR: 'it returns false'. Refute it at one input. -/
def wordsWrong : ChangeSpec := { name := "words", fn := fun _ => fun
  | [d] => { results := [.lit (.bool false)], args := [d] }
  | _ => none }
def WordsWrongFalsely : Prop := wordsRow.holds Tryz.pinned (OpenSpec.ofChange wordsWrong)

/-- 'scoutlaw.Keys': WHATEVER THE INPUT: true; the input reads as it did. -/
def keysSpec : ChangeSpec := { name := "keys", fn := fun _ => fun
  | [d] => { results := [.lit (.bool true)], args := [d] }
  | _ => none }
def keysRow : OpenClaim := { program := "ytjgppghikakleaagreatdoor", sum := "64e38d562ae248b3763a90e775d8accfc18296bb3cc156395d340f079d0d1e85", func := "scout/scoutlaw.Keys", spec := "keys", inPlace := ["internal/abi.NoEscape", "internal/bytealg.MakeNoZero", "internal/reflectlite.TypeOf", "internal/reflectlite.ValueOf", "(internal/reflectlite.Value).Type", "(internal/reflectlite.Value).IsNil", "(internal/reflectlite.Value).Elem", "(internal/reflectlite.Value).Set"], unfollowed := true, recurses := true, named := ["scout/segment.ErrLong", "scout/segment.ErrForm", "scout/segment.ErrEnds", "scout/segment.ErrBound", "scout/segment.ErrName", "internal/strconv.uint64pow10", "math/bits.deBruijn32tab", "math/bits.deBruijn64tab", "scout/segment.ErrSum", "scout/segment.ErrRest", "errors.errorType"], apart := false, laid := [("math/bits.deBruijn32tab", laid_math_bits_deBruijn32tab), ("math/bits.deBruijn64tab", laid_math_bits_deBruijn64tab), ("internal/strconv.uint64pow10", laid_internal_strconv_uint64pow10), ("errors.errorType", laid_errors_errorType), ("scout/segment.ErrLong", laid_scout_segment_ErrLong), ("scout/segment.ErrEnds", laid_scout_segment_ErrEnds), ("scout/segment.ErrRest", laid_scout_segment_ErrRest), ("scout/segment.ErrForm", laid_scout_segment_ErrForm), ("scout/segment.ErrBound", laid_scout_segment_ErrBound), ("scout/segment.ErrName", laid_scout_segment_ErrName), ("scout/segment.ErrSum", laid_scout_segment_ErrSum)] }
def KeysSaid : Prop := keysRow.holds Tryz.pinned (OpenSpec.ofChange keysSpec)

/-- ITS FALSE NEIGHBOUR: 'it returns false'. Refute it at one input. -/
def keysWrong : ChangeSpec := { name := "keys", fn := fun _ => fun
  | [d] => { results := [.lit (.bool false)], args := [d] }
  | _ => none }
def KeysWrongFalsely : Prop := keysRow.holds Tryz.pinned (OpenSpec.ofChange keysWrong)

/-- 'scoutlaw.Opens': WHATEVER THE INPUT: true; the input reads as it did. -/
def opensSpec : ChangeSpec := { name := "opens", fn := fun _ => fun
  | [d] => { results := [.lit (.bool true)], args := [d] }
  | _ => none }
def opensRow : OpenClaim := { program := "ytjgppghikakleaagreatdoor", sum := "64e38d562ae248b3763a90e775d8accfc18296bb3cc156395d340f079d0d1e85", func := "scout/scoutlaw.Opens", spec := "opens", inPlace := ["internal/abi.NoEscape", "internal/bytealg.MakeNoZero", "internal/reflectlite.TypeOf", "internal/reflectlite.ValueOf", "(internal/reflectlite.Value).Type", "(internal/reflectlite.Value).IsNil", "(internal/reflectlite.Value).Elem", "(internal/reflectlite.Value).Set"], unfollowed := true, recurses := true, named := ["scout/segment.ErrLong", "scout/segment.ErrForm", "scout/segment.ErrEnds", "scout/segment.ErrBound", "scout/segment.ErrName", "internal/strconv.uint64pow10", "math/bits.deBruijn32tab", "math/bits.deBruijn64tab", "scout/segment.ErrSum", "scout/segment.ErrRest", "errors.errorType"], apart := false, laid := [("math/bits.deBruijn32tab", laid_math_bits_deBruijn32tab), ("math/bits.deBruijn64tab", laid_math_bits_deBruijn64tab), ("internal/strconv.uint64pow10", laid_internal_strconv_uint64pow10), ("errors.errorType", laid_errors_errorType), ("scout/segment.ErrLong", laid_scout_segment_ErrLong), ("scout/segment.ErrEnds", laid_scout_segment_ErrEnds), ("scout/segment.ErrRest", laid_scout_segment_ErrRest), ("scout/segment.ErrForm", laid_scout_segment_ErrForm), ("scout/segment.ErrBound", laid_scout_segment_ErrBound), ("scout/segment.ErrName", laid_scout_segment_ErrName), ("scout/segment.ErrSum", laid_scout_segment_ErrSum)] }
def OpensSaid : Prop := opensRow.holds Tryz.pinned (OpenSpec.ofChange opensSpec)

/-- ITS FALSE NEIGHBOUR: 'it returns false'. Refute it at one input. -/
def opensWrong : ChangeSpec := { name := "opens", fn := fun _ => fun
  | [d] => { results := [.lit (.bool false)], args := [d] }
  | _ => none }
def OpensWrongFalsely : Prop := opensRow.holds Tryz.pinned (OpenSpec.ofChange opensWrong)

/-- 'scoutlaw.Stores': WHATEVER THE INPUT: true; the input reads as it did. -/
def storesSpec : ChangeSpec := { name := "stores", fn := fun _ => fun
  | [d] => { results := [.lit (.bool true)], args := [d] }
  | _ => none }
def storesRow : OpenClaim := { program := "ytjgppghikakleaagreatdoor", sum := "64e38d562ae248b3763a90e775d8accfc18296bb3cc156395d340f079d0d1e85", func := "scout/scoutlaw.Stores", spec := "stores", inPlace := ["internal/abi.NoEscape", "internal/bytealg.MakeNoZero", "internal/reflectlite.TypeOf", "internal/reflectlite.ValueOf", "(internal/reflectlite.Value).Type", "(internal/reflectlite.Value).IsNil", "(internal/reflectlite.Value).Elem", "(internal/reflectlite.Value).Set"], unfollowed := true, recurses := true, named := ["scout/segment.ErrLong", "scout/segment.ErrForm", "scout/segment.ErrEnds", "scout/segment.ErrBound", "scout/segment.ErrName", "internal/strconv.uint64pow10", "math/bits.deBruijn32tab", "math/bits.deBruijn64tab", "scout/segment.ErrSum", "scout/segment.ErrRest", "errors.errorType"], apart := false, laid := [("math/bits.deBruijn32tab", laid_math_bits_deBruijn32tab), ("math/bits.deBruijn64tab", laid_math_bits_deBruijn64tab), ("internal/strconv.uint64pow10", laid_internal_strconv_uint64pow10), ("errors.errorType", laid_errors_errorType), ("scout/segment.ErrLong", laid_scout_segment_ErrLong), ("scout/segment.ErrEnds", laid_scout_segment_ErrEnds), ("scout/segment.ErrRest", laid_scout_segment_ErrRest), ("scout/segment.ErrForm", laid_scout_segment_ErrForm), ("scout/segment.ErrBound", laid_scout_segment_ErrBound), ("scout/segment.ErrName", laid_scout_segment_ErrName), ("scout/segment.ErrSum", laid_scout_segment_ErrSum)] }
def StoresSaid : Prop := storesRow.holds Tryz.pinned (OpenSpec.ofChange storesSpec)

/-- ITS FALSE NEIGHBOUR: 'it returns false'. Refute it at one input. -/
def storesWrong : ChangeSpec := { name := "stores", fn := fun _ => fun
  | [d] => { results := [.lit (.bool false)], args := [d] }
  | _ => none }
def StoresWrongFalsely : Prop := storesRow.holds Tryz.pinned (OpenSpec.ofChange storesWrong)

/- THE SECOND FORM. 'bulk': how many values and letters a reading holds, each counted each time it is reached (what is shared counts as often as it is met; a slice's spare places count too). A statement '..UptoSaid' is the law's where the arguments, and the package variables that the reading takes, are together of bulk at most 1048576: NARROWER than '..Said'. Prove '..Said' where nothing that the law and all that it calls make is longer than what came in: it says more and counts as full. Else prove '..UptoSaid'. A law counts once. -/
mutual
def uptoBulk {H : Type} : DataW H → Nat
  | .lit (.string bytes) => bytes.length + 1
  | .lit _ => 1
  | .nil => 1
  | .ptr d => uptoBulk d + 1
  | .slice elems spare => uptoBulkAll elems + uptoBulkAll spare + 1
  | .agg parts => uptoBulkAll parts + 1
  | .iface _ d => uptoBulk d + 1
  | .map entries => uptoBulkEntries entries + 1
  | .held _ => 1
def uptoBulkAll {H : Type} : List (DataW H) → Nat
  | [] => 0
  | d :: r => uptoBulk d + uptoBulkAll r
def uptoBulkEntries {H : Type} : List (Lit × DataW H) → Nat
  | [] => 0
  | x :: r => uptoBulkEntry x + uptoBulkEntries r
def uptoBulkEntry {H : Type} : Lit × DataW H → Nat
  | (.string bytes, d) => bytes.length + uptoBulk d + 1
  | (_, d) => uptoBulk d + 1
 end
def uptoSmall : (H : Type) → List (DataW H) → Bool := fun _ ds => decide (uptoBulkAll ds ≤ 1048576)
def OpenSpec.upto (s : _root_.Go.ChangeSpec) : _root_.Go.OpenSpec := { _root_.Go.OpenSpec.ofChange s with cond := some uptoSmall }

/-- 'scoutlaw.Words', WHERE WHAT IT READS IS OF BULK AT MOST 1048576: true; the input reads as it did. -/
def wordsUptoRow : OpenClaim := { program := "ytjgppghikakleaagreatdoor", sum := "64e38d562ae248b3763a90e775d8accfc18296bb3cc156395d340f079d0d1e85", func := "scout/scoutlaw.Words", spec := "words", inPlace := ["internal/abi.NoEscape", "internal/bytealg.MakeNoZero", "internal/reflectlite.TypeOf", "internal/reflectlite.ValueOf", "(internal/reflectlite.Value).Type", "(internal/reflectlite.Value).IsNil", "(internal/reflectlite.Value).Elem", "(internal/reflectlite.Value).Set"], unfollowed := true, recurses := true, named := ["scout/segment.ErrLong", "scout/segment.ErrForm", "scout/segment.ErrEnds", "scout/segment.ErrBound", "scout/segment.ErrName", "internal/strconv.uint64pow10", "math/bits.deBruijn32tab", "math/bits.deBruijn64tab", "scout/segment.ErrSum", "scout/segment.ErrRest", "errors.errorType"], apart := false, laid := [("math/bits.deBruijn32tab", laid_math_bits_deBruijn32tab), ("math/bits.deBruijn64tab", laid_math_bits_deBruijn64tab), ("internal/strconv.uint64pow10", laid_internal_strconv_uint64pow10), ("errors.errorType", laid_errors_errorType), ("scout/segment.ErrLong", laid_scout_segment_ErrLong), ("scout/segment.ErrEnds", laid_scout_segment_ErrEnds), ("scout/segment.ErrRest", laid_scout_segment_ErrRest), ("scout/segment.ErrForm", laid_scout_segment_ErrForm), ("scout/segment.ErrBound", laid_scout_segment_ErrBound), ("scout/segment.ErrName", laid_scout_segment_ErrName), ("scout/segment.ErrSum", laid_scout_segment_ErrSum)], narrowed := true }
def WordsUptoSaid : Prop := wordsUptoRow.holds Tryz.pinned (OpenSpec.upto wordsSpec)

/-- 'scoutlaw.Keys', WHERE WHAT IT READS IS OF BULK AT MOST 1048576: true; the input reads as it did. -/
def keysUptoRow : OpenClaim := { program := "ytjgppghikakleaagreatdoor", sum := "64e38d562ae248b3763a90e775d8accfc18296bb3cc156395d340f079d0d1e85", func := "scout/scoutlaw.Keys", spec := "keys", inPlace := ["internal/abi.NoEscape", "internal/bytealg.MakeNoZero", "internal/reflectlite.TypeOf", "internal/reflectlite.ValueOf", "(internal/reflectlite.Value).Type", "(internal/reflectlite.Value).IsNil", "(internal/reflectlite.Value).Elem", "(internal/reflectlite.Value).Set"], unfollowed := true, recurses := true, named := ["scout/segment.ErrLong", "scout/segment.ErrForm", "scout/segment.ErrEnds", "scout/segment.ErrBound", "scout/segment.ErrName", "internal/strconv.uint64pow10", "math/bits.deBruijn32tab", "math/bits.deBruijn64tab", "scout/segment.ErrSum", "scout/segment.ErrRest", "errors.errorType"], apart := false, laid := [("math/bits.deBruijn32tab", laid_math_bits_deBruijn32tab), ("math/bits.deBruijn64tab", laid_math_bits_deBruijn64tab), ("internal/strconv.uint64pow10", laid_internal_strconv_uint64pow10), ("errors.errorType", laid_errors_errorType), ("scout/segment.ErrLong", laid_scout_segment_ErrLong), ("scout/segment.ErrEnds", laid_scout_segment_ErrEnds), ("scout/segment.ErrRest", laid_scout_segment_ErrRest), ("scout/segment.ErrForm", laid_scout_segment_ErrForm), ("scout/segment.ErrBound", laid_scout_segment_ErrBound), ("scout/segment.ErrName", laid_scout_segment_ErrName), ("scout/segment.ErrSum", laid_scout_segment_ErrSum)], narrowed := true }
def KeysUptoSaid : Prop := keysUptoRow.holds Tryz.pinned (OpenSpec.upto keysSpec)

/-- 'scoutlaw.Opens', WHERE WHAT IT READS IS OF BULK AT MOST 1048576: true; the input reads as it did. -/
def opensUptoRow : OpenClaim := { program := "ytjgppghikakleaagreatdoor", sum := "64e38d562ae248b3763a90e775d8accfc18296bb3cc156395d340f079d0d1e85", func := "scout/scoutlaw.Opens", spec := "opens", inPlace := ["internal/abi.NoEscape", "internal/bytealg.MakeNoZero", "internal/reflectlite.TypeOf", "internal/reflectlite.ValueOf", "(internal/reflectlite.Value).Type", "(internal/reflectlite.Value).IsNil", "(internal/reflectlite.Value).Elem", "(internal/reflectlite.Value).Set"], unfollowed := true, recurses := true, named := ["scout/segment.ErrLong", "scout/segment.ErrForm", "scout/segment.ErrEnds", "scout/segment.ErrBound", "scout/segment.ErrName", "internal/strconv.uint64pow10", "math/bits.deBruijn32tab", "math/bits.deBruijn64tab", "scout/segment.ErrSum", "scout/segment.ErrRest", "errors.errorType"], apart := false, laid := [("math/bits.deBruijn32tab", laid_math_bits_deBruijn32tab), ("math/bits.deBruijn64tab", laid_math_bits_deBruijn64tab), ("internal/strconv.uint64pow10", laid_internal_strconv_uint64pow10), ("errors.errorType", laid_errors_errorType), ("scout/segment.ErrLong", laid_scout_segment_ErrLong), ("scout/segment.ErrEnds", laid_scout_segment_ErrEnds), ("scout/segment.ErrRest", laid_scout_segment_ErrRest), ("scout/segment.ErrForm", laid_scout_segment_ErrForm), ("scout/segment.ErrBound", laid_scout_segment_ErrBound), ("scout/segment.ErrName", laid_scout_segment_ErrName), ("scout/segment.ErrSum", laid_scout_segment_ErrSum)], narrowed := true }
def OpensUptoSaid : Prop := opensUptoRow.holds Tryz.pinned (OpenSpec.upto opensSpec)

/-- 'scoutlaw.Stores', WHERE WHAT IT READS IS OF BULK AT MOST 1048576: true; the input reads as it did. -/
def storesUptoRow : OpenClaim := { program := "ytjgppghikakleaagreatdoor", sum := "64e38d562ae248b3763a90e775d8accfc18296bb3cc156395d340f079d0d1e85", func := "scout/scoutlaw.Stores", spec := "stores", inPlace := ["internal/abi.NoEscape", "internal/bytealg.MakeNoZero", "internal/reflectlite.TypeOf", "internal/reflectlite.ValueOf", "(internal/reflectlite.Value).Type", "(internal/reflectlite.Value).IsNil", "(internal/reflectlite.Value).Elem", "(internal/reflectlite.Value).Set"], unfollowed := true, recurses := true, named := ["scout/segment.ErrLong", "scout/segment.ErrForm", "scout/segment.ErrEnds", "scout/segment.ErrBound", "scout/segment.ErrName", "internal/strconv.uint64pow10", "math/bits.deBruijn32tab", "math/bits.deBruijn64tab", "scout/segment.ErrSum", "scout/segment.ErrRest", "errors.errorType"], apart := false, laid := [("math/bits.deBruijn32tab", laid_math_bits_deBruijn32tab), ("math/bits.deBruijn64tab", laid_math_bits_deBruijn64tab), ("internal/strconv.uint64pow10", laid_internal_strconv_uint64pow10), ("errors.errorType", laid_errors_errorType), ("scout/segment.ErrLong", laid_scout_segment_ErrLong), ("scout/segment.ErrEnds", laid_scout_segment_ErrEnds), ("scout/segment.ErrRest", laid_scout_segment_ErrRest), ("scout/segment.ErrForm", laid_scout_segment_ErrForm), ("scout/segment.ErrBound", laid_scout_segment_ErrBound), ("scout/segment.ErrName", laid_scout_segment_ErrName), ("scout/segment.ErrSum", laid_scout_segment_ErrSum)], narrowed := true }
def StoresUptoSaid : Prop := storesUptoRow.holds Tryz.pinned (OpenSpec.upto storesSpec)

end Rows
end Go.Proofs.YtjgppghikakleaaGreatDoor
