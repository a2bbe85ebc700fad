/-
  DERIVED. GIVEN WITH THE SEED: THE CARDS: each row of YtaacjjhmojecnaaGreatDoorRows.lean that lists a variable, with what it lists TIED to the program's text (the seventh form; the later family's looks); each row that meets fmt, with fmt's text TOLD by the authors' own Lean function (tested against real Go, not proved from fmt's source: count such statements apart). THE CARD IS WHAT COUNTS. Prove the row's statement (the work); the ties are given (YtaacjjhmojecnaaGreatDoorTie.lean); close each card by the builder's one call (the guide's Derived/Test/ToyasCard.lean, 'card_holds'). Laid BY PROGRAM, IN A SANDBOX (cutbox-door.mjs). By AI agents, Wed Nov 11 2026. No macro, syntax, notation, axiom, sorry.
-/
import Derived.Test.YtaacjjhmojecnaaGreatDoorRows
import GoSem.ClaimSeven
namespace Go.Proofs.YtaacjjhmojecnaaGreatDoor
namespace Rows

/-- THE TIED CARD OF 'scoutlaw.Words'. -/
def wordsCard : Claim7 := { stood := { row := wordsRow, standIns := [], harness := (true, "663e30b3d8ab7c43ccc76dcc24b9052de6c0c55214807cfded47cb28250b3879"), looks := true }, kinds := [], alts := [], goes := true, laidByText := true, laidKinds := [.data, .data, .data, .handle, .sentinel, .sentinel, .sentinel, .sentinel, .sentinel, .sentinel, .sentinel], laidTests := true, laidLooks := .later }
def WordsCardSaid : Prop := Claim7.holds Tryz.pinned (.plain (OpenSpec.ofChange wordsSpec)) wordsCard

/-- THE TIED CARD OF 'scoutlaw.Keys'. -/
def keysCard : Claim7 := { stood := { row := keysRow, standIns := [], harness := (true, "663e30b3d8ab7c43ccc76dcc24b9052de6c0c55214807cfded47cb28250b3879"), looks := true }, kinds := [], alts := [], goes := true, laidByText := true, laidKinds := [.data, .data, .data, .handle, .sentinel, .sentinel, .sentinel, .sentinel, .sentinel, .sentinel, .sentinel], laidTests := true, laidLooks := .later }
def KeysCardSaid : Prop := Claim7.holds Tryz.pinned (.plain (OpenSpec.ofChange keysSpec)) keysCard

/-- THE TIED CARD OF 'scoutlaw.Opens'. -/
def opensCard : Claim7 := { stood := { row := opensRow, standIns := [], harness := (true, "663e30b3d8ab7c43ccc76dcc24b9052de6c0c55214807cfded47cb28250b3879"), looks := true }, kinds := [], alts := [], goes := true, laidByText := true, laidKinds := [.data, .data, .data, .handle, .sentinel, .sentinel, .sentinel, .sentinel, .sentinel, .sentinel, .sentinel], laidTests := true, laidLooks := .later }
def OpensCardSaid : Prop := Claim7.holds Tryz.pinned (.plain (OpenSpec.ofChange opensSpec)) opensCard

/-- THE TIED CARD OF 'scoutlaw.Stores'. -/
def storesCard : Claim7 := { stood := { row := storesRow, standIns := [], harness := (true, "663e30b3d8ab7c43ccc76dcc24b9052de6c0c55214807cfded47cb28250b3879"), looks := true }, kinds := [], alts := [], goes := true, laidByText := true, laidKinds := [.data, .data, .data, .handle, .sentinel, .sentinel, .sentinel, .sentinel, .sentinel, .sentinel, .sentinel], laidTests := true, laidLooks := .later }
def StoresCardSaid : Prop := Claim7.holds Tryz.pinned (.plain (OpenSpec.ofChange storesSpec)) storesCard

/-- THE TIED CARD OF 'scoutlaw.Finds'. -/
def findsCard : Claim7 := { stood := { row := findsRow, standIns := [], harness := (true, "663e30b3d8ab7c43ccc76dcc24b9052de6c0c55214807cfded47cb28250b3879"), looks := true }, kinds := [], alts := [], goes := true, laidByText := true, laidKinds := [.data, .data, .data, .handle, .sentinel, .sentinel, .sentinel, .sentinel, .sentinel, .sentinel, .sentinel], laidTests := true, laidLooks := .later }
def FindsCardSaid : Prop := Claim7.holds Tryz.pinned (.plain (OpenSpec.ofChange findsSpec)) findsCard

/-- THE TIED CARD OF 'scoutkeep.Ranked'. -/
def rankedCard : Claim7 := { stood := { row := rankedRow, standIns := [], harness := (true, "663e30b3d8ab7c43ccc76dcc24b9052de6c0c55214807cfded47cb28250b3879"), looks := true }, kinds := [], alts := [], goes := true, laidByText := true, laidKinds := [.data, .data, .data, .handle, .sentinel, .sentinel, .sentinel, .sentinel, .sentinel, .sentinel, .sentinel], laidTests := true, laidLooks := .later }
def RankedCardSaid : Prop := Claim7.holds Tryz.pinned (.plain (OpenSpec.ofChange rankedSpec)) rankedCard

/-- THE TIED CARD OF 'scoutkeep.Bag'. -/
def bagCard : Claim7 := { stood := { row := bagRow, standIns := [], harness := (true, "663e30b3d8ab7c43ccc76dcc24b9052de6c0c55214807cfded47cb28250b3879"), looks := true }, kinds := [], alts := [], goes := true, laidByText := true, laidKinds := [.data, .data, .data, .handle, .sentinel, .sentinel, .sentinel, .sentinel, .sentinel, .sentinel, .sentinel], laidTests := true, laidLooks := .later }
def BagCardSaid : Prop := Claim7.holds Tryz.pinned (.plain (OpenSpec.ofChange bagSpec)) bagCard

/-- THE TIED CARD OF 'scoutkeep.Reads'. -/
def readsCard : Claim7 := { stood := { row := readsRow, standIns := [], harness := (true, "663e30b3d8ab7c43ccc76dcc24b9052de6c0c55214807cfded47cb28250b3879"), looks := true }, kinds := [], alts := [], goes := true, laidByText := true, laidKinds := [.data, .data, .data, .handle, .sentinel, .sentinel, .sentinel, .sentinel, .sentinel, .sentinel, .sentinel], laidTests := true, laidLooks := .later }
def ReadsCardSaid : Prop := Claim7.holds Tryz.pinned (.plain (OpenSpec.ofChange readsSpec)) readsCard

/-- THE TIED CARD OF 'scoutkeep.Spoiled'. -/
def spoiledCard : Claim7 := { stood := { row := spoiledRow, standIns := [], harness := (true, "663e30b3d8ab7c43ccc76dcc24b9052de6c0c55214807cfded47cb28250b3879"), looks := true }, kinds := [], alts := [], goes := true, laidByText := true, laidKinds := [.data, .data, .data, .handle, .sentinel, .sentinel, .sentinel, .sentinel, .sentinel, .sentinel, .sentinel], laidTests := true, laidLooks := .later }
def SpoiledCardSaid : Prop := Claim7.holds Tryz.pinned (.plain (OpenSpec.ofChange spoiledSpec)) spoiledCard

/-- THE TIED CARD OF 'scoutkeep.Found'. -/
def foundCard : Claim7 := { stood := { row := foundRow, standIns := [], harness := (true, "663e30b3d8ab7c43ccc76dcc24b9052de6c0c55214807cfded47cb28250b3879"), looks := true }, kinds := [], alts := [], goes := true, laidByText := true, laidKinds := [.data, .data, .data, .handle, .sentinel, .sentinel, .sentinel, .sentinel, .sentinel, .sentinel, .sentinel], laidTests := true, laidLooks := .later }
def FoundCardSaid : Prop := Claim7.holds Tryz.pinned (.plain (OpenSpec.ofChange foundSpec)) foundCard

/-- THE TIED CARD OF 'scoutkeep.Agree'. -/
def agreeCard : Claim7 := { stood := { row := agreeRow, standIns := [], harness := (true, "663e30b3d8ab7c43ccc76dcc24b9052de6c0c55214807cfded47cb28250b3879"), looks := true }, kinds := [], alts := [], goes := true, laidByText := true, laidKinds := [.data, .data, .data, .handle, .sentinel, .sentinel, .sentinel, .sentinel, .sentinel, .sentinel, .sentinel], laidTests := true, laidLooks := .later }
def AgreeCardSaid : Prop := Claim7.holds Tryz.pinned (.plain (OpenSpec.ofChange agreeSpec)) agreeCard

/-- THE SECOND FORM's CARD OF 'scoutlaw.Words'. -/
def wordsUptoCard : Claim7 := { stood := { row := wordsUptoRow, standIns := [], harness := (true, "663e30b3d8ab7c43ccc76dcc24b9052de6c0c55214807cfded47cb28250b3879"), looks := true }, kinds := [], alts := [], goes := true, laidByText := true, laidKinds := [.data, .data, .data, .handle, .sentinel, .sentinel, .sentinel, .sentinel, .sentinel, .sentinel, .sentinel], laidTests := true, laidLooks := .later }
def WordsUptoCardSaid : Prop := Claim7.holds Tryz.pinned (.plain (OpenSpec.upto wordsSpec)) wordsUptoCard

/-- THE SECOND FORM's CARD OF 'scoutlaw.Keys'. -/
def keysUptoCard : Claim7 := { stood := { row := keysUptoRow, standIns := [], harness := (true, "663e30b3d8ab7c43ccc76dcc24b9052de6c0c55214807cfded47cb28250b3879"), looks := true }, kinds := [], alts := [], goes := true, laidByText := true, laidKinds := [.data, .data, .data, .handle, .sentinel, .sentinel, .sentinel, .sentinel, .sentinel, .sentinel, .sentinel], laidTests := true, laidLooks := .later }
def KeysUptoCardSaid : Prop := Claim7.holds Tryz.pinned (.plain (OpenSpec.upto keysSpec)) keysUptoCard

/-- THE SECOND FORM's CARD OF 'scoutlaw.Opens'. -/
def opensUptoCard : Claim7 := { stood := { row := opensUptoRow, standIns := [], harness := (true, "663e30b3d8ab7c43ccc76dcc24b9052de6c0c55214807cfded47cb28250b3879"), looks := true }, kinds := [], alts := [], goes := true, laidByText := true, laidKinds := [.data, .data, .data, .handle, .sentinel, .sentinel, .sentinel, .sentinel, .sentinel, .sentinel, .sentinel], laidTests := true, laidLooks := .later }
def OpensUptoCardSaid : Prop := Claim7.holds Tryz.pinned (.plain (OpenSpec.upto opensSpec)) opensUptoCard

/-- THE SECOND FORM's CARD OF 'scoutlaw.Stores'. -/
def storesUptoCard : Claim7 := { stood := { row := storesUptoRow, standIns := [], harness := (true, "663e30b3d8ab7c43ccc76dcc24b9052de6c0c55214807cfded47cb28250b3879"), looks := true }, kinds := [], alts := [], goes := true, laidByText := true, laidKinds := [.data, .data, .data, .handle, .sentinel, .sentinel, .sentinel, .sentinel, .sentinel, .sentinel, .sentinel], laidTests := true, laidLooks := .later }
def StoresUptoCardSaid : Prop := Claim7.holds Tryz.pinned (.plain (OpenSpec.upto storesSpec)) storesUptoCard

/-- THE SECOND FORM's CARD OF 'scoutlaw.Finds'. -/
def findsUptoCard : Claim7 := { stood := { row := findsUptoRow, standIns := [], harness := (true, "663e30b3d8ab7c43ccc76dcc24b9052de6c0c55214807cfded47cb28250b3879"), looks := true }, kinds := [], alts := [], goes := true, laidByText := true, laidKinds := [.data, .data, .data, .handle, .sentinel, .sentinel, .sentinel, .sentinel, .sentinel, .sentinel, .sentinel], laidTests := true, laidLooks := .later }
def FindsUptoCardSaid : Prop := Claim7.holds Tryz.pinned (.plain (OpenSpec.upto findsSpec)) findsUptoCard

/-- THE SECOND FORM's CARD OF 'scoutkeep.Ranked'. -/
def rankedUptoCard : Claim7 := { stood := { row := rankedUptoRow, standIns := [], harness := (true, "663e30b3d8ab7c43ccc76dcc24b9052de6c0c55214807cfded47cb28250b3879"), looks := true }, kinds := [], alts := [], goes := true, laidByText := true, laidKinds := [.data, .data, .data, .handle, .sentinel, .sentinel, .sentinel, .sentinel, .sentinel, .sentinel, .sentinel], laidTests := true, laidLooks := .later }
def RankedUptoCardSaid : Prop := Claim7.holds Tryz.pinned (.plain (OpenSpec.upto rankedSpec)) rankedUptoCard

/-- THE SECOND FORM's CARD OF 'scoutkeep.Bag'. -/
def bagUptoCard : Claim7 := { stood := { row := bagUptoRow, standIns := [], harness := (true, "663e30b3d8ab7c43ccc76dcc24b9052de6c0c55214807cfded47cb28250b3879"), looks := true }, kinds := [], alts := [], goes := true, laidByText := true, laidKinds := [.data, .data, .data, .handle, .sentinel, .sentinel, .sentinel, .sentinel, .sentinel, .sentinel, .sentinel], laidTests := true, laidLooks := .later }
def BagUptoCardSaid : Prop := Claim7.holds Tryz.pinned (.plain (OpenSpec.upto bagSpec)) bagUptoCard

/-- THE SECOND FORM's CARD OF 'scoutkeep.Reads'. -/
def readsUptoCard : Claim7 := { stood := { row := readsUptoRow, standIns := [], harness := (true, "663e30b3d8ab7c43ccc76dcc24b9052de6c0c55214807cfded47cb28250b3879"), looks := true }, kinds := [], alts := [], goes := true, laidByText := true, laidKinds := [.data, .data, .data, .handle, .sentinel, .sentinel, .sentinel, .sentinel, .sentinel, .sentinel, .sentinel], laidTests := true, laidLooks := .later }
def ReadsUptoCardSaid : Prop := Claim7.holds Tryz.pinned (.plain (OpenSpec.upto readsSpec)) readsUptoCard

/-- THE SECOND FORM's CARD OF 'scoutkeep.Spoiled'. -/
def spoiledUptoCard : Claim7 := { stood := { row := spoiledUptoRow, standIns := [], harness := (true, "663e30b3d8ab7c43ccc76dcc24b9052de6c0c55214807cfded47cb28250b3879"), looks := true }, kinds := [], alts := [], goes := true, laidByText := true, laidKinds := [.data, .data, .data, .handle, .sentinel, .sentinel, .sentinel, .sentinel, .sentinel, .sentinel, .sentinel], laidTests := true, laidLooks := .later }
def SpoiledUptoCardSaid : Prop := Claim7.holds Tryz.pinned (.plain (OpenSpec.upto spoiledSpec)) spoiledUptoCard

/-- THE SECOND FORM's CARD OF 'scoutkeep.Found'. -/
def foundUptoCard : Claim7 := { stood := { row := foundUptoRow, standIns := [], harness := (true, "663e30b3d8ab7c43ccc76dcc24b9052de6c0c55214807cfded47cb28250b3879"), looks := true }, kinds := [], alts := [], goes := true, laidByText := true, laidKinds := [.data, .data, .data, .handle, .sentinel, .sentinel, .sentinel, .sentinel, .sentinel, .sentinel, .sentinel], laidTests := true, laidLooks := .later }
def FoundUptoCardSaid : Prop := Claim7.holds Tryz.pinned (.plain (OpenSpec.upto foundSpec)) foundUptoCard

/-- THE SECOND FORM's CARD OF 'scoutkeep.Agree'. -/
def agreeUptoCard : Claim7 := { stood := { row := agreeUptoRow, standIns := [], harness := (true, "663e30b3d8ab7c43ccc76dcc24b9052de6c0c55214807cfded47cb28250b3879"), looks := true }, kinds := [], alts := [], goes := true, laidByText := true, laidKinds := [.data, .data, .data, .handle, .sentinel, .sentinel, .sentinel, .sentinel, .sentinel, .sentinel, .sentinel], laidTests := true, laidLooks := .later }
def AgreeUptoCardSaid : Prop := Claim7.holds Tryz.pinned (.plain (OpenSpec.upto agreeSpec)) agreeUptoCard
end Rows
end Go.Proofs.YtaacjjhmojecnaaGreatDoor
