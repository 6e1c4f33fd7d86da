/-
  DERIVED. GIVEN WITH THE SEED: THE CARDS: each row of YtlppphmnegdhoabGreatDoorRows.lean that lists a variable, with what it lists TIED to the program's text (the seventh form; the later family's looks); each row that meets fmt, with fmt's text TOLD by the authors' own Lean function (tested against real Go, not proved from fmt's source: count such statements apart). THE CARD IS WHAT COUNTS. Prove the row's statement (the work); the ties are given (YtlppphmnegdhoabGreatDoorTie.lean); close each card by the builder's one call (the guide's Derived/Test/ToyasCard.lean, 'card_holds'). Laid BY PROGRAM, IN A SANDBOX (cutbox-door.mjs). By AI agents, Wed Nov 11 2026. No macro, syntax, notation, axiom, sorry.
-/
import Derived.Test.YtlppphmnegdhoabGreatDoorRows
import GoSem.ClaimSeven
namespace Go.Proofs.YtlppphmnegdhoabGreatDoor
namespace Rows

/-- THE TIED CARD OF 'retracelaw.Runs'. -/
def runsCard : Claim7 := { stood := { row := runsRow, standIns := [], harness := (true, "43327ebe05a42b61170e232cedc63b0a0662484517a1d54aad830dfc0731f5d1"), looks := false }, kinds := [], alts := [], laidByText := true, laidKinds := [.data, .data, .data], laidTests := true, laidLooks := .later }
def RunsCardSaid : Prop := Claim7.holds Tryz.pinned (.plain (OpenSpec.ofChange runsSpec)) runsCard

/-- THE TIED CARD OF 'retracekeep.Restored'. -/
def restoredCard : Claim7 := { stood := { row := restoredRow, standIns := [], harness := (true, "43327ebe05a42b61170e232cedc63b0a0662484517a1d54aad830dfc0731f5d1"), looks := false }, kinds := [], alts := [], laidByText := true, laidKinds := [.data, .data, .data], laidTests := true, laidLooks := .later }
def RestoredCardSaid : Prop := Claim7.holds Tryz.pinned (.plain (OpenSpec.ofChange restoredSpec)) restoredCard

/-- THE TIED CARD OF 'retracekeep.Chunked'. -/
def chunkedCard : Claim7 := { stood := { row := chunkedRow, standIns := [], harness := (true, "43327ebe05a42b61170e232cedc63b0a0662484517a1d54aad830dfc0731f5d1"), looks := false }, kinds := [], alts := [], laidByText := true, laidKinds := [.data, .data, .data], laidTests := true, laidLooks := .later }
def ChunkedCardSaid : Prop := Claim7.holds Tryz.pinned (.plain (OpenSpec.ofChange chunkedSpec)) chunkedCard

/-- THE TIED CARD OF 'retracekeep.Prefixed'. -/
def prefixedCard : Claim7 := { stood := { row := prefixedRow, standIns := [], harness := (true, "43327ebe05a42b61170e232cedc63b0a0662484517a1d54aad830dfc0731f5d1"), looks := false }, kinds := [], alts := [], laidByText := true, laidKinds := [.data, .data, .data], laidTests := true, laidLooks := .later }
def PrefixedCardSaid : Prop := Claim7.holds Tryz.pinned (.plain (OpenSpec.ofChange prefixedSpec)) prefixedCard

/-- THE TIED CARD OF 'retracekeep.Swapped'. -/
def swappedCard : Claim7 := { stood := { row := swappedRow, standIns := [], harness := (true, "43327ebe05a42b61170e232cedc63b0a0662484517a1d54aad830dfc0731f5d1"), looks := false }, kinds := [], alts := [], laidByText := true, laidKinds := [.data, .data, .data], laidTests := true, laidLooks := .later }
def SwappedCardSaid : Prop := Claim7.holds Tryz.pinned (.plain (OpenSpec.ofChange swappedSpec)) swappedCard

/-- THE TIED CARD OF 'retracelaw.All'. -/
def allCard : Claim7 := { stood := { row := allRow, standIns := [], harness := (true, "43327ebe05a42b61170e232cedc63b0a0662484517a1d54aad830dfc0731f5d1"), looks := false }, kinds := [], alts := [], laidByText := true, laidKinds := [.data, .data, .data], laidTests := true, laidLooks := .later }
def AllCardSaid : Prop := Claim7.holds Tryz.pinned (.plain (OpenSpec.ofChange allSpec)) allCard

/-- THE SECOND FORM's CARD OF 'retracelaw.Runs'. -/
def runsUptoCard : Claim7 := { stood := { row := runsUptoRow, standIns := [], harness := (true, "43327ebe05a42b61170e232cedc63b0a0662484517a1d54aad830dfc0731f5d1"), looks := false }, kinds := [], alts := [], laidByText := true, laidKinds := [.data, .data, .data], laidTests := true, laidLooks := .later }
def RunsUptoCardSaid : Prop := Claim7.holds Tryz.pinned (.plain (OpenSpec.upto runsSpec)) runsUptoCard

/-- THE SECOND FORM's CARD OF 'retracekeep.Restored'. -/
def restoredUptoCard : Claim7 := { stood := { row := restoredUptoRow, standIns := [], harness := (true, "43327ebe05a42b61170e232cedc63b0a0662484517a1d54aad830dfc0731f5d1"), looks := false }, kinds := [], alts := [], laidByText := true, laidKinds := [.data, .data, .data], laidTests := true, laidLooks := .later }
def RestoredUptoCardSaid : Prop := Claim7.holds Tryz.pinned (.plain (OpenSpec.upto restoredSpec)) restoredUptoCard

/-- THE SECOND FORM's CARD OF 'retracekeep.Chunked'. -/
def chunkedUptoCard : Claim7 := { stood := { row := chunkedUptoRow, standIns := [], harness := (true, "43327ebe05a42b61170e232cedc63b0a0662484517a1d54aad830dfc0731f5d1"), looks := false }, kinds := [], alts := [], laidByText := true, laidKinds := [.data, .data, .data], laidTests := true, laidLooks := .later }
def ChunkedUptoCardSaid : Prop := Claim7.holds Tryz.pinned (.plain (OpenSpec.upto chunkedSpec)) chunkedUptoCard

/-- THE SECOND FORM's CARD OF 'retracekeep.Prefixed'. -/
def prefixedUptoCard : Claim7 := { stood := { row := prefixedUptoRow, standIns := [], harness := (true, "43327ebe05a42b61170e232cedc63b0a0662484517a1d54aad830dfc0731f5d1"), looks := false }, kinds := [], alts := [], laidByText := true, laidKinds := [.data, .data, .data], laidTests := true, laidLooks := .later }
def PrefixedUptoCardSaid : Prop := Claim7.holds Tryz.pinned (.plain (OpenSpec.upto prefixedSpec)) prefixedUptoCard

/-- THE SECOND FORM's CARD OF 'retracekeep.Swapped'. -/
def swappedUptoCard : Claim7 := { stood := { row := swappedUptoRow, standIns := [], harness := (true, "43327ebe05a42b61170e232cedc63b0a0662484517a1d54aad830dfc0731f5d1"), looks := false }, kinds := [], alts := [], laidByText := true, laidKinds := [.data, .data, .data], laidTests := true, laidLooks := .later }
def SwappedUptoCardSaid : Prop := Claim7.holds Tryz.pinned (.plain (OpenSpec.upto swappedSpec)) swappedUptoCard

/-- THE SECOND FORM's CARD OF 'retracelaw.All'. -/
def allUptoCard : Claim7 := { stood := { row := allUptoRow, standIns := [], harness := (true, "43327ebe05a42b61170e232cedc63b0a0662484517a1d54aad830dfc0731f5d1"), looks := false }, kinds := [], alts := [], laidByText := true, laidKinds := [.data, .data, .data], laidTests := true, laidLooks := .later }
def AllUptoCardSaid : Prop := Claim7.holds Tryz.pinned (.plain (OpenSpec.upto allSpec)) allUptoCard
end Rows
end Go.Proofs.YtlppphmnegdhoabGreatDoor
