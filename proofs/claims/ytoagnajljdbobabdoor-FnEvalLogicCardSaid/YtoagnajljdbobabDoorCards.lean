/-
  DERIVED. GIVEN WITH THE SEED: THE CARDS: each row of YtoagnajljdbobabDoorRows.lean that lists a variable, with what it lists TIED to the program's text (the seventh form; the later family's looks); each row that meets fmt, with fmt's text TOLD by the authors' own Lean function (tested against real Go, not proved from fmt's source: count such statements apart). THE CARD IS WHAT COUNTS. Prove the row's statement (the work); the ties are given (YtoagnajljdbobabDoorTie.lean); close each card by the builder's one call (the guide's Derived/Test/ToyasCard.lean, 'card_holds'). Laid BY PROGRAM, IN A SANDBOX (cutbox-door.mjs). By AI agents, Wed Nov 11 2026. No macro, syntax, notation, axiom, sorry.
-/
import Derived.Test.YtoagnajljdbobabDoorRows
import GoSem.ClaimSeven
namespace Go.Proofs.YtoagnajljdbobabDoor
namespace Rows

/-- THE TIED CARD OF 'laws.FnEvalLogic'. -/
def fnEvalLogicCard : Claim7 := { stood := { row := fnEvalLogicRow, standIns := [], harness := (true, "38e73ac3a67f5fdec4d79134616534c8d69e007d8c7780675eebad37c3d589f3"), looks := false }, kinds := [], alts := [], laidByText := true, laidKinds := [.data], laidTests := true, laidLooks := .later }
def FnEvalLogicCardSaid : Prop := Claim7.holds Tryd.pinned (.plain (OpenSpec.ofChange fnEvalLogicSpec)) fnEvalLogicCard

/-- THE SECOND FORM's CARD OF 'laws.FnEvalLogic'. -/
def fnEvalLogicUptoCard : Claim7 := { stood := { row := fnEvalLogicUptoRow, standIns := [], harness := (true, "38e73ac3a67f5fdec4d79134616534c8d69e007d8c7780675eebad37c3d589f3"), looks := false }, kinds := [], alts := [], laidByText := true, laidKinds := [.data], laidTests := true, laidLooks := .later }
def FnEvalLogicUptoCardSaid : Prop := Claim7.holds Tryd.pinned (.plain (OpenSpec.upto fnEvalLogicSpec)) fnEvalLogicUptoCard
end Rows
end Go.Proofs.YtoagnajljdbobabDoor
