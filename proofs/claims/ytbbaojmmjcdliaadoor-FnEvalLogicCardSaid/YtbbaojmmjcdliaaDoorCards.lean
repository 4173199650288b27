/-
  DERIVED. GIVEN WITH THE SEED: THE CARDS: each row of YtbbaojmmjcdliaaDoorRows.lean that lists a variable, with what it lists TIED to the program's text (the seventh form; the later family's looks); each row that meets fmt, with fmt's text TOLD by the authors' own Lean function (tested against real Go, not proved from fmt's source: count such statements apart). THE CARD IS WHAT COUNTS. Prove the row's statement (the work); the ties are given (YtbbaojmmjcdliaaDoorTie.lean); close each card by the builder's one call (the guide's Derived/Test/ToyasCard.lean, 'card_holds'). Laid BY PROGRAM, IN A SANDBOX (cutbox-door.mjs). By AI agents, Wed Nov 11 2026. No macro, syntax, notation, axiom, sorry.
-/
import Derived.Test.YtbbaojmmjcdliaaDoorRows
import GoSem.ClaimSeven
namespace Go.Proofs.YtbbaojmmjcdliaaDoor
namespace Rows

/-- THE TIED CARD OF 'laws.FnEvalLogic'. -/
def fnEvalLogicCard : Claim7 := { stood := { row := fnEvalLogicRow, standIns := [], harness := (true, "8591b0ada92b76cc0a9d7a53cf9ff5dc3569032f97e62117a746b182260a8e7a"), looks := false }, kinds := [], alts := [], laidByText := true, laidKinds := [.data], laidTests := true, laidLooks := .later }
def FnEvalLogicCardSaid : Prop := Claim7.holds Tryd.pinned (.plain (OpenSpec.ofChange fnEvalLogicSpec)) fnEvalLogicCard

/-- THE TIED CARD OF 'laws.FnLogicTable'. -/
def fnLogicTableCard : Claim7 := { stood := { row := fnLogicTableRow, standIns := [], harness := (true, "8591b0ada92b76cc0a9d7a53cf9ff5dc3569032f97e62117a746b182260a8e7a"), looks := false }, kinds := [], alts := [], laidByText := true, laidKinds := [.data], laidTests := true, laidLooks := .later }
def FnLogicTableCardSaid : Prop := Claim7.holds Tryd.pinned (.plain (OpenSpec.ofChange fnLogicTableSpec)) fnLogicTableCard

/-- THE TIED CARD OF 'laws.FnLogicEquivalent'. -/
def fnLogicEquivalentCard : Claim7 := { stood := { row := fnLogicEquivalentRow, standIns := [], harness := (true, "8591b0ada92b76cc0a9d7a53cf9ff5dc3569032f97e62117a746b182260a8e7a"), looks := false }, kinds := [], alts := [], laidByText := true, laidKinds := [.data], laidTests := true, laidLooks := .later }
def FnLogicEquivalentCardSaid : Prop := Claim7.holds Tryd.pinned (.plain (OpenSpec.ofChange fnLogicEquivalentSpec)) fnLogicEquivalentCard

/-- THE TIED CARD OF 'laws.FnNegateLogic'. -/
def fnNegateLogicCard : Claim7 := { stood := { row := fnNegateLogicRow, standIns := [], harness := (true, "8591b0ada92b76cc0a9d7a53cf9ff5dc3569032f97e62117a746b182260a8e7a"), looks := false }, kinds := [], alts := [], laidByText := true, laidKinds := [.data], laidTests := true, laidLooks := .later }
def FnNegateLogicCardSaid : Prop := Claim7.holds Tryd.pinned (.plain (OpenSpec.ofChange fnNegateLogicSpec)) fnNegateLogicCard

/-- THE TIED CARD OF 'laws.FnUsedBits'. -/
def fnUsedBitsCard : Claim7 := { stood := { row := fnUsedBitsRow, standIns := [], harness := (true, "8591b0ada92b76cc0a9d7a53cf9ff5dc3569032f97e62117a746b182260a8e7a"), looks := false }, kinds := [], alts := [], laidByText := true, laidKinds := [.data], laidTests := true, laidLooks := .later }
def FnUsedBitsCardSaid : Prop := Claim7.holds Tryd.pinned (.plain (OpenSpec.ofChange fnUsedBitsSpec)) fnUsedBitsCard

/-- THE TIED CARD OF 'laws.FnLogicDepends'. -/
def fnLogicDependsCard : Claim7 := { stood := { row := fnLogicDependsRow, standIns := [], harness := (true, "8591b0ada92b76cc0a9d7a53cf9ff5dc3569032f97e62117a746b182260a8e7a"), looks := false }, kinds := [], alts := [], laidByText := true, laidKinds := [.data], laidTests := true, laidLooks := .later }
def FnLogicDependsCardSaid : Prop := Claim7.holds Tryd.pinned (.plain (OpenSpec.ofChange fnLogicDependsSpec)) fnLogicDependsCard

/-- THE TIED CARD OF 'laws.FnExactLogicTable'. -/
def fnExactLogicTableCard : Claim7 := { stood := { row := fnExactLogicTableRow, standIns := [], harness := (true, "8591b0ada92b76cc0a9d7a53cf9ff5dc3569032f97e62117a746b182260a8e7a"), looks := false }, kinds := [], alts := [], laidByText := true, laidKinds := [.data], laidTests := true, laidLooks := .later }
def FnExactLogicTableCardSaid : Prop := Claim7.holds Tryd.pinned (.plain (OpenSpec.ofChange fnExactLogicTableSpec)) fnExactLogicTableCard

/-- THE TIED CARD OF 'laws.FnExactLogicEquivalent'. -/
def fnExactLogicEquivalentCard : Claim7 := { stood := { row := fnExactLogicEquivalentRow, standIns := [], harness := (true, "8591b0ada92b76cc0a9d7a53cf9ff5dc3569032f97e62117a746b182260a8e7a"), looks := false }, kinds := [], alts := [], laidByText := true, laidKinds := [.data], laidTests := true, laidLooks := .later }
def FnExactLogicEquivalentCardSaid : Prop := Claim7.holds Tryd.pinned (.plain (OpenSpec.ofChange fnExactLogicEquivalentSpec)) fnExactLogicEquivalentCard

/-- THE TIED CARD OF 'laws.FnExactLogicDepends'. -/
def fnExactLogicDependsCard : Claim7 := { stood := { row := fnExactLogicDependsRow, standIns := [], harness := (true, "8591b0ada92b76cc0a9d7a53cf9ff5dc3569032f97e62117a746b182260a8e7a"), looks := false }, kinds := [], alts := [], laidByText := true, laidKinds := [.data], laidTests := true, laidLooks := .later }
def FnExactLogicDependsCardSaid : Prop := Claim7.holds Tryd.pinned (.plain (OpenSpec.ofChange fnExactLogicDependsSpec)) fnExactLogicDependsCard

/-- THE SECOND FORM's CARD OF 'laws.FnEvalLogic'. -/
def fnEvalLogicUptoCard : Claim7 := { stood := { row := fnEvalLogicUptoRow, standIns := [], harness := (true, "8591b0ada92b76cc0a9d7a53cf9ff5dc3569032f97e62117a746b182260a8e7a"), looks := false }, kinds := [], alts := [], laidByText := true, laidKinds := [.data], laidTests := true, laidLooks := .later }
def FnEvalLogicUptoCardSaid : Prop := Claim7.holds Tryd.pinned (.plain (OpenSpec.upto fnEvalLogicSpec)) fnEvalLogicUptoCard

/-- THE SECOND FORM's CARD OF 'laws.FnLogicTable'. -/
def fnLogicTableUptoCard : Claim7 := { stood := { row := fnLogicTableUptoRow, standIns := [], harness := (true, "8591b0ada92b76cc0a9d7a53cf9ff5dc3569032f97e62117a746b182260a8e7a"), looks := false }, kinds := [], alts := [], laidByText := true, laidKinds := [.data], laidTests := true, laidLooks := .later }
def FnLogicTableUptoCardSaid : Prop := Claim7.holds Tryd.pinned (.plain (OpenSpec.upto fnLogicTableSpec)) fnLogicTableUptoCard

/-- THE SECOND FORM's CARD OF 'laws.FnLogicEquivalent'. -/
def fnLogicEquivalentUptoCard : Claim7 := { stood := { row := fnLogicEquivalentUptoRow, standIns := [], harness := (true, "8591b0ada92b76cc0a9d7a53cf9ff5dc3569032f97e62117a746b182260a8e7a"), looks := false }, kinds := [], alts := [], laidByText := true, laidKinds := [.data], laidTests := true, laidLooks := .later }
def FnLogicEquivalentUptoCardSaid : Prop := Claim7.holds Tryd.pinned (.plain (OpenSpec.upto fnLogicEquivalentSpec)) fnLogicEquivalentUptoCard

/-- THE SECOND FORM's CARD OF 'laws.FnNegateLogic'. -/
def fnNegateLogicUptoCard : Claim7 := { stood := { row := fnNegateLogicUptoRow, standIns := [], harness := (true, "8591b0ada92b76cc0a9d7a53cf9ff5dc3569032f97e62117a746b182260a8e7a"), looks := false }, kinds := [], alts := [], laidByText := true, laidKinds := [.data], laidTests := true, laidLooks := .later }
def FnNegateLogicUptoCardSaid : Prop := Claim7.holds Tryd.pinned (.plain (OpenSpec.upto fnNegateLogicSpec)) fnNegateLogicUptoCard

/-- THE SECOND FORM's CARD OF 'laws.FnUsedBits'. -/
def fnUsedBitsUptoCard : Claim7 := { stood := { row := fnUsedBitsUptoRow, standIns := [], harness := (true, "8591b0ada92b76cc0a9d7a53cf9ff5dc3569032f97e62117a746b182260a8e7a"), looks := false }, kinds := [], alts := [], laidByText := true, laidKinds := [.data], laidTests := true, laidLooks := .later }
def FnUsedBitsUptoCardSaid : Prop := Claim7.holds Tryd.pinned (.plain (OpenSpec.upto fnUsedBitsSpec)) fnUsedBitsUptoCard

/-- THE SECOND FORM's CARD OF 'laws.FnLogicDepends'. -/
def fnLogicDependsUptoCard : Claim7 := { stood := { row := fnLogicDependsUptoRow, standIns := [], harness := (true, "8591b0ada92b76cc0a9d7a53cf9ff5dc3569032f97e62117a746b182260a8e7a"), looks := false }, kinds := [], alts := [], laidByText := true, laidKinds := [.data], laidTests := true, laidLooks := .later }
def FnLogicDependsUptoCardSaid : Prop := Claim7.holds Tryd.pinned (.plain (OpenSpec.upto fnLogicDependsSpec)) fnLogicDependsUptoCard

/-- THE SECOND FORM's CARD OF 'laws.FnExactLogicTable'. -/
def fnExactLogicTableUptoCard : Claim7 := { stood := { row := fnExactLogicTableUptoRow, standIns := [], harness := (true, "8591b0ada92b76cc0a9d7a53cf9ff5dc3569032f97e62117a746b182260a8e7a"), looks := false }, kinds := [], alts := [], laidByText := true, laidKinds := [.data], laidTests := true, laidLooks := .later }
def FnExactLogicTableUptoCardSaid : Prop := Claim7.holds Tryd.pinned (.plain (OpenSpec.upto fnExactLogicTableSpec)) fnExactLogicTableUptoCard

/-- THE SECOND FORM's CARD OF 'laws.FnExactLogicEquivalent'. -/
def fnExactLogicEquivalentUptoCard : Claim7 := { stood := { row := fnExactLogicEquivalentUptoRow, standIns := [], harness := (true, "8591b0ada92b76cc0a9d7a53cf9ff5dc3569032f97e62117a746b182260a8e7a"), looks := false }, kinds := [], alts := [], laidByText := true, laidKinds := [.data], laidTests := true, laidLooks := .later }
def FnExactLogicEquivalentUptoCardSaid : Prop := Claim7.holds Tryd.pinned (.plain (OpenSpec.upto fnExactLogicEquivalentSpec)) fnExactLogicEquivalentUptoCard

/-- THE SECOND FORM's CARD OF 'laws.FnExactLogicDepends'. -/
def fnExactLogicDependsUptoCard : Claim7 := { stood := { row := fnExactLogicDependsUptoRow, standIns := [], harness := (true, "8591b0ada92b76cc0a9d7a53cf9ff5dc3569032f97e62117a746b182260a8e7a"), looks := false }, kinds := [], alts := [], laidByText := true, laidKinds := [.data], laidTests := true, laidLooks := .later }
def FnExactLogicDependsUptoCardSaid : Prop := Claim7.holds Tryd.pinned (.plain (OpenSpec.upto fnExactLogicDependsSpec)) fnExactLogicDependsUptoCard
end Rows
end Go.Proofs.YtbbaojmmjcdliaaDoor
