/-
  DERIVED. GIVEN WITH THE SEED: THE CARDS: each row of YtaifocfnkhgpoaaDoorRows.lean that lists a variable, with what it lists TIED to the program's text (the seventh form; the later family's looks); each row that meets fmt, with fmt's text TOLD by the authors' own Lean function (tested against real Go, not proved from fmt's source: count such statements apart). THE CARD IS WHAT COUNTS. Prove the row's statement (the work); the ties are given (YtaifocfnkhgpoaaDoorTie.lean); close each card by the builder's one call (the guide's Derived/Test/ToyasCard.lean, 'card_holds'). Laid BY PROGRAM, IN A SANDBOX (cutbox-door.mjs). By AI agents, Wed Nov 11 2026. No macro, syntax, notation, axiom, sorry.
-/
import Derived.Test.YtaifocfnkhgpoaaDoorRows
import GoSem.ClaimSeven
namespace Go.Proofs.YtaifocfnkhgpoaaDoor
namespace Rows

/-- THE TIED CARD OF 'binnaclelaw01.VintBytes'. -/
def vintBytesCard : Claim7 := { stood := { row := vintBytesRow, standIns := [], harness := (true, "75f866614a47f8ce59fbea08ac6db08d6939b7b0d6bbbd162280ecef98c5dada"), looks := false }, kinds := [], alts := [], laidByText := true, laidKinds := [.data, .data], laidTests := true, laidLooks := .later }
def VintBytesCardSaid : Prop := Claim7.holds Tryd.pinned (.plain (OpenSpec.ofChange vintBytesSpec)) vintBytesCard

/-- THE TIED CARD OF 'binnaclelaw01.VintTakes'. -/
def vintTakesCard : Claim7 := { stood := { row := vintTakesRow, standIns := [], harness := (true, "75f866614a47f8ce59fbea08ac6db08d6939b7b0d6bbbd162280ecef98c5dada"), looks := false }, kinds := [], alts := [], laidByText := true, laidKinds := [.data, .data], laidTests := true, laidLooks := .later }
def VintTakesCardSaid : Prop := Claim7.holds Tryd.pinned (.plain (OpenSpec.ofChange vintTakesSpec)) vintTakesCard

/-- THE TIED CARD OF 'binnaclelaw01.VintReads'. -/
def vintReadsCard : Claim7 := { stood := { row := vintReadsRow, standIns := [], harness := (true, "75f866614a47f8ce59fbea08ac6db08d6939b7b0d6bbbd162280ecef98c5dada"), looks := false }, kinds := [], alts := [], laidByText := true, laidKinds := [.data, .data], laidTests := true, laidLooks := .later }
def VintReadsCardSaid : Prop := Claim7.holds Tryd.pinned (.plain (OpenSpec.ofChange vintReadsSpec)) vintReadsCard

/-- THE TIED CARD OF 'binnaclelaw01.VintWrites'. -/
def vintWritesCard : Claim7 := { stood := { row := vintWritesRow, standIns := [], harness := (true, "75f866614a47f8ce59fbea08ac6db08d6939b7b0d6bbbd162280ecef98c5dada"), looks := false }, kinds := [], alts := [], laidByText := true, laidKinds := [.data, .data], laidTests := true, laidLooks := .later }
def VintWritesCardSaid : Prop := Claim7.holds Tryd.pinned (.plain (OpenSpec.ofChange vintWritesSpec)) vintWritesCard

/-- THE TIED CARD OF 'binnaclelaw01.VintNone'. -/
def vintNoneCard : Claim7 := { stood := { row := vintNoneRow, standIns := [], harness := (true, "75f866614a47f8ce59fbea08ac6db08d6939b7b0d6bbbd162280ecef98c5dada"), looks := false }, kinds := [], alts := [], laidByText := true, laidKinds := [.data, .data], laidTests := true, laidLooks := .later }
def VintNoneCardSaid : Prop := Claim7.holds Tryd.pinned (.plain (OpenSpec.ofChange vintNoneSpec)) vintNoneCard

/-- THE SECOND FORM's CARD OF 'binnaclelaw01.VintBytes'. -/
def vintBytesUptoCard : Claim7 := { stood := { row := vintBytesUptoRow, standIns := [], harness := (true, "75f866614a47f8ce59fbea08ac6db08d6939b7b0d6bbbd162280ecef98c5dada"), looks := false }, kinds := [], alts := [], laidByText := true, laidKinds := [.data, .data], laidTests := true, laidLooks := .later }
def VintBytesUptoCardSaid : Prop := Claim7.holds Tryd.pinned (.plain (OpenSpec.upto vintBytesSpec)) vintBytesUptoCard

/-- THE SECOND FORM's CARD OF 'binnaclelaw01.VintTakes'. -/
def vintTakesUptoCard : Claim7 := { stood := { row := vintTakesUptoRow, standIns := [], harness := (true, "75f866614a47f8ce59fbea08ac6db08d6939b7b0d6bbbd162280ecef98c5dada"), looks := false }, kinds := [], alts := [], laidByText := true, laidKinds := [.data, .data], laidTests := true, laidLooks := .later }
def VintTakesUptoCardSaid : Prop := Claim7.holds Tryd.pinned (.plain (OpenSpec.upto vintTakesSpec)) vintTakesUptoCard

/-- THE SECOND FORM's CARD OF 'binnaclelaw01.VintReads'. -/
def vintReadsUptoCard : Claim7 := { stood := { row := vintReadsUptoRow, standIns := [], harness := (true, "75f866614a47f8ce59fbea08ac6db08d6939b7b0d6bbbd162280ecef98c5dada"), looks := false }, kinds := [], alts := [], laidByText := true, laidKinds := [.data, .data], laidTests := true, laidLooks := .later }
def VintReadsUptoCardSaid : Prop := Claim7.holds Tryd.pinned (.plain (OpenSpec.upto vintReadsSpec)) vintReadsUptoCard

/-- THE SECOND FORM's CARD OF 'binnaclelaw01.VintWrites'. -/
def vintWritesUptoCard : Claim7 := { stood := { row := vintWritesUptoRow, standIns := [], harness := (true, "75f866614a47f8ce59fbea08ac6db08d6939b7b0d6bbbd162280ecef98c5dada"), looks := false }, kinds := [], alts := [], laidByText := true, laidKinds := [.data, .data], laidTests := true, laidLooks := .later }
def VintWritesUptoCardSaid : Prop := Claim7.holds Tryd.pinned (.plain (OpenSpec.upto vintWritesSpec)) vintWritesUptoCard

/-- THE SECOND FORM's CARD OF 'binnaclelaw01.VintNone'. -/
def vintNoneUptoCard : Claim7 := { stood := { row := vintNoneUptoRow, standIns := [], harness := (true, "75f866614a47f8ce59fbea08ac6db08d6939b7b0d6bbbd162280ecef98c5dada"), looks := false }, kinds := [], alts := [], laidByText := true, laidKinds := [.data, .data], laidTests := true, laidLooks := .later }
def VintNoneUptoCardSaid : Prop := Claim7.holds Tryd.pinned (.plain (OpenSpec.upto vintNoneSpec)) vintNoneUptoCard
end Rows
end Go.Proofs.YtaifocfnkhgpoaaDoor
