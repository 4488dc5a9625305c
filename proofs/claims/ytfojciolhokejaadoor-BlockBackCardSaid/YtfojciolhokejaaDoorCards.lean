/-
  DERIVED. GIVEN WITH THE SEED: THE CARDS: each row of YtfojciolhokejaaDoorRows.lean that lists a variable, with what it lists TIED to the program's text (the seventh form; the later family's looks); each row that meets fmt, with fmt's text TOLD by the authors' own Lean function (tested against real Go, not proved from fmt's source: count such statements apart). THE CARD IS WHAT COUNTS. Prove the row's statement (the work); the ties are given (YtfojciolhokejaaDoorTie.lean); close each card by the builder's one call (the guide's Derived/Test/ToyasCard.lean, 'card_holds'). Laid BY PROGRAM, IN A SANDBOX (cutbox-door.mjs). By AI agents, Wed Nov 11 2026. No macro, syntax, notation, axiom, sorry.
-/
import Derived.Test.YtfojciolhokejaaDoorRows
import GoSem.ClaimSeven
namespace Go.Proofs.YtfojciolhokejaaDoor
namespace Rows

/-- THE TIED CARD OF 'twinkeeplaw6.BlockAsks'. -/
def blockAsksCard : Claim7 := { stood := { row := blockAsksRow, standIns := [], harness := (true, "d777af8b71bbd17aece77c69aad21a5ec20b14d9c5f1f8cf413d9b73e064b6fa"), looks := false }, kinds := [], alts := [], laidByText := true, laidKinds := [.data], laidTests := true, laidLooks := .later }
def BlockAsksCardSaid : Prop := Claim7.holds Tryd.pinned (.plain (OpenSpec.ofChange blockAsksSpec)) blockAsksCard

/-- THE TIED CARD OF 'twinkeeplaw6.BlockBack'. -/
def blockBackCard : Claim7 := { stood := { row := blockBackRow, standIns := [], harness := (true, "d777af8b71bbd17aece77c69aad21a5ec20b14d9c5f1f8cf413d9b73e064b6fa"), looks := false }, kinds := [], alts := [], laidByText := true, laidKinds := [.data], laidTests := true, laidLooks := .later }
def BlockBackCardSaid : Prop := Claim7.holds Tryd.pinned (.plain (OpenSpec.ofChange blockBackSpec)) blockBackCard

/-- THE TIED CARD OF 'twinkeeplaw6.BlockSteady'. -/
def blockSteadyCard : Claim7 := { stood := { row := blockSteadyRow, standIns := [], harness := (true, "d777af8b71bbd17aece77c69aad21a5ec20b14d9c5f1f8cf413d9b73e064b6fa"), looks := false }, kinds := [], alts := [], laidByText := true, laidKinds := [.data], laidTests := true, laidLooks := .later }
def BlockSteadyCardSaid : Prop := Claim7.holds Tryd.pinned (.plain (OpenSpec.ofChange blockSteadySpec)) blockSteadyCard

/-- THE TIED CARD OF 'twinkeeplaw6.BlockReads'. -/
def blockReadsCard : Claim7 := { stood := { row := blockReadsRow, standIns := [], harness := (true, "d777af8b71bbd17aece77c69aad21a5ec20b14d9c5f1f8cf413d9b73e064b6fa"), looks := false }, kinds := [], alts := [], laidByText := true, laidKinds := [.data], laidTests := true, laidLooks := .later }
def BlockReadsCardSaid : Prop := Claim7.holds Tryd.pinned (.plain (OpenSpec.ofChange blockReadsSpec)) blockReadsCard

/-- THE TIED CARD OF 'twinkeeplaw6.BlockBounds'. -/
def blockBoundsCard : Claim7 := { stood := { row := blockBoundsRow, standIns := [], harness := (true, "d777af8b71bbd17aece77c69aad21a5ec20b14d9c5f1f8cf413d9b73e064b6fa"), looks := false }, kinds := [], alts := [], laidByText := true, laidKinds := [.data], laidTests := true, laidLooks := .later }
def BlockBoundsCardSaid : Prop := Claim7.holds Tryd.pinned (.plain (OpenSpec.ofChange blockBoundsSpec)) blockBoundsCard

/-- THE SECOND FORM's CARD OF 'twinkeeplaw6.BlockAsks'. -/
def blockAsksUptoCard : Claim7 := { stood := { row := blockAsksUptoRow, standIns := [], harness := (true, "d777af8b71bbd17aece77c69aad21a5ec20b14d9c5f1f8cf413d9b73e064b6fa"), looks := false }, kinds := [], alts := [], laidByText := true, laidKinds := [.data], laidTests := true, laidLooks := .later }
def BlockAsksUptoCardSaid : Prop := Claim7.holds Tryd.pinned (.plain (OpenSpec.upto blockAsksSpec)) blockAsksUptoCard

/-- THE SECOND FORM's CARD OF 'twinkeeplaw6.BlockBack'. -/
def blockBackUptoCard : Claim7 := { stood := { row := blockBackUptoRow, standIns := [], harness := (true, "d777af8b71bbd17aece77c69aad21a5ec20b14d9c5f1f8cf413d9b73e064b6fa"), looks := false }, kinds := [], alts := [], laidByText := true, laidKinds := [.data], laidTests := true, laidLooks := .later }
def BlockBackUptoCardSaid : Prop := Claim7.holds Tryd.pinned (.plain (OpenSpec.upto blockBackSpec)) blockBackUptoCard

/-- THE SECOND FORM's CARD OF 'twinkeeplaw6.BlockSteady'. -/
def blockSteadyUptoCard : Claim7 := { stood := { row := blockSteadyUptoRow, standIns := [], harness := (true, "d777af8b71bbd17aece77c69aad21a5ec20b14d9c5f1f8cf413d9b73e064b6fa"), looks := false }, kinds := [], alts := [], laidByText := true, laidKinds := [.data], laidTests := true, laidLooks := .later }
def BlockSteadyUptoCardSaid : Prop := Claim7.holds Tryd.pinned (.plain (OpenSpec.upto blockSteadySpec)) blockSteadyUptoCard

/-- THE SECOND FORM's CARD OF 'twinkeeplaw6.BlockReads'. -/
def blockReadsUptoCard : Claim7 := { stood := { row := blockReadsUptoRow, standIns := [], harness := (true, "d777af8b71bbd17aece77c69aad21a5ec20b14d9c5f1f8cf413d9b73e064b6fa"), looks := false }, kinds := [], alts := [], laidByText := true, laidKinds := [.data], laidTests := true, laidLooks := .later }
def BlockReadsUptoCardSaid : Prop := Claim7.holds Tryd.pinned (.plain (OpenSpec.upto blockReadsSpec)) blockReadsUptoCard

/-- THE SECOND FORM's CARD OF 'twinkeeplaw6.BlockBounds'. -/
def blockBoundsUptoCard : Claim7 := { stood := { row := blockBoundsUptoRow, standIns := [], harness := (true, "d777af8b71bbd17aece77c69aad21a5ec20b14d9c5f1f8cf413d9b73e064b6fa"), looks := false }, kinds := [], alts := [], laidByText := true, laidKinds := [.data], laidTests := true, laidLooks := .later }
def BlockBoundsUptoCardSaid : Prop := Claim7.holds Tryd.pinned (.plain (OpenSpec.upto blockBoundsSpec)) blockBoundsUptoCard
end Rows
end Go.Proofs.YtfojciolhokejaaDoor
