/-
  DERIVED. GIVEN WITH THE SEED: THE CARDS: each row of YtimjaohhgdkojaaDoorRows.lean that lists a variable, with what it lists TIED to the program's text (the seventh form; the later family's looks); each row that meets fmt, with fmt's text TOLD by the authors' own Lean function (tested against real Go, not proved from fmt's source: count such statements apart). THE CARD IS WHAT COUNTS. Prove the row's statement (the work); the ties are given (YtimjaohhgdkojaaDoorTie.lean); close each card by the builder's one call (the guide's Derived/Test/ToyasCard.lean, 'card_holds'). Laid BY PROGRAM, IN A SANDBOX (cutbox-door.mjs). By AI agents, Wed Nov 11 2026. No macro, syntax, notation, axiom, sorry.
-/
import Derived.Test.YtimjaohhgdkojaaDoorRows
import GoSem.ClaimSeven
namespace Go.Proofs.YtimjaohhgdkojaaDoor
namespace Rows

/-- THE TIED CARD OF 'twinkeeplaw9.EntryRules'. -/
def entryRulesCard : Claim7 := { stood := { row := entryRulesRow, standIns := [], harness := (true, "d70785d5202174c399845083aa87955210fee879a273a85044a099283e78fec4"), looks := false }, kinds := [], alts := [], laidByText := true, laidKinds := [.data], laidTests := true, laidLooks := .later }
def EntryRulesCardSaid : Prop := Claim7.holds Tryd.pinned (.plain (OpenSpec.ofChange entryRulesSpec)) entryRulesCard

/-- THE TIED CARD OF 'twinkeeplaw9.EntryAsks'. -/
def entryAsksCard : Claim7 := { stood := { row := entryAsksRow, standIns := [], harness := (true, "d70785d5202174c399845083aa87955210fee879a273a85044a099283e78fec4"), looks := false }, kinds := [], alts := [], laidByText := true, laidKinds := [.data], laidTests := true, laidLooks := .later }
def EntryAsksCardSaid : Prop := Claim7.holds Tryd.pinned (.plain (OpenSpec.ofChange entryAsksSpec)) entryAsksCard

/-- THE TIED CARD OF 'twinkeeplaw9.EntryBack'. -/
def entryBackCard : Claim7 := { stood := { row := entryBackRow, standIns := [], harness := (true, "d70785d5202174c399845083aa87955210fee879a273a85044a099283e78fec4"), looks := false }, kinds := [], alts := [], laidByText := true, laidKinds := [.data], laidTests := true, laidLooks := .later }
def EntryBackCardSaid : Prop := Claim7.holds Tryd.pinned (.plain (OpenSpec.ofChange entryBackSpec)) entryBackCard

/-- THE TIED CARD OF 'twinkeeplaw9.EntryFolds'. -/
def entryFoldsCard : Claim7 := { stood := { row := entryFoldsRow, standIns := [], harness := (true, "d70785d5202174c399845083aa87955210fee879a273a85044a099283e78fec4"), looks := false }, kinds := [], alts := [], laidByText := true, laidKinds := [.data], laidTests := true, laidLooks := .later }
def EntryFoldsCardSaid : Prop := Claim7.holds Tryd.pinned (.plain (OpenSpec.ofChange entryFoldsSpec)) entryFoldsCard

/-- THE TIED CARD OF 'twinkeeplaw9.EntryTwice'. -/
def entryTwiceCard : Claim7 := { stood := { row := entryTwiceRow, standIns := [], harness := (true, "d70785d5202174c399845083aa87955210fee879a273a85044a099283e78fec4"), looks := false }, kinds := [], alts := [], laidByText := true, laidKinds := [.data], laidTests := true, laidLooks := .later }
def EntryTwiceCardSaid : Prop := Claim7.holds Tryd.pinned (.plain (OpenSpec.ofChange entryTwiceSpec)) entryTwiceCard

/-- THE SECOND FORM's CARD OF 'twinkeeplaw9.EntryRules'. -/
def entryRulesUptoCard : Claim7 := { stood := { row := entryRulesUptoRow, standIns := [], harness := (true, "d70785d5202174c399845083aa87955210fee879a273a85044a099283e78fec4"), looks := false }, kinds := [], alts := [], laidByText := true, laidKinds := [.data], laidTests := true, laidLooks := .later }
def EntryRulesUptoCardSaid : Prop := Claim7.holds Tryd.pinned (.plain (OpenSpec.upto entryRulesSpec)) entryRulesUptoCard

/-- THE SECOND FORM's CARD OF 'twinkeeplaw9.EntryAsks'. -/
def entryAsksUptoCard : Claim7 := { stood := { row := entryAsksUptoRow, standIns := [], harness := (true, "d70785d5202174c399845083aa87955210fee879a273a85044a099283e78fec4"), looks := false }, kinds := [], alts := [], laidByText := true, laidKinds := [.data], laidTests := true, laidLooks := .later }
def EntryAsksUptoCardSaid : Prop := Claim7.holds Tryd.pinned (.plain (OpenSpec.upto entryAsksSpec)) entryAsksUptoCard

/-- THE SECOND FORM's CARD OF 'twinkeeplaw9.EntryBack'. -/
def entryBackUptoCard : Claim7 := { stood := { row := entryBackUptoRow, standIns := [], harness := (true, "d70785d5202174c399845083aa87955210fee879a273a85044a099283e78fec4"), looks := false }, kinds := [], alts := [], laidByText := true, laidKinds := [.data], laidTests := true, laidLooks := .later }
def EntryBackUptoCardSaid : Prop := Claim7.holds Tryd.pinned (.plain (OpenSpec.upto entryBackSpec)) entryBackUptoCard

/-- THE SECOND FORM's CARD OF 'twinkeeplaw9.EntryFolds'. -/
def entryFoldsUptoCard : Claim7 := { stood := { row := entryFoldsUptoRow, standIns := [], harness := (true, "d70785d5202174c399845083aa87955210fee879a273a85044a099283e78fec4"), looks := false }, kinds := [], alts := [], laidByText := true, laidKinds := [.data], laidTests := true, laidLooks := .later }
def EntryFoldsUptoCardSaid : Prop := Claim7.holds Tryd.pinned (.plain (OpenSpec.upto entryFoldsSpec)) entryFoldsUptoCard

/-- THE SECOND FORM's CARD OF 'twinkeeplaw9.EntryTwice'. -/
def entryTwiceUptoCard : Claim7 := { stood := { row := entryTwiceUptoRow, standIns := [], harness := (true, "d70785d5202174c399845083aa87955210fee879a273a85044a099283e78fec4"), looks := false }, kinds := [], alts := [], laidByText := true, laidKinds := [.data], laidTests := true, laidLooks := .later }
def EntryTwiceUptoCardSaid : Prop := Claim7.holds Tryd.pinned (.plain (OpenSpec.upto entryTwiceSpec)) entryTwiceUptoCard
end Rows
end Go.Proofs.YtimjaohhgdkojaaDoor
