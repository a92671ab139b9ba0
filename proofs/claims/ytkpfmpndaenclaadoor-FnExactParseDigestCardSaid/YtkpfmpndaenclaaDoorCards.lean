/-
  DERIVED. GIVEN WITH THE SEED: THE CARDS: each row of YtkpfmpndaenclaaDoorRows.lean that lists a variable, with what it lists TIED to the program's text (the seventh form; the later family's looks); each row that meets fmt, with fmt's text TOLD by the authors' own Lean function (tested against real Go, not proved from fmt's source: count such statements apart). THE CARD IS WHAT COUNTS. Prove the row's statement (the work); the ties are given (YtkpfmpndaenclaaDoorTie.lean); close each card by the builder's one call (the guide's Derived/Test/ToyasCard.lean, 'card_holds'). Laid BY PROGRAM, IN A SANDBOX (cutbox-door.mjs). By AI agents, Wed Nov 11 2026. No macro, syntax, notation, axiom, sorry.
-/
import Derived.Test.YtkpfmpndaenclaaDoorRows
import GoSem.ClaimSeven
namespace Go.Proofs.YtkpfmpndaenclaaDoor
namespace Rows

/-- THE TIED CARD OF 'laws.FnExactDigestText'. -/
def fnExactDigestTextCard : Claim7 := { stood := { row := fnExactDigestTextRow, standIns := [], harness := (true, "9e0327a615a97c6cde369ed0fbb589c8c4579ce8e67a3d83647ac20a9af505a4"), looks := true }, kinds := [], alts := [], laidByText := true, laidKinds := [.data, .data, .data], laidTests := true, laidLooks := .later }
def FnExactDigestTextCardSaid : Prop := Claim7.holds Tryd.pinned (.plain (OpenSpec.ofChange fnExactDigestTextSpec)) fnExactDigestTextCard

/-- THE TIED CARD OF 'laws.FnExactParseDigest'. -/
def fnExactParseDigestCard : Claim7 := { stood := { row := fnExactParseDigestRow, standIns := [], harness := (true, "9e0327a615a97c6cde369ed0fbb589c8c4579ce8e67a3d83647ac20a9af505a4"), looks := true }, kinds := [], alts := [], laidByText := true, laidKinds := [.data, .data, .data, .sentinel, .sentinel], laidTests := true, laidLooks := .later }
def FnExactParseDigestCardSaid : Prop := Claim7.holds Tryd.pinned (.plain (OpenSpec.ofChange fnExactParseDigestSpec)) fnExactParseDigestCard

/-- THE TIED CARD OF 'laws.FnHashes'. -/
def fnHashesCard : Claim7 := { stood := { row := fnHashesRow, standIns := [], harness := (true, "9e0327a615a97c6cde369ed0fbb589c8c4579ce8e67a3d83647ac20a9af505a4"), looks := true }, kinds := [], alts := [], laidByText := true, laidKinds := [.data, .data, .data, .sentinel, .sentinel], laidTests := true, laidLooks := .later }
def FnHashesCardSaid : Prop := Claim7.holds Tryd.pinned (.plain (OpenSpec.ofChange fnHashesSpec)) fnHashesCard

/-- THE SECOND FORM's CARD OF 'laws.FnExactDigestText'. -/
def fnExactDigestTextUptoCard : Claim7 := { stood := { row := fnExactDigestTextUptoRow, standIns := [], harness := (true, "9e0327a615a97c6cde369ed0fbb589c8c4579ce8e67a3d83647ac20a9af505a4"), looks := true }, kinds := [], alts := [], laidByText := true, laidKinds := [.data, .data, .data], laidTests := true, laidLooks := .later }
def FnExactDigestTextUptoCardSaid : Prop := Claim7.holds Tryd.pinned (.plain (OpenSpec.upto fnExactDigestTextSpec)) fnExactDigestTextUptoCard

/-- THE SECOND FORM's CARD OF 'laws.FnExactParseDigest'. -/
def fnExactParseDigestUptoCard : Claim7 := { stood := { row := fnExactParseDigestUptoRow, standIns := [], harness := (true, "9e0327a615a97c6cde369ed0fbb589c8c4579ce8e67a3d83647ac20a9af505a4"), looks := true }, kinds := [], alts := [], laidByText := true, laidKinds := [.data, .data, .data, .sentinel, .sentinel], laidTests := true, laidLooks := .later }
def FnExactParseDigestUptoCardSaid : Prop := Claim7.holds Tryd.pinned (.plain (OpenSpec.upto fnExactParseDigestSpec)) fnExactParseDigestUptoCard

/-- THE SECOND FORM's CARD OF 'laws.FnHashes'. -/
def fnHashesUptoCard : Claim7 := { stood := { row := fnHashesUptoRow, standIns := [], harness := (true, "9e0327a615a97c6cde369ed0fbb589c8c4579ce8e67a3d83647ac20a9af505a4"), looks := true }, kinds := [], alts := [], laidByText := true, laidKinds := [.data, .data, .data, .sentinel, .sentinel], laidTests := true, laidLooks := .later }
def FnHashesUptoCardSaid : Prop := Claim7.holds Tryd.pinned (.plain (OpenSpec.upto fnHashesSpec)) fnHashesUptoCard
end Rows
end Go.Proofs.YtkpfmpndaenclaaDoor
