/-
  DERIVED. GIVEN WITH THE SEED: THE CARDS: each row of YtaepbmcmggnmpaaDoorRows.lean that lists a variable, with what it lists TIED to the program's text (the seventh form; the later family's looks); each row that meets fmt, with fmt's text TOLD by the authors' own Lean function (tested against real Go, not proved from fmt's source: count such statements apart). THE CARD IS WHAT COUNTS. Prove the row's statement (the work); the ties are given (YtaepbmcmggnmpaaDoorTie.lean); close each card by the builder's one call (the guide's Derived/Test/ToyasCard.lean, 'card_holds'). Laid BY PROGRAM, IN A SANDBOX (cutbox-door.mjs). By AI agents, Wed Nov 11 2026. No macro, syntax, notation, axiom, sorry.
-/
import Derived.Test.YtaepbmcmggnmpaaDoorRows
import GoSem.ClaimSeven
namespace Go.Proofs.YtaepbmcmggnmpaaDoor
namespace Rows

/-- THE TIED CARD OF 'concordancelaw05.PageEncodes'. -/
def pageEncodesCard : Claim7 := { stood := { row := pageEncodesRow, standIns := [], harness := (true, "5ef1b2a886ae097749390379fc903854380bff66930f482aaea40a8b50eaca56"), looks := false }, kinds := [], alts := [], laidByText := true, laidKinds := [.data, .data, .pinned], laidTests := true, laidLooks := .later }
def PageEncodesCardSaid : Prop := Claim7.holds Tryd.pinned (.plain (OpenSpec.ofChange pageEncodesSpec)) pageEncodesCard

/-- THE TIED CARD OF 'concordancelaw05.PageDecodes'. -/
def pageDecodesCard : Claim7 := { stood := { row := pageDecodesRow, standIns := [], harness := (true, "5ef1b2a886ae097749390379fc903854380bff66930f482aaea40a8b50eaca56"), looks := false }, kinds := [], alts := [], laidByText := true, laidKinds := [.data, .data, .pinned], laidTests := true, laidLooks := .later }
def PageDecodesCardSaid : Prop := Claim7.holds Tryd.pinned (.plain (OpenSpec.ofChange pageDecodesSpec)) pageDecodesCard

/-- THE TIED CARD OF 'concordancelaw05.PageBuilds'. -/
def pageBuildsCard : Claim7 := { stood := { row := pageBuildsRow, standIns := [], harness := (true, "5ef1b2a886ae097749390379fc903854380bff66930f482aaea40a8b50eaca56"), looks := false }, kinds := [], alts := [], laidByText := true, laidKinds := [.data, .data, .pinned], laidTests := true, laidLooks := .later }
def PageBuildsCardSaid : Prop := Claim7.holds Tryd.pinned (.plain (OpenSpec.ofChange pageBuildsSpec)) pageBuildsCard

/-- THE TIED CARD OF 'concordancelaw05.PageSpoilt'. -/
def pageSpoiltCard : Claim7 := { stood := { row := pageSpoiltRow, standIns := [], harness := (true, "5ef1b2a886ae097749390379fc903854380bff66930f482aaea40a8b50eaca56"), looks := false }, kinds := [], alts := [], laidByText := true, laidKinds := [.data, .data, .pinned], laidTests := true, laidLooks := .later }
def PageSpoiltCardSaid : Prop := Claim7.holds Tryd.pinned (.plain (OpenSpec.ofChange pageSpoiltSpec)) pageSpoiltCard

/-- THE TIED CARD OF 'concordancelaw05.PageHalves'. -/
def pageHalvesCard : Claim7 := { stood := { row := pageHalvesRow, standIns := [], harness := (true, "5ef1b2a886ae097749390379fc903854380bff66930f482aaea40a8b50eaca56"), looks := false }, kinds := [], alts := [], laidByText := true, laidKinds := [.data, .data, .pinned], laidTests := true, laidLooks := .later }
def PageHalvesCardSaid : Prop := Claim7.holds Tryd.pinned (.plain (OpenSpec.ofChange pageHalvesSpec)) pageHalvesCard

/-- THE TIED CARD OF 'concordancelaw05.PageApart'. -/
def pageApartCard : Claim7 := { stood := { row := pageApartRow, standIns := [], harness := (true, "5ef1b2a886ae097749390379fc903854380bff66930f482aaea40a8b50eaca56"), looks := false }, kinds := [], alts := [], laidByText := true, laidKinds := [.data, .data, .pinned], laidTests := true, laidLooks := .later }
def PageApartCardSaid : Prop := Claim7.holds Tryd.pinned (.plain (OpenSpec.ofChange pageApartSpec)) pageApartCard

/-- THE TIED CARD OF 'concordancetop.TopOrdered'. -/
def topOrderedCard : Claim7 := { stood := { row := topOrderedRow, standIns := [], harness := (true, "5ef1b2a886ae097749390379fc903854380bff66930f482aaea40a8b50eaca56"), looks := false }, kinds := [], alts := [], laidByText := true, laidKinds := [.data, .data, .pinned], laidTests := true, laidLooks := .later }
def TopOrderedCardSaid : Prop := Claim7.holds Tryd.pinned (.plain (OpenSpec.ofChange topOrderedSpec)) topOrderedCard

/-- THE TIED CARD OF 'concordancetop.TopPatched'. -/
def topPatchedCard : Claim7 := { stood := { row := topPatchedRow, standIns := [], harness := (true, "5ef1b2a886ae097749390379fc903854380bff66930f482aaea40a8b50eaca56"), looks := false }, kinds := [], alts := [], laidByText := true, laidKinds := [.data, .data, .pinned], laidTests := true, laidLooks := .later }
def TopPatchedCardSaid : Prop := Claim7.holds Tryd.pinned (.plain (OpenSpec.ofChange topPatchedSpec)) topPatchedCard

/-- THE SECOND FORM's CARD OF 'concordancelaw05.PageEncodes'. -/
def pageEncodesUptoCard : Claim7 := { stood := { row := pageEncodesUptoRow, standIns := [], harness := (true, "5ef1b2a886ae097749390379fc903854380bff66930f482aaea40a8b50eaca56"), looks := false }, kinds := [], alts := [], laidByText := true, laidKinds := [.data, .data, .pinned], laidTests := true, laidLooks := .later }
def PageEncodesUptoCardSaid : Prop := Claim7.holds Tryd.pinned (.plain (OpenSpec.upto pageEncodesSpec)) pageEncodesUptoCard

/-- THE SECOND FORM's CARD OF 'concordancelaw05.PageDecodes'. -/
def pageDecodesUptoCard : Claim7 := { stood := { row := pageDecodesUptoRow, standIns := [], harness := (true, "5ef1b2a886ae097749390379fc903854380bff66930f482aaea40a8b50eaca56"), looks := false }, kinds := [], alts := [], laidByText := true, laidKinds := [.data, .data, .pinned], laidTests := true, laidLooks := .later }
def PageDecodesUptoCardSaid : Prop := Claim7.holds Tryd.pinned (.plain (OpenSpec.upto pageDecodesSpec)) pageDecodesUptoCard

/-- THE SECOND FORM's CARD OF 'concordancelaw05.PageBuilds'. -/
def pageBuildsUptoCard : Claim7 := { stood := { row := pageBuildsUptoRow, standIns := [], harness := (true, "5ef1b2a886ae097749390379fc903854380bff66930f482aaea40a8b50eaca56"), looks := false }, kinds := [], alts := [], laidByText := true, laidKinds := [.data, .data, .pinned], laidTests := true, laidLooks := .later }
def PageBuildsUptoCardSaid : Prop := Claim7.holds Tryd.pinned (.plain (OpenSpec.upto pageBuildsSpec)) pageBuildsUptoCard

/-- THE SECOND FORM's CARD OF 'concordancelaw05.PageSpoilt'. -/
def pageSpoiltUptoCard : Claim7 := { stood := { row := pageSpoiltUptoRow, standIns := [], harness := (true, "5ef1b2a886ae097749390379fc903854380bff66930f482aaea40a8b50eaca56"), looks := false }, kinds := [], alts := [], laidByText := true, laidKinds := [.data, .data, .pinned], laidTests := true, laidLooks := .later }
def PageSpoiltUptoCardSaid : Prop := Claim7.holds Tryd.pinned (.plain (OpenSpec.upto pageSpoiltSpec)) pageSpoiltUptoCard

/-- THE SECOND FORM's CARD OF 'concordancelaw05.PageHalves'. -/
def pageHalvesUptoCard : Claim7 := { stood := { row := pageHalvesUptoRow, standIns := [], harness := (true, "5ef1b2a886ae097749390379fc903854380bff66930f482aaea40a8b50eaca56"), looks := false }, kinds := [], alts := [], laidByText := true, laidKinds := [.data, .data, .pinned], laidTests := true, laidLooks := .later }
def PageHalvesUptoCardSaid : Prop := Claim7.holds Tryd.pinned (.plain (OpenSpec.upto pageHalvesSpec)) pageHalvesUptoCard

/-- THE SECOND FORM's CARD OF 'concordancelaw05.PageApart'. -/
def pageApartUptoCard : Claim7 := { stood := { row := pageApartUptoRow, standIns := [], harness := (true, "5ef1b2a886ae097749390379fc903854380bff66930f482aaea40a8b50eaca56"), looks := false }, kinds := [], alts := [], laidByText := true, laidKinds := [.data, .data, .pinned], laidTests := true, laidLooks := .later }
def PageApartUptoCardSaid : Prop := Claim7.holds Tryd.pinned (.plain (OpenSpec.upto pageApartSpec)) pageApartUptoCard

/-- THE SECOND FORM's CARD OF 'concordancetop.TopOrdered'. -/
def topOrderedUptoCard : Claim7 := { stood := { row := topOrderedUptoRow, standIns := [], harness := (true, "5ef1b2a886ae097749390379fc903854380bff66930f482aaea40a8b50eaca56"), looks := false }, kinds := [], alts := [], laidByText := true, laidKinds := [.data, .data, .pinned], laidTests := true, laidLooks := .later }
def TopOrderedUptoCardSaid : Prop := Claim7.holds Tryd.pinned (.plain (OpenSpec.upto topOrderedSpec)) topOrderedUptoCard

/-- THE SECOND FORM's CARD OF 'concordancetop.TopPatched'. -/
def topPatchedUptoCard : Claim7 := { stood := { row := topPatchedUptoRow, standIns := [], harness := (true, "5ef1b2a886ae097749390379fc903854380bff66930f482aaea40a8b50eaca56"), looks := false }, kinds := [], alts := [], laidByText := true, laidKinds := [.data, .data, .pinned], laidTests := true, laidLooks := .later }
def TopPatchedUptoCardSaid : Prop := Claim7.holds Tryd.pinned (.plain (OpenSpec.upto topPatchedSpec)) topPatchedUptoCard
end Rows
end Go.Proofs.YtaepbmcmggnmpaaDoor
