/-
  DERIVED. GIVEN WITH THE SEED: THE CARDS: each row of YtdmlnjgbfkkjdaaDoorRows.lean that lists a variable, with what it lists TIED to the program's text (the seventh form; the later family's looks); each row that meets fmt, with fmt's text TOLD by the authors' own Lean function (tested against real Go, not proved from fmt's source: count such statements apart). THE CARD IS WHAT COUNTS. Prove the row's statement (the work); the ties are given (YtdmlnjgbfkkjdaaDoorTie.lean); close each card by the builder's one call (the guide's Derived/Test/ToyasCard.lean, 'card_holds'). Laid BY PROGRAM, IN A SANDBOX (cutbox-door.mjs). By AI agents, Wed Nov 11 2026. No macro, syntax, notation, axiom, sorry.
-/
import Derived.Test.YtdmlnjgbfkkjdaaDoorRows
import GoSem.ClaimSeven
namespace Go.Proofs.YtdmlnjgbfkkjdaaDoor
namespace Rows

/-- THE TIED CARD OF 'wagonpoollaw10.FrameMatchesReference'. -/
def frameMatchesReferenceCard : Claim7 := { stood := { row := frameMatchesReferenceRow, standIns := [], harness := (true, "77527d3cf38f6b3763f46bed1e18cdecc3d688c4d8546000962d453ae035ff12"), looks := false }, kinds := [], alts := [], laidByText := true, laidKinds := [.data], laidTests := true, laidLooks := .later }
def FrameMatchesReferenceCardSaid : Prop := Claim7.holds Tryd.pinned (.plain (OpenSpec.ofChange frameMatchesReferenceSpec)) frameMatchesReferenceCard

/-- THE TIED CARD OF 'wagonpoollaw10.FrameFeedMatchesReference'. -/
def frameFeedMatchesReferenceCard : Claim7 := { stood := { row := frameFeedMatchesReferenceRow, standIns := [], harness := (true, "77527d3cf38f6b3763f46bed1e18cdecc3d688c4d8546000962d453ae035ff12"), looks := false }, kinds := [], alts := [], laidByText := true, laidKinds := [.data], laidTests := true, laidLooks := .later }
def FrameFeedMatchesReferenceCardSaid : Prop := Claim7.holds Tryd.pinned (.plain (OpenSpec.ofChange frameFeedMatchesReferenceSpec)) frameFeedMatchesReferenceCard

/-- THE TIED CARD OF 'wagonpoollaw10.FrameRoundTrip'. -/
def frameRoundTripCard : Claim7 := { stood := { row := frameRoundTripRow, standIns := [], harness := (true, "77527d3cf38f6b3763f46bed1e18cdecc3d688c4d8546000962d453ae035ff12"), looks := false }, kinds := [], alts := [], laidByText := true, laidKinds := [.data], laidTests := true, laidLooks := .later }
def FrameRoundTripCardSaid : Prop := Claim7.holds Tryd.pinned (.plain (OpenSpec.ofChange frameRoundTripSpec)) frameRoundTripCard

/-- THE TIED CARD OF 'wagonpoollaw10.FrameDivision'. -/
def frameDivisionCard : Claim7 := { stood := { row := frameDivisionRow, standIns := [], harness := (true, "77527d3cf38f6b3763f46bed1e18cdecc3d688c4d8546000962d453ae035ff12"), looks := false }, kinds := [], alts := [], laidByText := true, laidKinds := [.data], laidTests := true, laidLooks := .later }
def FrameDivisionCardSaid : Prop := Claim7.holds Tryd.pinned (.plain (OpenSpec.ofChange frameDivisionSpec)) frameDivisionCard

/-- THE TIED CARD OF 'wagonpoollaw10.FrameResynchronizes'. -/
def frameResynchronizesCard : Claim7 := { stood := { row := frameResynchronizesRow, standIns := [], harness := (true, "77527d3cf38f6b3763f46bed1e18cdecc3d688c4d8546000962d453ae035ff12"), looks := false }, kinds := [], alts := [], laidByText := true, laidKinds := [.data], laidTests := true, laidLooks := .later }
def FrameResynchronizesCardSaid : Prop := Claim7.holds Tryd.pinned (.plain (OpenSpec.ofChange frameResynchronizesSpec)) frameResynchronizesCard

/-- THE TIED CARD OF 'wagonpoollaw10.FrameTransparent'. -/
def frameTransparentCard : Claim7 := { stood := { row := frameTransparentRow, standIns := [], harness := (true, "77527d3cf38f6b3763f46bed1e18cdecc3d688c4d8546000962d453ae035ff12"), looks := false }, kinds := [], alts := [], laidByText := true, laidKinds := [.data], laidTests := true, laidLooks := .later }
def FrameTransparentCardSaid : Prop := Claim7.holds Tryd.pinned (.plain (OpenSpec.ofChange frameTransparentSpec)) frameTransparentCard

/-- THE TIED CARD OF 'wagonpoollaw10.FrameDetects'. -/
def frameDetectsCard : Claim7 := { stood := { row := frameDetectsRow, standIns := [], harness := (true, "77527d3cf38f6b3763f46bed1e18cdecc3d688c4d8546000962d453ae035ff12"), looks := false }, kinds := [], alts := [], laidByText := true, laidKinds := [.data], laidTests := true, laidLooks := .later }
def FrameDetectsCardSaid : Prop := Claim7.holds Tryd.pinned (.plain (OpenSpec.ofChange frameDetectsSpec)) frameDetectsCard

/-- THE SECOND FORM's CARD OF 'wagonpoollaw10.FrameMatchesReference'. -/
def frameMatchesReferenceUptoCard : Claim7 := { stood := { row := frameMatchesReferenceUptoRow, standIns := [], harness := (true, "77527d3cf38f6b3763f46bed1e18cdecc3d688c4d8546000962d453ae035ff12"), looks := false }, kinds := [], alts := [], laidByText := true, laidKinds := [.data], laidTests := true, laidLooks := .later }
def FrameMatchesReferenceUptoCardSaid : Prop := Claim7.holds Tryd.pinned (.plain (OpenSpec.upto frameMatchesReferenceSpec)) frameMatchesReferenceUptoCard

/-- THE SECOND FORM's CARD OF 'wagonpoollaw10.FrameFeedMatchesReference'. -/
def frameFeedMatchesReferenceUptoCard : Claim7 := { stood := { row := frameFeedMatchesReferenceUptoRow, standIns := [], harness := (true, "77527d3cf38f6b3763f46bed1e18cdecc3d688c4d8546000962d453ae035ff12"), looks := false }, kinds := [], alts := [], laidByText := true, laidKinds := [.data], laidTests := true, laidLooks := .later }
def FrameFeedMatchesReferenceUptoCardSaid : Prop := Claim7.holds Tryd.pinned (.plain (OpenSpec.upto frameFeedMatchesReferenceSpec)) frameFeedMatchesReferenceUptoCard

/-- THE SECOND FORM's CARD OF 'wagonpoollaw10.FrameRoundTrip'. -/
def frameRoundTripUptoCard : Claim7 := { stood := { row := frameRoundTripUptoRow, standIns := [], harness := (true, "77527d3cf38f6b3763f46bed1e18cdecc3d688c4d8546000962d453ae035ff12"), looks := false }, kinds := [], alts := [], laidByText := true, laidKinds := [.data], laidTests := true, laidLooks := .later }
def FrameRoundTripUptoCardSaid : Prop := Claim7.holds Tryd.pinned (.plain (OpenSpec.upto frameRoundTripSpec)) frameRoundTripUptoCard

/-- THE SECOND FORM's CARD OF 'wagonpoollaw10.FrameDivision'. -/
def frameDivisionUptoCard : Claim7 := { stood := { row := frameDivisionUptoRow, standIns := [], harness := (true, "77527d3cf38f6b3763f46bed1e18cdecc3d688c4d8546000962d453ae035ff12"), looks := false }, kinds := [], alts := [], laidByText := true, laidKinds := [.data], laidTests := true, laidLooks := .later }
def FrameDivisionUptoCardSaid : Prop := Claim7.holds Tryd.pinned (.plain (OpenSpec.upto frameDivisionSpec)) frameDivisionUptoCard

/-- THE SECOND FORM's CARD OF 'wagonpoollaw10.FrameResynchronizes'. -/
def frameResynchronizesUptoCard : Claim7 := { stood := { row := frameResynchronizesUptoRow, standIns := [], harness := (true, "77527d3cf38f6b3763f46bed1e18cdecc3d688c4d8546000962d453ae035ff12"), looks := false }, kinds := [], alts := [], laidByText := true, laidKinds := [.data], laidTests := true, laidLooks := .later }
def FrameResynchronizesUptoCardSaid : Prop := Claim7.holds Tryd.pinned (.plain (OpenSpec.upto frameResynchronizesSpec)) frameResynchronizesUptoCard

/-- THE SECOND FORM's CARD OF 'wagonpoollaw10.FrameTransparent'. -/
def frameTransparentUptoCard : Claim7 := { stood := { row := frameTransparentUptoRow, standIns := [], harness := (true, "77527d3cf38f6b3763f46bed1e18cdecc3d688c4d8546000962d453ae035ff12"), looks := false }, kinds := [], alts := [], laidByText := true, laidKinds := [.data], laidTests := true, laidLooks := .later }
def FrameTransparentUptoCardSaid : Prop := Claim7.holds Tryd.pinned (.plain (OpenSpec.upto frameTransparentSpec)) frameTransparentUptoCard

/-- THE SECOND FORM's CARD OF 'wagonpoollaw10.FrameDetects'. -/
def frameDetectsUptoCard : Claim7 := { stood := { row := frameDetectsUptoRow, standIns := [], harness := (true, "77527d3cf38f6b3763f46bed1e18cdecc3d688c4d8546000962d453ae035ff12"), looks := false }, kinds := [], alts := [], laidByText := true, laidKinds := [.data], laidTests := true, laidLooks := .later }
def FrameDetectsUptoCardSaid : Prop := Claim7.holds Tryd.pinned (.plain (OpenSpec.upto frameDetectsSpec)) frameDetectsUptoCard
end Rows
end Go.Proofs.YtdmlnjgbfkkjdaaDoor
