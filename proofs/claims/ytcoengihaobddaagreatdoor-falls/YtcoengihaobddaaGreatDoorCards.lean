/-
  DERIVED. GIVEN WITH THE SEED: THE CARDS: each row of YtcoengihaobddaaGreatDoorRows.lean that lists a variable, with what it lists TIED to the program's text (the seventh form; the later family's looks); each row that meets fmt, with fmt's text TOLD by the authors' own Lean function (tested against real Go, not proved from fmt's source: count such statements apart). THE CARD IS WHAT COUNTS. Prove the row's statement (the work); the ties are given (YtcoengihaobddaaGreatDoorTie.lean); close each card by the builder's one call (the guide's Derived/Test/ToyasCard.lean, 'card_holds'). Laid BY PROGRAM, IN A SANDBOX (cutbox-door.mjs). By AI agents, Wed Nov 11 2026. No macro, syntax, notation, axiom, sorry.
-/
import Derived.Test.YtcoengihaobddaaGreatDoorRows
import GoSem.ClaimSeven
namespace Go.Proofs.YtcoengihaobddaaGreatDoor
namespace Rows

/-- THE TIED CARD OF 'cairnlaw.Puts'. -/
def putsCard : Claim7 := { stood := { row := putsRow, standIns := [], harness := (true, "8e5f9e2b07513cff72ebbf00b087c573e7c48860cf56672f22a6179c7f5fe551"), looks := false }, kinds := [], alts := [], laidByText := true, laidKinds := [.data, .pinned], laidTests := true, laidLooks := .later }
def PutsCardSaid : Prop := Claim7.holds Tryz.pinned (.plain (OpenSpec.ofChange putsSpec)) putsCard

/-- THE TIED CARD OF 'cairnlaw.Erases'. -/
def erasesCard : Claim7 := { stood := { row := erasesRow, standIns := [], harness := (true, "8e5f9e2b07513cff72ebbf00b087c573e7c48860cf56672f22a6179c7f5fe551"), looks := false }, kinds := [], alts := [], laidByText := true, laidKinds := [.data, .pinned], laidTests := true, laidLooks := .later }
def ErasesCardSaid : Prop := Claim7.holds Tryz.pinned (.plain (OpenSpec.ofChange erasesSpec)) erasesCard

/-- THE TIED CARD OF 'cairnlaw.Lists'. -/
def listsCard : Claim7 := { stood := { row := listsRow, standIns := [], harness := (true, "8e5f9e2b07513cff72ebbf00b087c573e7c48860cf56672f22a6179c7f5fe551"), looks := false }, kinds := [], alts := [], laidByText := true, laidKinds := [.data, .pinned], laidTests := true, laidLooks := .later }
def ListsCardSaid : Prop := Claim7.holds Tryz.pinned (.plain (OpenSpec.ofChange listsSpec)) listsCard

/-- THE TIED CARD OF 'cairnlaw.Falls'. -/
def fallsCard : Claim7 := { stood := { row := fallsRow, standIns := [], harness := (true, "8e5f9e2b07513cff72ebbf00b087c573e7c48860cf56672f22a6179c7f5fe551"), looks := false }, kinds := [], alts := [], laidByText := true, laidKinds := [.data, .pinned], laidTests := true, laidLooks := .later }
def FallsCardSaid : Prop := Claim7.holds Tryz.pinned (.plain (OpenSpec.ofChange fallsSpec)) fallsCard

/-- THE TIED CARD OF 'cairnlaw.All'. -/
def allCard : Claim7 := { stood := { row := allRow, standIns := [], harness := (true, "8e5f9e2b07513cff72ebbf00b087c573e7c48860cf56672f22a6179c7f5fe551"), looks := false }, kinds := [], alts := [], laidByText := true, laidKinds := [.data, .pinned], laidTests := true, laidLooks := .later }
def AllCardSaid : Prop := Claim7.holds Tryz.pinned (.plain (OpenSpec.ofChange allSpec)) allCard

/-- THE TIED CARD OF 'cairnkeep.Kept'. -/
def keptCard : Claim7 := { stood := { row := keptRow, standIns := [], harness := (true, "8e5f9e2b07513cff72ebbf00b087c573e7c48860cf56672f22a6179c7f5fe551"), looks := false }, kinds := [], alts := [], laidByText := true, laidKinds := [.data, .pinned], laidTests := true, laidLooks := .later }
def KeptCardSaid : Prop := Claim7.holds Tryz.pinned (.plain (OpenSpec.ofChange keptSpec)) keptCard

/-- THE TIED CARD OF 'cairnkeep.Paged'. -/
def pagedCard : Claim7 := { stood := { row := pagedRow, standIns := [], harness := (true, "8e5f9e2b07513cff72ebbf00b087c573e7c48860cf56672f22a6179c7f5fe551"), looks := false }, kinds := [], alts := [], laidByText := true, laidKinds := [.data, .pinned], laidTests := true, laidLooks := .later }
def PagedCardSaid : Prop := Claim7.holds Tryz.pinned (.plain (OpenSpec.ofChange pagedSpec)) pagedCard

/-- THE TIED CARD OF 'cairnkeep.Undone'. -/
def undoneCard : Claim7 := { stood := { row := undoneRow, standIns := [], harness := (true, "8e5f9e2b07513cff72ebbf00b087c573e7c48860cf56672f22a6179c7f5fe551"), looks := false }, kinds := [], alts := [], laidByText := true, laidKinds := [.data, .pinned], laidTests := true, laidLooks := .later }
def UndoneCardSaid : Prop := Claim7.holds Tryz.pinned (.plain (OpenSpec.ofChange undoneSpec)) undoneCard

/-- THE TIED CARD OF 'cairnkeep.Emptied'. -/
def emptiedCard : Claim7 := { stood := { row := emptiedRow, standIns := [], harness := (true, "8e5f9e2b07513cff72ebbf00b087c573e7c48860cf56672f22a6179c7f5fe551"), looks := false }, kinds := [], alts := [], laidByText := true, laidKinds := [.data, .pinned], laidTests := true, laidLooks := .later }
def EmptiedCardSaid : Prop := Claim7.holds Tryz.pinned (.plain (OpenSpec.ofChange emptiedSpec)) emptiedCard

/-- THE TIED CARD OF 'cairnkeep.Twice'. -/
def twiceCard : Claim7 := { stood := { row := twiceRow, standIns := [], harness := (true, "8e5f9e2b07513cff72ebbf00b087c573e7c48860cf56672f22a6179c7f5fe551"), looks := false }, kinds := [], alts := [], laidByText := true, laidKinds := [.data, .pinned], laidTests := true, laidLooks := .later }
def TwiceCardSaid : Prop := Claim7.holds Tryz.pinned (.plain (OpenSpec.ofChange twiceSpec)) twiceCard

/-- THE SECOND FORM's CARD OF 'cairnlaw.Puts'. -/
def putsUptoCard : Claim7 := { stood := { row := putsUptoRow, standIns := [], harness := (true, "8e5f9e2b07513cff72ebbf00b087c573e7c48860cf56672f22a6179c7f5fe551"), looks := false }, kinds := [], alts := [], laidByText := true, laidKinds := [.data, .pinned], laidTests := true, laidLooks := .later }
def PutsUptoCardSaid : Prop := Claim7.holds Tryz.pinned (.plain (OpenSpec.upto putsSpec)) putsUptoCard

/-- THE SECOND FORM's CARD OF 'cairnlaw.Erases'. -/
def erasesUptoCard : Claim7 := { stood := { row := erasesUptoRow, standIns := [], harness := (true, "8e5f9e2b07513cff72ebbf00b087c573e7c48860cf56672f22a6179c7f5fe551"), looks := false }, kinds := [], alts := [], laidByText := true, laidKinds := [.data, .pinned], laidTests := true, laidLooks := .later }
def ErasesUptoCardSaid : Prop := Claim7.holds Tryz.pinned (.plain (OpenSpec.upto erasesSpec)) erasesUptoCard

/-- THE SECOND FORM's CARD OF 'cairnlaw.Lists'. -/
def listsUptoCard : Claim7 := { stood := { row := listsUptoRow, standIns := [], harness := (true, "8e5f9e2b07513cff72ebbf00b087c573e7c48860cf56672f22a6179c7f5fe551"), looks := false }, kinds := [], alts := [], laidByText := true, laidKinds := [.data, .pinned], laidTests := true, laidLooks := .later }
def ListsUptoCardSaid : Prop := Claim7.holds Tryz.pinned (.plain (OpenSpec.upto listsSpec)) listsUptoCard

/-- THE SECOND FORM's CARD OF 'cairnlaw.Falls'. -/
def fallsUptoCard : Claim7 := { stood := { row := fallsUptoRow, standIns := [], harness := (true, "8e5f9e2b07513cff72ebbf00b087c573e7c48860cf56672f22a6179c7f5fe551"), looks := false }, kinds := [], alts := [], laidByText := true, laidKinds := [.data, .pinned], laidTests := true, laidLooks := .later }
def FallsUptoCardSaid : Prop := Claim7.holds Tryz.pinned (.plain (OpenSpec.upto fallsSpec)) fallsUptoCard

/-- THE SECOND FORM's CARD OF 'cairnlaw.All'. -/
def allUptoCard : Claim7 := { stood := { row := allUptoRow, standIns := [], harness := (true, "8e5f9e2b07513cff72ebbf00b087c573e7c48860cf56672f22a6179c7f5fe551"), looks := false }, kinds := [], alts := [], laidByText := true, laidKinds := [.data, .pinned], laidTests := true, laidLooks := .later }
def AllUptoCardSaid : Prop := Claim7.holds Tryz.pinned (.plain (OpenSpec.upto allSpec)) allUptoCard

/-- THE SECOND FORM's CARD OF 'cairnkeep.Kept'. -/
def keptUptoCard : Claim7 := { stood := { row := keptUptoRow, standIns := [], harness := (true, "8e5f9e2b07513cff72ebbf00b087c573e7c48860cf56672f22a6179c7f5fe551"), looks := false }, kinds := [], alts := [], laidByText := true, laidKinds := [.data, .pinned], laidTests := true, laidLooks := .later }
def KeptUptoCardSaid : Prop := Claim7.holds Tryz.pinned (.plain (OpenSpec.upto keptSpec)) keptUptoCard

/-- THE SECOND FORM's CARD OF 'cairnkeep.Paged'. -/
def pagedUptoCard : Claim7 := { stood := { row := pagedUptoRow, standIns := [], harness := (true, "8e5f9e2b07513cff72ebbf00b087c573e7c48860cf56672f22a6179c7f5fe551"), looks := false }, kinds := [], alts := [], laidByText := true, laidKinds := [.data, .pinned], laidTests := true, laidLooks := .later }
def PagedUptoCardSaid : Prop := Claim7.holds Tryz.pinned (.plain (OpenSpec.upto pagedSpec)) pagedUptoCard

/-- THE SECOND FORM's CARD OF 'cairnkeep.Undone'. -/
def undoneUptoCard : Claim7 := { stood := { row := undoneUptoRow, standIns := [], harness := (true, "8e5f9e2b07513cff72ebbf00b087c573e7c48860cf56672f22a6179c7f5fe551"), looks := false }, kinds := [], alts := [], laidByText := true, laidKinds := [.data, .pinned], laidTests := true, laidLooks := .later }
def UndoneUptoCardSaid : Prop := Claim7.holds Tryz.pinned (.plain (OpenSpec.upto undoneSpec)) undoneUptoCard

/-- THE SECOND FORM's CARD OF 'cairnkeep.Emptied'. -/
def emptiedUptoCard : Claim7 := { stood := { row := emptiedUptoRow, standIns := [], harness := (true, "8e5f9e2b07513cff72ebbf00b087c573e7c48860cf56672f22a6179c7f5fe551"), looks := false }, kinds := [], alts := [], laidByText := true, laidKinds := [.data, .pinned], laidTests := true, laidLooks := .later }
def EmptiedUptoCardSaid : Prop := Claim7.holds Tryz.pinned (.plain (OpenSpec.upto emptiedSpec)) emptiedUptoCard

/-- THE SECOND FORM's CARD OF 'cairnkeep.Twice'. -/
def twiceUptoCard : Claim7 := { stood := { row := twiceUptoRow, standIns := [], harness := (true, "8e5f9e2b07513cff72ebbf00b087c573e7c48860cf56672f22a6179c7f5fe551"), looks := false }, kinds := [], alts := [], laidByText := true, laidKinds := [.data, .pinned], laidTests := true, laidLooks := .later }
def TwiceUptoCardSaid : Prop := Claim7.holds Tryz.pinned (.plain (OpenSpec.upto twiceSpec)) twiceUptoCard
end Rows
end Go.Proofs.YtcoengihaobddaaGreatDoor
