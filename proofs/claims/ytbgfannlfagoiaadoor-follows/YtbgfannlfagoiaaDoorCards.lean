/-
  DERIVED. GIVEN WITH THE SEED: THE CARDS: each row of YtbgfannlfagoiaaDoorRows.lean that lists a variable, with what it lists TIED to the program's text (the seventh form; the later family's looks); each row that meets fmt, with fmt's text TOLD by the authors' own Lean function (tested against real Go, not proved from fmt's source: count such statements apart). THE CARD IS WHAT COUNTS. Prove the row's statement (the work); the ties are given (YtbgfannlfagoiaaDoorTie.lean); close each card by the builder's one call (the guide's Derived/Test/ToyasCard.lean, 'card_holds'). Laid BY PROGRAM, IN A SANDBOX (cutbox-door.mjs). By AI agents, Wed Nov 11 2026. No macro, syntax, notation, axiom, sorry.
-/
import Derived.Test.YtbgfannlfagoiaaDoorRows
import GoSem.ClaimSeven
namespace Go.Proofs.YtbgfannlfagoiaaDoor
namespace Rows

/-- THE TIED CARD OF 'lulllaw.Texts'. -/
def textsCard : Claim7 := { stood := { row := textsRow, standIns := [], harness := (true, "84ff8af2a5bfb2f6a6c9fae9c08eb1a6f80dfbca74bb133709e747b3608536c0"), looks := true }, kinds := [], alts := [], laidByText := true, laidKinds := [.data, .pinned], laidTests := true, laidLooks := .later }
def TextsCardSaid : Prop := Claim7.holds Tryd.pinned (.plain (OpenSpec.ofChange textsSpec)) textsCard

/-- THE TIED CARD OF 'lulllaw.Batches'. -/
def batchesCard : Claim7 := { stood := { row := batchesRow, standIns := [], harness := (true, "84ff8af2a5bfb2f6a6c9fae9c08eb1a6f80dfbca74bb133709e747b3608536c0"), looks := true }, kinds := [], alts := [], goes := true, laidByText := true, laidKinds := [.data, .pinned], laidTests := true, laidLooks := .later }
def BatchesCardSaid : Prop := Claim7.holds Tryd.pinned (.plain (OpenSpec.ofChange batchesSpec)) batchesCard

/-- THE TIED CARD OF 'lulllaw.Unmade'. -/
def unmadeCard : Claim7 := { stood := { row := unmadeRow, standIns := [], harness := (true, "84ff8af2a5bfb2f6a6c9fae9c08eb1a6f80dfbca74bb133709e747b3608536c0"), looks := true }, kinds := [], alts := [], goes := true, laidByText := true, laidKinds := [.data, .pinned], laidTests := true, laidLooks := .later }
def UnmadeCardSaid : Prop := Claim7.holds Tryd.pinned (.plain (OpenSpec.ofChange unmadeSpec)) unmadeCard

/-- THE TIED CARD OF 'lullkeep.Silent'. -/
def silentCard : Claim7 := { stood := { row := silentRow, standIns := [], harness := (true, "84ff8af2a5bfb2f6a6c9fae9c08eb1a6f80dfbca74bb133709e747b3608536c0"), looks := true }, kinds := [], alts := [], goes := true, laidByText := true, laidKinds := [.data, .pinned], laidTests := true, laidLooks := .later }
def SilentCardSaid : Prop := Claim7.holds Tryd.pinned (.plain (OpenSpec.ofChange silentSpec)) silentCard

/-- THE TIED CARD OF 'lullkeep.Follows'. -/
def followsCard : Claim7 := { stood := { row := followsRow, standIns := [], harness := (true, "84ff8af2a5bfb2f6a6c9fae9c08eb1a6f80dfbca74bb133709e747b3608536c0"), looks := true }, kinds := [], alts := [], goes := true, laidByText := true, laidKinds := [.data, .pinned], laidTests := true, laidLooks := .later }
def FollowsCardSaid : Prop := Claim7.holds Tryd.pinned (.plain (OpenSpec.ofChange followsSpec)) followsCard

/-- THE TIED CARD OF 'lullkeep.Order'. -/
def orderCard : Claim7 := { stood := { row := orderRow, standIns := [], harness := (true, "84ff8af2a5bfb2f6a6c9fae9c08eb1a6f80dfbca74bb133709e747b3608536c0"), looks := true }, kinds := [], alts := [], goes := true, laidByText := true, laidKinds := [.data, .pinned], laidTests := true, laidLooks := .later }
def OrderCardSaid : Prop := Claim7.holds Tryd.pinned (.plain (OpenSpec.ofChange orderSpec)) orderCard

/-- THE TIED CARD OF 'lullkeep.Late'. -/
def lateCard : Claim7 := { stood := { row := lateRow, standIns := [], harness := (true, "84ff8af2a5bfb2f6a6c9fae9c08eb1a6f80dfbca74bb133709e747b3608536c0"), looks := true }, kinds := [], alts := [], goes := true, laidByText := true, laidKinds := [.data, .pinned], laidTests := true, laidLooks := .later }
def LateCardSaid : Prop := Claim7.holds Tryd.pinned (.plain (OpenSpec.ofChange lateSpec)) lateCard

/-- THE TIED CARD OF 'lullkeep.Fair'. -/
def fairCard : Claim7 := { stood := { row := fairRow, standIns := [], harness := (true, "84ff8af2a5bfb2f6a6c9fae9c08eb1a6f80dfbca74bb133709e747b3608536c0"), looks := true }, kinds := [], alts := [], goes := true, laidByText := true, laidKinds := [.data, .pinned], laidTests := true, laidLooks := .later }
def FairCardSaid : Prop := Claim7.holds Tryd.pinned (.plain (OpenSpec.ofChange fairSpec)) fairCard

/-- THE SECOND FORM's CARD OF 'lulllaw.Texts'. -/
def textsUptoCard : Claim7 := { stood := { row := textsUptoRow, standIns := [], harness := (true, "84ff8af2a5bfb2f6a6c9fae9c08eb1a6f80dfbca74bb133709e747b3608536c0"), looks := true }, kinds := [], alts := [], laidByText := true, laidKinds := [.data, .pinned], laidTests := true, laidLooks := .later }
def TextsUptoCardSaid : Prop := Claim7.holds Tryd.pinned (.plain (OpenSpec.upto textsSpec)) textsUptoCard

/-- THE SECOND FORM's CARD OF 'lulllaw.Batches'. -/
def batchesUptoCard : Claim7 := { stood := { row := batchesUptoRow, standIns := [], harness := (true, "84ff8af2a5bfb2f6a6c9fae9c08eb1a6f80dfbca74bb133709e747b3608536c0"), looks := true }, kinds := [], alts := [], goes := true, laidByText := true, laidKinds := [.data, .pinned], laidTests := true, laidLooks := .later }
def BatchesUptoCardSaid : Prop := Claim7.holds Tryd.pinned (.plain (OpenSpec.upto batchesSpec)) batchesUptoCard

/-- THE SECOND FORM's CARD OF 'lulllaw.Unmade'. -/
def unmadeUptoCard : Claim7 := { stood := { row := unmadeUptoRow, standIns := [], harness := (true, "84ff8af2a5bfb2f6a6c9fae9c08eb1a6f80dfbca74bb133709e747b3608536c0"), looks := true }, kinds := [], alts := [], goes := true, laidByText := true, laidKinds := [.data, .pinned], laidTests := true, laidLooks := .later }
def UnmadeUptoCardSaid : Prop := Claim7.holds Tryd.pinned (.plain (OpenSpec.upto unmadeSpec)) unmadeUptoCard

/-- THE SECOND FORM's CARD OF 'lullkeep.Silent'. -/
def silentUptoCard : Claim7 := { stood := { row := silentUptoRow, standIns := [], harness := (true, "84ff8af2a5bfb2f6a6c9fae9c08eb1a6f80dfbca74bb133709e747b3608536c0"), looks := true }, kinds := [], alts := [], goes := true, laidByText := true, laidKinds := [.data, .pinned], laidTests := true, laidLooks := .later }
def SilentUptoCardSaid : Prop := Claim7.holds Tryd.pinned (.plain (OpenSpec.upto silentSpec)) silentUptoCard

/-- THE SECOND FORM's CARD OF 'lullkeep.Follows'. -/
def followsUptoCard : Claim7 := { stood := { row := followsUptoRow, standIns := [], harness := (true, "84ff8af2a5bfb2f6a6c9fae9c08eb1a6f80dfbca74bb133709e747b3608536c0"), looks := true }, kinds := [], alts := [], goes := true, laidByText := true, laidKinds := [.data, .pinned], laidTests := true, laidLooks := .later }
def FollowsUptoCardSaid : Prop := Claim7.holds Tryd.pinned (.plain (OpenSpec.upto followsSpec)) followsUptoCard

/-- THE SECOND FORM's CARD OF 'lullkeep.Order'. -/
def orderUptoCard : Claim7 := { stood := { row := orderUptoRow, standIns := [], harness := (true, "84ff8af2a5bfb2f6a6c9fae9c08eb1a6f80dfbca74bb133709e747b3608536c0"), looks := true }, kinds := [], alts := [], goes := true, laidByText := true, laidKinds := [.data, .pinned], laidTests := true, laidLooks := .later }
def OrderUptoCardSaid : Prop := Claim7.holds Tryd.pinned (.plain (OpenSpec.upto orderSpec)) orderUptoCard

/-- THE SECOND FORM's CARD OF 'lullkeep.Late'. -/
def lateUptoCard : Claim7 := { stood := { row := lateUptoRow, standIns := [], harness := (true, "84ff8af2a5bfb2f6a6c9fae9c08eb1a6f80dfbca74bb133709e747b3608536c0"), looks := true }, kinds := [], alts := [], goes := true, laidByText := true, laidKinds := [.data, .pinned], laidTests := true, laidLooks := .later }
def LateUptoCardSaid : Prop := Claim7.holds Tryd.pinned (.plain (OpenSpec.upto lateSpec)) lateUptoCard

/-- THE SECOND FORM's CARD OF 'lullkeep.Fair'. -/
def fairUptoCard : Claim7 := { stood := { row := fairUptoRow, standIns := [], harness := (true, "84ff8af2a5bfb2f6a6c9fae9c08eb1a6f80dfbca74bb133709e747b3608536c0"), looks := true }, kinds := [], alts := [], goes := true, laidByText := true, laidKinds := [.data, .pinned], laidTests := true, laidLooks := .later }
def FairUptoCardSaid : Prop := Claim7.holds Tryd.pinned (.plain (OpenSpec.upto fairSpec)) fairUptoCard
end Rows
end Go.Proofs.YtbgfannlfagoiaaDoor
