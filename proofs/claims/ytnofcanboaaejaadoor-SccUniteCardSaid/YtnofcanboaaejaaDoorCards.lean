/-
  DERIVED. GIVEN WITH THE SEED: THE CARDS: each row of YtnofcanboaaejaaDoorRows.lean that lists a variable, with what it lists TIED to the program's text (the seventh form; the later family's looks); each row that meets fmt, with fmt's text TOLD by the authors' own Lean function (tested against real Go, not proved from fmt's source: count such statements apart). THE CARD IS WHAT COUNTS. Prove the row's statement (the work); the ties are given (YtnofcanboaaejaaDoorTie.lean); close each card by the builder's one call (the guide's Derived/Test/ToyasCard.lean, 'card_holds'). Laid BY PROGRAM, IN A SANDBOX (cutbox-door.mjs). By AI agents, Wed Nov 11 2026. No macro, syntax, notation, axiom, sorry.
-/
import Derived.Test.YtnofcanboaaejaaDoorRows
import GoSem.ClaimSeven
namespace Go.Proofs.YtnofcanboaaejaaDoor
namespace Rows

/-- THE TIED CARD OF 'lockorderlaw21.SccComponents'. -/
def sccComponentsCard : Claim7 := { stood := { row := sccComponentsRow, standIns := [], harness := (true, "fe8c8fa33b752408657d65c8a78a17fd4c64441ef323b06990b677bf2e4e76f6"), looks := false }, kinds := [], alts := [], laidByText := true, laidKinds := [.data], laidTests := true, laidLooks := .later }
def SccComponentsCardSaid : Prop := Claim7.holds Tryd.pinned (.plain (OpenSpec.ofChange sccComponentsSpec)) sccComponentsCard

/-- THE TIED CARD OF 'lockorderlaw21.SccRaw'. -/
def sccRawCard : Claim7 := { stood := { row := sccRawRow, standIns := [], harness := (true, "fe8c8fa33b752408657d65c8a78a17fd4c64441ef323b06990b677bf2e4e76f6"), looks := false }, kinds := [], alts := [], laidByText := true, laidKinds := [.data], laidTests := true, laidLooks := .later }
def SccRawCardSaid : Prop := Claim7.holds Tryd.pinned (.plain (OpenSpec.ofChange sccRawSpec)) sccRawCard

/-- THE TIED CARD OF 'lockorderlaw21.SccReaches'. -/
def sccReachesCard : Claim7 := { stood := { row := sccReachesRow, standIns := [], harness := (true, "fe8c8fa33b752408657d65c8a78a17fd4c64441ef323b06990b677bf2e4e76f6"), looks := false }, kinds := [], alts := [], laidByText := true, laidKinds := [.data], laidTests := true, laidLooks := .later }
def SccReachesCardSaid : Prop := Claim7.holds Tryd.pinned (.plain (OpenSpec.ofChange sccReachesSpec)) sccReachesCard

/-- THE TIED CARD OF 'lockorderlaw21.SccPartition'. -/
def sccPartitionCard : Claim7 := { stood := { row := sccPartitionRow, standIns := [], harness := (true, "fe8c8fa33b752408657d65c8a78a17fd4c64441ef323b06990b677bf2e4e76f6"), looks := false }, kinds := [], alts := [], laidByText := true, laidKinds := [.data], laidTests := true, laidLooks := .later }
def SccPartitionCardSaid : Prop := Claim7.holds Tryd.pinned (.plain (OpenSpec.ofChange sccPartitionSpec)) sccPartitionCard

/-- THE TIED CARD OF 'lockorderlaw21.SccOrder'. -/
def sccOrderCard : Claim7 := { stood := { row := sccOrderRow, standIns := [], harness := (true, "fe8c8fa33b752408657d65c8a78a17fd4c64441ef323b06990b677bf2e4e76f6"), looks := false }, kinds := [], alts := [], laidByText := true, laidKinds := [.data], laidTests := true, laidLooks := .later }
def SccOrderCardSaid : Prop := Claim7.holds Tryd.pinned (.plain (OpenSpec.ofChange sccOrderSpec)) sccOrderCard

/-- THE TIED CARD OF 'lockorderlaw21.SccUnite'. -/
def sccUniteCard : Claim7 := { stood := { row := sccUniteRow, standIns := [], harness := (true, "fe8c8fa33b752408657d65c8a78a17fd4c64441ef323b06990b677bf2e4e76f6"), looks := false }, kinds := [], alts := [], laidByText := true, laidKinds := [.data], laidTests := true, laidLooks := .later }
def SccUniteCardSaid : Prop := Claim7.holds Tryd.pinned (.plain (OpenSpec.ofChange sccUniteSpec)) sccUniteCard

/-- THE SECOND FORM's CARD OF 'lockorderlaw21.SccComponents'. -/
def sccComponentsUptoCard : Claim7 := { stood := { row := sccComponentsUptoRow, standIns := [], harness := (true, "fe8c8fa33b752408657d65c8a78a17fd4c64441ef323b06990b677bf2e4e76f6"), looks := false }, kinds := [], alts := [], laidByText := true, laidKinds := [.data], laidTests := true, laidLooks := .later }
def SccComponentsUptoCardSaid : Prop := Claim7.holds Tryd.pinned (.plain (OpenSpec.upto sccComponentsSpec)) sccComponentsUptoCard

/-- THE SECOND FORM's CARD OF 'lockorderlaw21.SccRaw'. -/
def sccRawUptoCard : Claim7 := { stood := { row := sccRawUptoRow, standIns := [], harness := (true, "fe8c8fa33b752408657d65c8a78a17fd4c64441ef323b06990b677bf2e4e76f6"), looks := false }, kinds := [], alts := [], laidByText := true, laidKinds := [.data], laidTests := true, laidLooks := .later }
def SccRawUptoCardSaid : Prop := Claim7.holds Tryd.pinned (.plain (OpenSpec.upto sccRawSpec)) sccRawUptoCard

/-- THE SECOND FORM's CARD OF 'lockorderlaw21.SccReaches'. -/
def sccReachesUptoCard : Claim7 := { stood := { row := sccReachesUptoRow, standIns := [], harness := (true, "fe8c8fa33b752408657d65c8a78a17fd4c64441ef323b06990b677bf2e4e76f6"), looks := false }, kinds := [], alts := [], laidByText := true, laidKinds := [.data], laidTests := true, laidLooks := .later }
def SccReachesUptoCardSaid : Prop := Claim7.holds Tryd.pinned (.plain (OpenSpec.upto sccReachesSpec)) sccReachesUptoCard

/-- THE SECOND FORM's CARD OF 'lockorderlaw21.SccPartition'. -/
def sccPartitionUptoCard : Claim7 := { stood := { row := sccPartitionUptoRow, standIns := [], harness := (true, "fe8c8fa33b752408657d65c8a78a17fd4c64441ef323b06990b677bf2e4e76f6"), looks := false }, kinds := [], alts := [], laidByText := true, laidKinds := [.data], laidTests := true, laidLooks := .later }
def SccPartitionUptoCardSaid : Prop := Claim7.holds Tryd.pinned (.plain (OpenSpec.upto sccPartitionSpec)) sccPartitionUptoCard

/-- THE SECOND FORM's CARD OF 'lockorderlaw21.SccOrder'. -/
def sccOrderUptoCard : Claim7 := { stood := { row := sccOrderUptoRow, standIns := [], harness := (true, "fe8c8fa33b752408657d65c8a78a17fd4c64441ef323b06990b677bf2e4e76f6"), looks := false }, kinds := [], alts := [], laidByText := true, laidKinds := [.data], laidTests := true, laidLooks := .later }
def SccOrderUptoCardSaid : Prop := Claim7.holds Tryd.pinned (.plain (OpenSpec.upto sccOrderSpec)) sccOrderUptoCard

/-- THE SECOND FORM's CARD OF 'lockorderlaw21.SccUnite'. -/
def sccUniteUptoCard : Claim7 := { stood := { row := sccUniteUptoRow, standIns := [], harness := (true, "fe8c8fa33b752408657d65c8a78a17fd4c64441ef323b06990b677bf2e4e76f6"), looks := false }, kinds := [], alts := [], laidByText := true, laidKinds := [.data], laidTests := true, laidLooks := .later }
def SccUniteUptoCardSaid : Prop := Claim7.holds Tryd.pinned (.plain (OpenSpec.upto sccUniteSpec)) sccUniteUptoCard
end Rows
end Go.Proofs.YtnofcanboaaejaaDoor
