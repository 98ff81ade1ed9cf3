/-
  DERIVED. GIVEN WITH THE SEED: THE CARDS: each row of YtmimffbjghhdhaaDoorRows.lean that lists a variable, with what it lists TIED to the program's text (the seventh form; the later family's looks); each row that meets fmt, with fmt's text TOLD by the authors' own Lean function (tested against real Go, not proved from fmt's source: count such statements apart). THE CARD IS WHAT COUNTS. Prove the row's statement (the work); the ties are given (YtmimffbjghhdhaaDoorTie.lean); close each card by the builder's one call (the guide's Derived/Test/ToyasCard.lean, 'card_holds'). Laid BY PROGRAM, IN A SANDBOX (cutbox-door.mjs). By AI agents, Wed Nov 11 2026. No macro, syntax, notation, axiom, sorry.
-/
import Derived.Test.YtmimffbjghhdhaaDoorRows
import GoSem.ClaimSeven
namespace Go.Proofs.YtmimffbjghhdhaaDoor
namespace Rows

/-- THE TIED CARD OF 'chandlerylaw04.FoldFolds'. -/
def foldFoldsCard : Claim7 := { stood := { row := foldFoldsRow, standIns := [], harness := (true, "e8d2eb3da48ba03b314f4c25ef2da65f6bc71c968d93311645814e2b15f360c9"), looks := false }, kinds := [], alts := [], laidByText := true, laidKinds := [.data, .data], laidTests := true, laidLooks := .later }
def FoldFoldsCardSaid : Prop := Claim7.holds Tryd.pinned (.plain (OpenSpec.ofChange foldFoldsSpec)) foldFoldsCard

/-- THE TIED CARD OF 'chandlerylaw04.FoldShort'. -/
def foldShortCard : Claim7 := { stood := { row := foldShortRow, standIns := [], harness := (true, "e8d2eb3da48ba03b314f4c25ef2da65f6bc71c968d93311645814e2b15f360c9"), looks := false }, kinds := [], alts := [], laidByText := true, laidKinds := [.data, .data], laidTests := true, laidLooks := .later }
def FoldShortCardSaid : Prop := Claim7.holds Tryd.pinned (.plain (OpenSpec.ofChange foldShortSpec)) foldShortCard

/-- THE TIED CARD OF 'chandlerylaw04.FoldCrc'. -/
def foldCrcCard : Claim7 := { stood := { row := foldCrcRow, standIns := [], harness := (true, "e8d2eb3da48ba03b314f4c25ef2da65f6bc71c968d93311645814e2b15f360c9"), looks := false }, kinds := [], alts := [], laidByText := true, laidKinds := [.data, .data], laidTests := true, laidLooks := .later }
def FoldCrcCardSaid : Prop := Claim7.holds Tryd.pinned (.plain (OpenSpec.ofChange foldCrcSpec)) foldCrcCard

/-- THE TIED CARD OF 'chandlerylaw04.FoldLinear'. -/
def foldLinearCard : Claim7 := { stood := { row := foldLinearRow, standIns := [], harness := (true, "e8d2eb3da48ba03b314f4c25ef2da65f6bc71c968d93311645814e2b15f360c9"), looks := false }, kinds := [], alts := [], laidByText := true, laidKinds := [.data, .data], laidTests := true, laidLooks := .later }
def FoldLinearCardSaid : Prop := Claim7.holds Tryd.pinned (.plain (OpenSpec.ofChange foldLinearSpec)) foldLinearCard

/-- THE TIED CARD OF 'chandlerylaw04.FoldBoth'. -/
def foldBothCard : Claim7 := { stood := { row := foldBothRow, standIns := [], harness := (true, "e8d2eb3da48ba03b314f4c25ef2da65f6bc71c968d93311645814e2b15f360c9"), looks := false }, kinds := [], alts := [], laidByText := true, laidKinds := [.data, .data], laidTests := true, laidLooks := .later }
def FoldBothCardSaid : Prop := Claim7.holds Tryd.pinned (.plain (OpenSpec.ofChange foldBothSpec)) foldBothCard

/-- THE SECOND FORM's CARD OF 'chandlerylaw04.FoldFolds'. -/
def foldFoldsUptoCard : Claim7 := { stood := { row := foldFoldsUptoRow, standIns := [], harness := (true, "e8d2eb3da48ba03b314f4c25ef2da65f6bc71c968d93311645814e2b15f360c9"), looks := false }, kinds := [], alts := [], laidByText := true, laidKinds := [.data, .data], laidTests := true, laidLooks := .later }
def FoldFoldsUptoCardSaid : Prop := Claim7.holds Tryd.pinned (.plain (OpenSpec.upto foldFoldsSpec)) foldFoldsUptoCard

/-- THE SECOND FORM's CARD OF 'chandlerylaw04.FoldShort'. -/
def foldShortUptoCard : Claim7 := { stood := { row := foldShortUptoRow, standIns := [], harness := (true, "e8d2eb3da48ba03b314f4c25ef2da65f6bc71c968d93311645814e2b15f360c9"), looks := false }, kinds := [], alts := [], laidByText := true, laidKinds := [.data, .data], laidTests := true, laidLooks := .later }
def FoldShortUptoCardSaid : Prop := Claim7.holds Tryd.pinned (.plain (OpenSpec.upto foldShortSpec)) foldShortUptoCard

/-- THE SECOND FORM's CARD OF 'chandlerylaw04.FoldCrc'. -/
def foldCrcUptoCard : Claim7 := { stood := { row := foldCrcUptoRow, standIns := [], harness := (true, "e8d2eb3da48ba03b314f4c25ef2da65f6bc71c968d93311645814e2b15f360c9"), looks := false }, kinds := [], alts := [], laidByText := true, laidKinds := [.data, .data], laidTests := true, laidLooks := .later }
def FoldCrcUptoCardSaid : Prop := Claim7.holds Tryd.pinned (.plain (OpenSpec.upto foldCrcSpec)) foldCrcUptoCard

/-- THE SECOND FORM's CARD OF 'chandlerylaw04.FoldLinear'. -/
def foldLinearUptoCard : Claim7 := { stood := { row := foldLinearUptoRow, standIns := [], harness := (true, "e8d2eb3da48ba03b314f4c25ef2da65f6bc71c968d93311645814e2b15f360c9"), looks := false }, kinds := [], alts := [], laidByText := true, laidKinds := [.data, .data], laidTests := true, laidLooks := .later }
def FoldLinearUptoCardSaid : Prop := Claim7.holds Tryd.pinned (.plain (OpenSpec.upto foldLinearSpec)) foldLinearUptoCard

/-- THE SECOND FORM's CARD OF 'chandlerylaw04.FoldBoth'. -/
def foldBothUptoCard : Claim7 := { stood := { row := foldBothUptoRow, standIns := [], harness := (true, "e8d2eb3da48ba03b314f4c25ef2da65f6bc71c968d93311645814e2b15f360c9"), looks := false }, kinds := [], alts := [], laidByText := true, laidKinds := [.data, .data], laidTests := true, laidLooks := .later }
def FoldBothUptoCardSaid : Prop := Claim7.holds Tryd.pinned (.plain (OpenSpec.upto foldBothSpec)) foldBothUptoCard
end Rows
end Go.Proofs.YtmimffbjghhdhaaDoor
