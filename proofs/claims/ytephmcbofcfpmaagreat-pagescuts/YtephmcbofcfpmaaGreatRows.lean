/-
  No cell of these rows narrows 'for every input' (looked for: loops, veiled, ifaces, maps, wideKeys, modest, calm, conditions, laid).
  DERIVED. THE GIVEN ROWS OF THIS SEAT. 7 by the template 'for every input the law returns true; each argument reads behind the call as it read before'; 0 by the template 'total and deterministic' (their statements: YtephmcbofcfpmaaGreatTotals.lean).
  GIVEN WITH THE SEED: the statements are not yours to turn. If you find one false, say at which input.
  Laid BY PROGRAM, IN A SANDBOX (cutbox-rows.mjs): the forced cells as the released guide's own fill.sh prints them over the translation 00af9791350499b3… (all of the seat's roots in one cut). By AI agents, Wed Nov 11 2026. No macro, syntax, notation, axiom, sorry.
-/
import Derived.Test.YtephmcbofcfpmaaGreatChecked
import GoSem.Claim
import GoSem.ClaimJoined
import GoSem.ClaimMapViews
import Derived.JoinedTies
import Derived.KernelRfl
namespace Go.Proofs.YtephmcbofcfpmaaGreat
/- THE CELL 'sum', in the pinned program and in every row, IS THE sha256 OF THE DUMP (.gsa) THAT YtephmcbofcfpmaaGreatProg.lean LOADS. Nothing in Lean hashes anything: it is a label: what it is worth is what the hold of that sum in a sandbox is worth. -/
noncomputable def Tryz.pinned : Pinned := { name := "ytephmcbofcfpmaagreat", sum := "00af9791350499b32e9b1f510873117f293c39e0b78f01c2cae069068e6f841e", checked := Tryz.checked }
namespace Rows
def none {H : Type} : Left H := { results := [], args := [] }

/-- 'chandlerylaw07.PagesDoes': WHATEVER THE INPUT: true; the input reads as it did. -/
def pagesDoesSpec : ChangeSpec := { name := "pagesDoes", fn := fun _ => fun
  | [d1, d2, d3, d4] => { results := [.lit (.bool true)], args := [d1, d2, d3, d4] }
  | _ => none }
def pagesDoesRow : OpenClaim := { program := "ytephmcbofcfpmaagreat", sum := "00af9791350499b32e9b1f510873117f293c39e0b78f01c2cae069068e6f841e", func := "chandlery/chandlerylaw07.PagesDoes", spec := "pagesDoes", unfollowed := true, recurses := true, apart := false }
def PagesDoesSaid : Prop := pagesDoesRow.holds Tryz.pinned (OpenSpec.ofChange pagesDoesSpec)

/-- ITS FALSE NEIGHBOUR: 'it returns false'. Refute it at one input. -/
def pagesDoesWrong : ChangeSpec := { name := "pagesDoes", fn := fun _ => fun
  | [d1, d2, d3, d4] => { results := [.lit (.bool false)], args := [d1, d2, d3, d4] }
  | _ => none }
def PagesDoesWrongFalsely : Prop := pagesDoesRow.holds Tryz.pinned (OpenSpec.ofChange pagesDoesWrong)

/-- 'chandlerylaw07.PagesCuts': WHATEVER THE INPUT: true; the input reads as it did. -/
def pagesCutsSpec : ChangeSpec := { name := "pagesCuts", fn := fun _ => fun
  | [d1, d2, d3, d4] => { results := [.lit (.bool true)], args := [d1, d2, d3, d4] }
  | _ => none }
def pagesCutsRow : OpenClaim := { program := "ytephmcbofcfpmaagreat", sum := "00af9791350499b32e9b1f510873117f293c39e0b78f01c2cae069068e6f841e", func := "chandlery/chandlerylaw07.PagesCuts", spec := "pagesCuts", unfollowed := true, recurses := true, apart := false }
def PagesCutsSaid : Prop := pagesCutsRow.holds Tryz.pinned (OpenSpec.ofChange pagesCutsSpec)

/-- ITS FALSE NEIGHBOUR: 'it returns false'. Refute it at one input. -/
def pagesCutsWrong : ChangeSpec := { name := "pagesCuts", fn := fun _ => fun
  | [d1, d2, d3, d4] => { results := [.lit (.bool false)], args := [d1, d2, d3, d4] }
  | _ => none }
def PagesCutsWrongFalsely : Prop := pagesCutsRow.holds Tryz.pinned (OpenSpec.ofChange pagesCutsWrong)

/-- 'chandlerylaw09.BtreeDoes': WHATEVER THE INPUT: true; the input reads as it did. -/
def btreeDoesSpec : ChangeSpec := { name := "btreeDoes", fn := fun _ => fun
  | [d1, d2] => { results := [.lit (.bool true)], args := [d1, d2] }
  | _ => none }
def btreeDoesRow : OpenClaim := { program := "ytephmcbofcfpmaagreat", sum := "00af9791350499b32e9b1f510873117f293c39e0b78f01c2cae069068e6f841e", func := "chandlery/chandlerylaw09.BtreeDoes", spec := "btreeDoes", inPlace := ["slices.overlaps[chandlery/api.Pair]", "slices.overlaps[chandlery/btree.branch]"], unfollowed := true, recurses := true, apart := false }
def BtreeDoesSaid : Prop := btreeDoesRow.holds Tryz.pinned (OpenSpec.ofChange btreeDoesSpec)

/-- ITS FALSE NEIGHBOUR: 'it returns false'. Refute it at one input. -/
def btreeDoesWrong : ChangeSpec := { name := "btreeDoes", fn := fun _ => fun
  | [d1, d2] => { results := [.lit (.bool false)], args := [d1, d2] }
  | _ => none }
def BtreeDoesWrongFalsely : Prop := btreeDoesRow.holds Tryz.pinned (OpenSpec.ofChange btreeDoesWrong)

/-- 'chandlerylaw09.BtreeWalks': WHATEVER THE INPUT: true; the input reads as it did. -/
def btreeWalksSpec : ChangeSpec := { name := "btreeWalks", fn := fun _ => fun
  | [d] => { results := [.lit (.bool true)], args := [d] }
  | _ => none }
def btreeWalksRow : OpenClaim := { program := "ytephmcbofcfpmaagreat", sum := "00af9791350499b32e9b1f510873117f293c39e0b78f01c2cae069068e6f841e", func := "chandlery/chandlerylaw09.BtreeWalks", spec := "btreeWalks", inPlace := ["slices.overlaps[chandlery/btree.branch]", "slices.overlaps[chandlery/api.Pair]"], unfollowed := true, recurses := true, apart := false }
def BtreeWalksSaid : Prop := btreeWalksRow.holds Tryz.pinned (OpenSpec.ofChange btreeWalksSpec)

/-- ITS FALSE NEIGHBOUR: 'it returns false'. Refute it at one input. -/
def btreeWalksWrong : ChangeSpec := { name := "btreeWalks", fn := fun _ => fun
  | [d] => { results := [.lit (.bool false)], args := [d] }
  | _ => none }
def BtreeWalksWrongFalsely : Prop := btreeWalksRow.holds Tryz.pinned (OpenSpec.ofChange btreeWalksWrong)

/-- 'chandlerylaw09.BtreeEmpty': WHATEVER THE INPUT: true; the input reads as it did. -/
def btreeEmptySpec : ChangeSpec := { name := "btreeEmpty", fn := fun _ => fun
  | [d1, d2, d3] => { results := [.lit (.bool true)], args := [d1, d2, d3] }
  | _ => none }
def btreeEmptyRow : OpenClaim := { program := "ytephmcbofcfpmaagreat", sum := "00af9791350499b32e9b1f510873117f293c39e0b78f01c2cae069068e6f841e", func := "chandlery/chandlerylaw09.BtreeEmpty", spec := "btreeEmpty", inPlace := ["slices.overlaps[chandlery/api.Pair]", "slices.overlaps[chandlery/btree.branch]"], unfollowed := true, recurses := true, apart := false }
def BtreeEmptySaid : Prop := btreeEmptyRow.holds Tryz.pinned (OpenSpec.ofChange btreeEmptySpec)

/-- ITS FALSE NEIGHBOUR: 'it returns false'. Refute it at one input. -/
def btreeEmptyWrong : ChangeSpec := { name := "btreeEmpty", fn := fun _ => fun
  | [d1, d2, d3] => { results := [.lit (.bool false)], args := [d1, d2, d3] }
  | _ => none }
def BtreeEmptyWrongFalsely : Prop := btreeEmptyRow.holds Tryz.pinned (OpenSpec.ofChange btreeEmptyWrong)

/-- 'chandlerylaw09.BtreeKeeps': WHATEVER THE INPUT: true; the input reads as it did. -/
def btreeKeepsSpec : ChangeSpec := { name := "btreeKeeps", fn := fun _ => fun
  | [d1, d2] => { results := [.lit (.bool true)], args := [d1, d2] }
  | _ => none }
def btreeKeepsRow : OpenClaim := { program := "ytephmcbofcfpmaagreat", sum := "00af9791350499b32e9b1f510873117f293c39e0b78f01c2cae069068e6f841e", func := "chandlery/chandlerylaw09.BtreeKeeps", spec := "btreeKeeps", inPlace := ["slices.overlaps[chandlery/api.Pair]", "slices.overlaps[chandlery/btree.branch]"], unfollowed := true, recurses := true, apart := false }
def BtreeKeepsSaid : Prop := btreeKeepsRow.holds Tryz.pinned (OpenSpec.ofChange btreeKeepsSpec)

/-- ITS FALSE NEIGHBOUR: 'it returns false'. Refute it at one input. -/
def btreeKeepsWrong : ChangeSpec := { name := "btreeKeeps", fn := fun _ => fun
  | [d1, d2] => { results := [.lit (.bool false)], args := [d1, d2] }
  | _ => none }
def BtreeKeepsWrongFalsely : Prop := btreeKeepsRow.holds Tryz.pinned (OpenSpec.ofChange btreeKeepsWrong)

/-- 'chandlerylaw09.BtreeNil': WHATEVER THE INPUT: true; the input reads as it did. -/
def btreeNilSpec : ChangeSpec := { name := "btreeNil", fn := fun _ => fun
  | [d1, d2] => { results := [.lit (.bool true)], args := [d1, d2] }
  | _ => none }
def btreeNilRow : OpenClaim := { program := "ytephmcbofcfpmaagreat", sum := "00af9791350499b32e9b1f510873117f293c39e0b78f01c2cae069068e6f841e", func := "chandlery/chandlerylaw09.BtreeNil", spec := "btreeNil", inPlace := ["slices.overlaps[chandlery/api.Pair]", "slices.overlaps[chandlery/btree.branch]"], unfollowed := true, recurses := true, apart := false }
def BtreeNilSaid : Prop := btreeNilRow.holds Tryz.pinned (OpenSpec.ofChange btreeNilSpec)

/-- ITS FALSE NEIGHBOUR: 'it returns false'. Refute it at one input. -/
def btreeNilWrong : ChangeSpec := { name := "btreeNil", fn := fun _ => fun
  | [d1, d2] => { results := [.lit (.bool false)], args := [d1, d2] }
  | _ => none }
def BtreeNilWrongFalsely : Prop := btreeNilRow.holds Tryz.pinned (OpenSpec.ofChange btreeNilWrong)

/- THE SECOND FORM. 'bulk': how many values and letters a reading holds, each counted each time it is reached (what is shared counts as often as it is met; a slice's spare places count too). A statement '..UptoSaid' is the law's where the arguments, and the package variables that the reading takes, are together of bulk at most 1048576: NARROWER than '..Said'. Prove '..Said' where nothing that the law and all that it calls make is longer than what came in: it says more and counts as full. Else prove '..UptoSaid'. A law counts once. -/
mutual
def uptoBulk {H : Type} : DataW H → Nat
  | .lit (.string bytes) => bytes.length + 1
  | .lit _ => 1
  | .nil => 1
  | .ptr d => uptoBulk d + 1
  | .slice elems spare => uptoBulkAll elems + uptoBulkAll spare + 1
  | .agg parts => uptoBulkAll parts + 1
  | .iface _ d => uptoBulk d + 1
  | .map entries => uptoBulkEntries entries + 1
  | .held _ => 1
def uptoBulkAll {H : Type} : List (DataW H) → Nat
  | [] => 0
  | d :: r => uptoBulk d + uptoBulkAll r
def uptoBulkEntries {H : Type} : List (Lit × DataW H) → Nat
  | [] => 0
  | x :: r => uptoBulkEntry x + uptoBulkEntries r
def uptoBulkEntry {H : Type} : Lit × DataW H → Nat
  | (.string bytes, d) => bytes.length + uptoBulk d + 1
  | (_, d) => uptoBulk d + 1
 end
def uptoSmall : (H : Type) → List (DataW H) → Bool := fun _ ds => decide (uptoBulkAll ds ≤ 1048576)
def OpenSpec.upto (s : _root_.Go.ChangeSpec) : _root_.Go.OpenSpec := { _root_.Go.OpenSpec.ofChange s with cond := some uptoSmall }

/-- 'chandlerylaw07.PagesDoes', WHERE WHAT IT READS IS OF BULK AT MOST 1048576: true; the input reads as it did. -/
def pagesDoesUptoRow : OpenClaim := { program := "ytephmcbofcfpmaagreat", sum := "00af9791350499b32e9b1f510873117f293c39e0b78f01c2cae069068e6f841e", func := "chandlery/chandlerylaw07.PagesDoes", spec := "pagesDoes", unfollowed := true, recurses := true, apart := false, narrowed := true }
def PagesDoesUptoSaid : Prop := pagesDoesUptoRow.holds Tryz.pinned (OpenSpec.upto pagesDoesSpec)

/-- 'chandlerylaw07.PagesCuts', WHERE WHAT IT READS IS OF BULK AT MOST 1048576: true; the input reads as it did. -/
def pagesCutsUptoRow : OpenClaim := { program := "ytephmcbofcfpmaagreat", sum := "00af9791350499b32e9b1f510873117f293c39e0b78f01c2cae069068e6f841e", func := "chandlery/chandlerylaw07.PagesCuts", spec := "pagesCuts", unfollowed := true, recurses := true, apart := false, narrowed := true }
def PagesCutsUptoSaid : Prop := pagesCutsUptoRow.holds Tryz.pinned (OpenSpec.upto pagesCutsSpec)

/-- 'chandlerylaw09.BtreeDoes', WHERE WHAT IT READS IS OF BULK AT MOST 1048576: true; the input reads as it did. -/
def btreeDoesUptoRow : OpenClaim := { program := "ytephmcbofcfpmaagreat", sum := "00af9791350499b32e9b1f510873117f293c39e0b78f01c2cae069068e6f841e", func := "chandlery/chandlerylaw09.BtreeDoes", spec := "btreeDoes", inPlace := ["slices.overlaps[chandlery/api.Pair]", "slices.overlaps[chandlery/btree.branch]"], unfollowed := true, recurses := true, apart := false, narrowed := true }
def BtreeDoesUptoSaid : Prop := btreeDoesUptoRow.holds Tryz.pinned (OpenSpec.upto btreeDoesSpec)

/-- 'chandlerylaw09.BtreeWalks', WHERE WHAT IT READS IS OF BULK AT MOST 1048576: true; the input reads as it did. -/
def btreeWalksUptoRow : OpenClaim := { program := "ytephmcbofcfpmaagreat", sum := "00af9791350499b32e9b1f510873117f293c39e0b78f01c2cae069068e6f841e", func := "chandlery/chandlerylaw09.BtreeWalks", spec := "btreeWalks", inPlace := ["slices.overlaps[chandlery/btree.branch]", "slices.overlaps[chandlery/api.Pair]"], unfollowed := true, recurses := true, apart := false, narrowed := true }
def BtreeWalksUptoSaid : Prop := btreeWalksUptoRow.holds Tryz.pinned (OpenSpec.upto btreeWalksSpec)

/-- 'chandlerylaw09.BtreeEmpty', WHERE WHAT IT READS IS OF BULK AT MOST 1048576: true; the input reads as it did. -/
def btreeEmptyUptoRow : OpenClaim := { program := "ytephmcbofcfpmaagreat", sum := "00af9791350499b32e9b1f510873117f293c39e0b78f01c2cae069068e6f841e", func := "chandlery/chandlerylaw09.BtreeEmpty", spec := "btreeEmpty", inPlace := ["slices.overlaps[chandlery/api.Pair]", "slices.overlaps[chandlery/btree.branch]"], unfollowed := true, recurses := true, apart := false, narrowed := true }
def BtreeEmptyUptoSaid : Prop := btreeEmptyUptoRow.holds Tryz.pinned (OpenSpec.upto btreeEmptySpec)

/-- 'chandlerylaw09.BtreeKeeps', WHERE WHAT IT READS IS OF BULK AT MOST 1048576: true; the input reads as it did. -/
def btreeKeepsUptoRow : OpenClaim := { program := "ytephmcbofcfpmaagreat", sum := "00af9791350499b32e9b1f510873117f293c39e0b78f01c2cae069068e6f841e", func := "chandlery/chandlerylaw09.BtreeKeeps", spec := "btreeKeeps", inPlace := ["slices.overlaps[chandlery/api.Pair]", "slices.overlaps[chandlery/btree.branch]"], unfollowed := true, recurses := true, apart := false, narrowed := true }
def BtreeKeepsUptoSaid : Prop := btreeKeepsUptoRow.holds Tryz.pinned (OpenSpec.upto btreeKeepsSpec)

/-- 'chandlerylaw09.BtreeNil', WHERE WHAT IT READS IS OF BULK AT MOST 1048576: true; the input reads as it did. -/
def btreeNilUptoRow : OpenClaim := { program := "ytephmcbofcfpmaagreat", sum := "00af9791350499b32e9b1f510873117f293c39e0b78f01c2cae069068e6f841e", func := "chandlery/chandlerylaw09.BtreeNil", spec := "btreeNil", inPlace := ["slices.overlaps[chandlery/api.Pair]", "slices.overlaps[chandlery/btree.branch]"], unfollowed := true, recurses := true, apart := false, narrowed := true }
def BtreeNilUptoSaid : Prop := btreeNilUptoRow.holds Tryz.pinned (OpenSpec.upto btreeNilSpec)

end Rows
end Go.Proofs.YtephmcbofcfpmaaGreat
