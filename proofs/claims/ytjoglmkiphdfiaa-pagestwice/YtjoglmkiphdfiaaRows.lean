/-
  No cell of these rows narrows 'for every input' (looked for: loops, veiled, ifaces, maps, wideKeys, modest, calm, conditions, laid).
  DERIVED. THE GIVEN ROWS OF THIS SEAT. 3 by the template 'for every input the law returns true; each argument reads behind the call as it read before'; 0 by the template 'total and deterministic' (their statements: YtjoglmkiphdfiaaTotals.lean).
  GIVEN WITH THE SEED: the statements are not yours to turn. If you find one false, say at which input.
  Laid BY PROGRAM, IN A SANDBOX (cutbox-rows.mjs): the forced cells as the released guide's own fill.sh prints them over the translation 6f306ed89985a853… (all of the seat's roots in one cut). By AI agents, Wed Nov 11 2026. No macro, syntax, notation, axiom, sorry.
-/
import Derived.Test.YtjoglmkiphdfiaaChecked
import GoSem.Claim
import GoSem.ClaimJoined
import GoSem.ClaimMapViews
import Derived.JoinedTies
import Derived.KernelRfl
namespace Go.Proofs.Ytjoglmkiphdfiaa
/- THE CELL 'sum', in the pinned program and in every row, IS THE sha256 OF THE DUMP (.gsa) THAT YtjoglmkiphdfiaaProg.lean LOADS. Nothing in Lean hashes anything: it is a label: what it is worth is what the hold of that sum in a sandbox is worth. -/
noncomputable def Try.pinned : Pinned := { name := "ytjoglmkiphdfiaa", sum := "6f306ed89985a853924b5b09c2c412e23f994db23fdd8af57d276e083b3c2dca", checked := Try.checked }
namespace Rows
def none {H : Type} : Left H := { results := [], args := [] }

/-- 'chandlerylaw07.PagesTwice': WHATEVER THE INPUT: true; the input reads as it did. -/
def pagesTwiceSpec : ChangeSpec := { name := "pagesTwice", fn := fun _ => fun
  | [d1, d2, d3] => { results := [.lit (.bool true)], args := [d1, d2, d3] }
  | _ => none }
def pagesTwiceRow : OpenClaim := { program := "ytjoglmkiphdfiaa", sum := "6f306ed89985a853924b5b09c2c412e23f994db23fdd8af57d276e083b3c2dca", func := "chandlery/chandlerylaw07.PagesTwice", spec := "pagesTwice", unfollowed := true, recurses := true, apart := false }
def PagesTwiceSaid : Prop := pagesTwiceRow.holds Try.pinned (OpenSpec.ofChange pagesTwiceSpec)

/-- ITS FALSE NEIGHBOUR: 'it returns false'. Refute it at one input. -/
def pagesTwiceWrong : ChangeSpec := { name := "pagesTwice", fn := fun _ => fun
  | [d1, d2, d3] => { results := [.lit (.bool false)], args := [d1, d2, d3] }
  | _ => none }
def PagesTwiceWrongFalsely : Prop := pagesTwiceRow.holds Try.pinned (OpenSpec.ofChange pagesTwiceWrong)

/-- 'chandlerylaw07.PagesNil': WHATEVER THE INPUT: true; the input reads as it did. -/
def pagesNilSpec : ChangeSpec := { name := "pagesNil", fn := fun _ => fun
  | [d1, d2] => { results := [.lit (.bool true)], args := [d1, d2] }
  | _ => none }
def pagesNilRow : OpenClaim := { program := "ytjoglmkiphdfiaa", sum := "6f306ed89985a853924b5b09c2c412e23f994db23fdd8af57d276e083b3c2dca", func := "chandlery/chandlerylaw07.PagesNil", spec := "pagesNil", unfollowed := true, recurses := true, apart := false }
def PagesNilSaid : Prop := pagesNilRow.holds Try.pinned (OpenSpec.ofChange pagesNilSpec)

/-- ITS FALSE NEIGHBOUR: 'it returns false'. Refute it at one input. -/
def pagesNilWrong : ChangeSpec := { name := "pagesNil", fn := fun _ => fun
  | [d1, d2] => { results := [.lit (.bool false)], args := [d1, d2] }
  | _ => none }
def PagesNilWrongFalsely : Prop := pagesNilRow.holds Try.pinned (OpenSpec.ofChange pagesNilWrong)

/-- 'chandlerylaw07.PagesGive': WHATEVER THE INPUT: true; the input reads as it did. -/
def pagesGiveSpec : ChangeSpec := { name := "pagesGive", fn := fun _ => fun
  | [d1, d2, d3, d4] => { results := [.lit (.bool true)], args := [d1, d2, d3, d4] }
  | _ => none }
def pagesGiveRow : OpenClaim := { program := "ytjoglmkiphdfiaa", sum := "6f306ed89985a853924b5b09c2c412e23f994db23fdd8af57d276e083b3c2dca", func := "chandlery/chandlerylaw07.PagesGive", spec := "pagesGive", unfollowed := true, recurses := true, apart := false }
def PagesGiveSaid : Prop := pagesGiveRow.holds Try.pinned (OpenSpec.ofChange pagesGiveSpec)

/-- ITS FALSE NEIGHBOUR: 'it returns false'. Refute it at one input. -/
def pagesGiveWrong : ChangeSpec := { name := "pagesGive", fn := fun _ => fun
  | [d1, d2, d3, d4] => { results := [.lit (.bool false)], args := [d1, d2, d3, d4] }
  | _ => none }
def PagesGiveWrongFalsely : Prop := pagesGiveRow.holds Try.pinned (OpenSpec.ofChange pagesGiveWrong)

/- THE SECOND FORM. 'bulk': how many values and letters a reading holds, each counted each time it is reached (what is shared counts as often as it is met; a slice's spare places count too). A statement '..UptoSaid' is the law's where the arguments, and the package variables that the reading takes, are together of bulk at most 1048576: NARROWER than '..Said'. Prove '..Said' where nothing that the law and all that it calls make is longer than what came in: it says more and counts as full. Else prove '..UptoSaid'. A law counts once. -/
mutual
def uptoBulk {H : Type} : DataW H → Nat
  | .lit (.string bytes) => bytes.length + 1
  | .lit _ => 1
  | .nil => 1
  | .ptr d => uptoBulk d + 1
  | .slice elems spare => uptoBulkAll elems + uptoBulkAll spare + 1
  | .agg parts => uptoBulkAll parts + 1
  | .iface _ d => uptoBulk d + 1
  | .map entries => uptoBulkEntries entries + 1
  | .held _ => 1
def uptoBulkAll {H : Type} : List (DataW H) → Nat
  | [] => 0
  | d :: r => uptoBulk d + uptoBulkAll r
def uptoBulkEntries {H : Type} : List (Lit × DataW H) → Nat
  | [] => 0
  | x :: r => uptoBulkEntry x + uptoBulkEntries r
def uptoBulkEntry {H : Type} : Lit × DataW H → Nat
  | (.string bytes, d) => bytes.length + uptoBulk d + 1
  | (_, d) => uptoBulk d + 1
 end
def uptoSmall : (H : Type) → List (DataW H) → Bool := fun _ ds => decide (uptoBulkAll ds ≤ 1048576)
def OpenSpec.upto (s : _root_.Go.ChangeSpec) : _root_.Go.OpenSpec := { _root_.Go.OpenSpec.ofChange s with cond := some uptoSmall }

/-- 'chandlerylaw07.PagesTwice', WHERE WHAT IT READS IS OF BULK AT MOST 1048576: true; the input reads as it did. -/
def pagesTwiceUptoRow : OpenClaim := { program := "ytjoglmkiphdfiaa", sum := "6f306ed89985a853924b5b09c2c412e23f994db23fdd8af57d276e083b3c2dca", func := "chandlery/chandlerylaw07.PagesTwice", spec := "pagesTwice", unfollowed := true, recurses := true, apart := false, narrowed := true }
def PagesTwiceUptoSaid : Prop := pagesTwiceUptoRow.holds Try.pinned (OpenSpec.upto pagesTwiceSpec)

/-- 'chandlerylaw07.PagesNil', WHERE WHAT IT READS IS OF BULK AT MOST 1048576: true; the input reads as it did. -/
def pagesNilUptoRow : OpenClaim := { program := "ytjoglmkiphdfiaa", sum := "6f306ed89985a853924b5b09c2c412e23f994db23fdd8af57d276e083b3c2dca", func := "chandlery/chandlerylaw07.PagesNil", spec := "pagesNil", unfollowed := true, recurses := true, apart := false, narrowed := true }
def PagesNilUptoSaid : Prop := pagesNilUptoRow.holds Try.pinned (OpenSpec.upto pagesNilSpec)

/-- 'chandlerylaw07.PagesGive', WHERE WHAT IT READS IS OF BULK AT MOST 1048576: true; the input reads as it did. -/
def pagesGiveUptoRow : OpenClaim := { program := "ytjoglmkiphdfiaa", sum := "6f306ed89985a853924b5b09c2c412e23f994db23fdd8af57d276e083b3c2dca", func := "chandlery/chandlerylaw07.PagesGive", spec := "pagesGive", unfollowed := true, recurses := true, apart := false, narrowed := true }
def PagesGiveUptoSaid : Prop := pagesGiveUptoRow.holds Try.pinned (OpenSpec.upto pagesGiveSpec)

end Rows
end Go.Proofs.Ytjoglmkiphdfiaa
