/-
  NARROWER THAN 'FOR EVERY INPUT', by the rows' own cells (each row's printed sentence says how): Sha256Pads: laid · Sha256Mixes: laid · Sha256Sums: laid · Sha256Steps: laid · Sha256Parts: laid.
  DERIVED. THE GIVEN ROWS OF THIS SEAT. 5 by the template 'for every input the law returns true; each argument reads behind the call as it read before'; 0 by the template 'total and deterministic' (their statements: YtnoldhedocejbaaDoorTotals.lean).
  GIVEN WITH THE SEED: the statements are not yours to turn. If you find one false, say at which input.
  Laid BY PROGRAM, IN A SANDBOX (cutbox-rows.mjs): the forced cells as the released guide's own fill.sh prints them over the translation 73be3be1fadcbbff… (all of the seat's roots in one cut). By AI agents, Wed Nov 11 2026. No macro, syntax, notation, axiom, sorry.
-/
import Derived.Test.YtnoldhedocejbaaDoorChecked
import GoSem.Claim
import GoSem.ClaimJoined
import GoSem.ClaimMapViews
import Derived.JoinedTies
import Derived.KernelRfl
namespace Go.Proofs.YtnoldhedocejbaaDoor
/- THE CELL 'sum', in the pinned program and in every row, IS THE sha256 OF THE DUMP (.gsa) THAT YtnoldhedocejbaaDoorProg.lean LOADS. Nothing in Lean hashes anything: it is a label: what it is worth is what the hold of that sum in a sandbox is worth. -/
noncomputable def Tryd.pinned : Pinned := { name := "ytnoldhedocejbaadoor", sum := "73be3be1fadcbbff52189f10c3b774bdb386f77fd80e290d77c37001f5f99caf", checked := Tryd.checked }
namespace Rows
def none {H : Type} : Left H := { results := [], args := [] }

/- WHAT THE LISTED PACKAGE-LEVEL VARIABLES READ AS WHEN THE CALL BEGINS. Each datum BY PROGRAM (the guide's laid-datum.mjs) off the statement by which the dump's own 'gosem.cut.vars' lays the variable. In a bare row this is a premise. The card (YtnoldhedocejbaaDoorCards.lean) ties it to the program's text. -/
def laid_chandlery_sha256_start {H : Type} : DataW H := .agg [.lit (.int .u32 1779033703), .lit (.int .u32 3144134277), .lit (.int .u32 1013904242), .lit (.int .u32 2773480762), .lit (.int .u32 1359893119), .lit (.int .u32 2600822924), .lit (.int .u32 528734635), .lit (.int .u32 1541459225)]
def laid_chandlery_sha256_k {H : Type} : DataW H := .agg [.lit (.int .u32 1116352408), .lit (.int .u32 1899447441), .lit (.int .u32 3049323471), .lit (.int .u32 3921009573), .lit (.int .u32 961987163), .lit (.int .u32 1508970993), .lit (.int .u32 2453635748), .lit (.int .u32 2870763221), .lit (.int .u32 3624381080), .lit (.int .u32 310598401), .lit (.int .u32 607225278), .lit (.int .u32 1426881987), .lit (.int .u32 1925078388), .lit (.int .u32 2162078206), .lit (.int .u32 2614888103), .lit (.int .u32 3248222580), .lit (.int .u32 3835390401), .lit (.int .u32 4022224774), .lit (.int .u32 264347078), .lit (.int .u32 604807628), .lit (.int .u32 770255983), .lit (.int .u32 1249150122), .lit (.int .u32 1555081692), .lit (.int .u32 1996064986), .lit (.int .u32 2554220882), .lit (.int .u32 2821834349), .lit (.int .u32 2952996808), .lit (.int .u32 3210313671), .lit (.int .u32 3336571891), .lit (.int .u32 3584528711), .lit (.int .u32 113926993), .lit (.int .u32 338241895), .lit (.int .u32 666307205), .lit (.int .u32 773529912), .lit (.int .u32 1294757372), .lit (.int .u32 1396182291), .lit (.int .u32 1695183700), .lit (.int .u32 1986661051), .lit (.int .u32 2177026350), .lit (.int .u32 2456956037), .lit (.int .u32 2730485921), .lit (.int .u32 2820302411), .lit (.int .u32 3259730800), .lit (.int .u32 3345764771), .lit (.int .u32 3516065817), .lit (.int .u32 3600352804), .lit (.int .u32 4094571909), .lit (.int .u32 275423344), .lit (.int .u32 430227734), .lit (.int .u32 506948616), .lit (.int .u32 659060556), .lit (.int .u32 883997877), .lit (.int .u32 958139571), .lit (.int .u32 1322822218), .lit (.int .u32 1537002063), .lit (.int .u32 1747873779), .lit (.int .u32 1955562222), .lit (.int .u32 2024104815), .lit (.int .u32 2227730452), .lit (.int .u32 2361852424), .lit (.int .u32 2428436474), .lit (.int .u32 2756734187), .lit (.int .u32 3204031479), .lit (.int .u32 3329325298)]

/-- 'chandlerylaw03.Sha256Pads': WHATEVER THE INPUT: true; the input reads as it did. -/
def sha256PadsSpec : ChangeSpec := { name := "sha256Pads", fn := fun _ => fun
  | [d] => { results := [.lit (.bool true)], args := [d] }
  | _ => none }
def sha256PadsRow : OpenClaim := { program := "ytnoldhedocejbaadoor", sum := "73be3be1fadcbbff52189f10c3b774bdb386f77fd80e290d77c37001f5f99caf", func := "chandlery/chandlerylaw03.Sha256Pads", spec := "sha256Pads", unfollowed := true, recurses := true, named := ["chandlery/sha256.start", "chandlery/sha256.k"], apart := false, laid := [("chandlery/sha256.start", laid_chandlery_sha256_start), ("chandlery/sha256.k", laid_chandlery_sha256_k)] }
def Sha256PadsSaid : Prop := sha256PadsRow.holds Tryd.pinned (OpenSpec.ofChange sha256PadsSpec)

/-- ITS FALSE NEIGHBOUR: 'it returns false'. Refute it at one input. -/
def sha256PadsWrong : ChangeSpec := { name := "sha256Pads", fn := fun _ => fun
  | [d] => { results := [.lit (.bool false)], args := [d] }
  | _ => none }
def Sha256PadsWrongFalsely : Prop := sha256PadsRow.holds Tryd.pinned (OpenSpec.ofChange sha256PadsWrong)

/-- 'chandlerylaw03.Sha256Mixes': WHATEVER THE INPUT: true; the input reads as it did. -/
def sha256MixesSpec : ChangeSpec := { name := "sha256Mixes", fn := fun _ => fun
  | [d1, d2] => { results := [.lit (.bool true)], args := [d1, d2] }
  | _ => none }
def sha256MixesRow : OpenClaim := { program := "ytnoldhedocejbaadoor", sum := "73be3be1fadcbbff52189f10c3b774bdb386f77fd80e290d77c37001f5f99caf", func := "chandlery/chandlerylaw03.Sha256Mixes", spec := "sha256Mixes", unfollowed := true, recurses := true, named := ["chandlery/sha256.k", "chandlery/sha256.start"], apart := false, laid := [("chandlery/sha256.start", laid_chandlery_sha256_start), ("chandlery/sha256.k", laid_chandlery_sha256_k)] }
def Sha256MixesSaid : Prop := sha256MixesRow.holds Tryd.pinned (OpenSpec.ofChange sha256MixesSpec)

/-- ITS FALSE NEIGHBOUR: 'it returns false'. Refute it at one input. -/
def sha256MixesWrong : ChangeSpec := { name := "sha256Mixes", fn := fun _ => fun
  | [d1, d2] => { results := [.lit (.bool false)], args := [d1, d2] }
  | _ => none }
def Sha256MixesWrongFalsely : Prop := sha256MixesRow.holds Tryd.pinned (OpenSpec.ofChange sha256MixesWrong)

/-- 'chandlerylaw03.Sha256Sums': WHATEVER THE INPUT: true; the input reads as it did. -/
def sha256SumsSpec : ChangeSpec := { name := "sha256Sums", fn := fun _ => fun
  | [d] => { results := [.lit (.bool true)], args := [d] }
  | _ => none }
def sha256SumsRow : OpenClaim := { program := "ytnoldhedocejbaadoor", sum := "73be3be1fadcbbff52189f10c3b774bdb386f77fd80e290d77c37001f5f99caf", func := "chandlery/chandlerylaw03.Sha256Sums", spec := "sha256Sums", unfollowed := true, recurses := true, named := ["chandlery/sha256.start", "chandlery/sha256.k"], apart := false, laid := [("chandlery/sha256.start", laid_chandlery_sha256_start), ("chandlery/sha256.k", laid_chandlery_sha256_k)] }
def Sha256SumsSaid : Prop := sha256SumsRow.holds Tryd.pinned (OpenSpec.ofChange sha256SumsSpec)

/-- ITS FALSE NEIGHBOUR: 'it returns false'. Refute it at one input. -/
def sha256SumsWrong : ChangeSpec := { name := "sha256Sums", fn := fun _ => fun
  | [d] => { results := [.lit (.bool false)], args := [d] }
  | _ => none }
def Sha256SumsWrongFalsely : Prop := sha256SumsRow.holds Tryd.pinned (OpenSpec.ofChange sha256SumsWrong)

/-- 'chandlerylaw03.Sha256Steps': WHATEVER THE INPUT: true; the input reads as it did. -/
def sha256StepsSpec : ChangeSpec := { name := "sha256Steps", fn := fun _ => fun
  | [d] => { results := [.lit (.bool true)], args := [d] }
  | _ => none }
def sha256StepsRow : OpenClaim := { program := "ytnoldhedocejbaadoor", sum := "73be3be1fadcbbff52189f10c3b774bdb386f77fd80e290d77c37001f5f99caf", func := "chandlery/chandlerylaw03.Sha256Steps", spec := "sha256Steps", unfollowed := true, recurses := true, named := ["chandlery/sha256.start", "chandlery/sha256.k"], apart := false, laid := [("chandlery/sha256.start", laid_chandlery_sha256_start), ("chandlery/sha256.k", laid_chandlery_sha256_k)] }
def Sha256StepsSaid : Prop := sha256StepsRow.holds Tryd.pinned (OpenSpec.ofChange sha256StepsSpec)

/-- ITS FALSE NEIGHBOUR: 'it returns false'. Refute it at one input. -/
def sha256StepsWrong : ChangeSpec := { name := "sha256Steps", fn := fun _ => fun
  | [d] => { results := [.lit (.bool false)], args := [d] }
  | _ => none }
def Sha256StepsWrongFalsely : Prop := sha256StepsRow.holds Tryd.pinned (OpenSpec.ofChange sha256StepsWrong)

/-- 'chandlerylaw03.Sha256Parts': WHATEVER THE INPUT: true; the input reads as it did. -/
def sha256PartsSpec : ChangeSpec := { name := "sha256Parts", fn := fun _ => fun
  | [d] => { results := [.lit (.bool true)], args := [d] }
  | _ => none }
def sha256PartsRow : OpenClaim := { program := "ytnoldhedocejbaadoor", sum := "73be3be1fadcbbff52189f10c3b774bdb386f77fd80e290d77c37001f5f99caf", func := "chandlery/chandlerylaw03.Sha256Parts", spec := "sha256Parts", unfollowed := true, recurses := true, named := ["chandlery/sha256.start", "chandlery/sha256.k"], apart := false, laid := [("chandlery/sha256.start", laid_chandlery_sha256_start), ("chandlery/sha256.k", laid_chandlery_sha256_k)] }
def Sha256PartsSaid : Prop := sha256PartsRow.holds Tryd.pinned (OpenSpec.ofChange sha256PartsSpec)

/-- ITS FALSE NEIGHBOUR: 'it returns false'. Refute it at one input. -/
def sha256PartsWrong : ChangeSpec := { name := "sha256Parts", fn := fun _ => fun
  | [d] => { results := [.lit (.bool false)], args := [d] }
  | _ => none }
def Sha256PartsWrongFalsely : Prop := sha256PartsRow.holds Tryd.pinned (OpenSpec.ofChange sha256PartsWrong)

/- THE SECOND FORM. 'bulk': how many values and letters a reading holds, each counted each time it is reached (what is shared counts as often as it is met; a slice's spare places count too). A statement '..UptoSaid' is the law's where the arguments, and the package variables that the reading takes, are together of bulk at most 1048576: NARROWER than '..Said'. Prove '..Said' where nothing that the law and all that it calls make is longer than what came in: it says more and counts as full. Else prove '..UptoSaid'. A law counts once. -/
mutual
def uptoBulk {H : Type} : DataW H → Nat
  | .lit (.string bytes) => bytes.length + 1
  | .lit _ => 1
  | .nil => 1
  | .ptr d => uptoBulk d + 1
  | .slice elems spare => uptoBulkAll elems + uptoBulkAll spare + 1
  | .agg parts => uptoBulkAll parts + 1
  | .iface _ d => uptoBulk d + 1
  | .map entries => uptoBulkEntries entries + 1
  | .held _ => 1
def uptoBulkAll {H : Type} : List (DataW H) → Nat
  | [] => 0
  | d :: r => uptoBulk d + uptoBulkAll r
def uptoBulkEntries {H : Type} : List (Lit × DataW H) → Nat
  | [] => 0
  | x :: r => uptoBulkEntry x + uptoBulkEntries r
def uptoBulkEntry {H : Type} : Lit × DataW H → Nat
  | (.string bytes, d) => bytes.length + uptoBulk d + 1
  | (_, d) => uptoBulk d + 1
 end
def uptoSmall : (H : Type) → List (DataW H) → Bool := fun _ ds => decide (uptoBulkAll ds ≤ 1048576)
def OpenSpec.upto (s : _root_.Go.ChangeSpec) : _root_.Go.OpenSpec := { _root_.Go.OpenSpec.ofChange s with cond := some uptoSmall }

/-- 'chandlerylaw03.Sha256Pads', WHERE WHAT IT READS IS OF BULK AT MOST 1048576: true; the input reads as it did. -/
def sha256PadsUptoRow : OpenClaim := { program := "ytnoldhedocejbaadoor", sum := "73be3be1fadcbbff52189f10c3b774bdb386f77fd80e290d77c37001f5f99caf", func := "chandlery/chandlerylaw03.Sha256Pads", spec := "sha256Pads", unfollowed := true, recurses := true, named := ["chandlery/sha256.start", "chandlery/sha256.k"], apart := false, laid := [("chandlery/sha256.start", laid_chandlery_sha256_start), ("chandlery/sha256.k", laid_chandlery_sha256_k)], narrowed := true }
def Sha256PadsUptoSaid : Prop := sha256PadsUptoRow.holds Tryd.pinned (OpenSpec.upto sha256PadsSpec)

/-- 'chandlerylaw03.Sha256Mixes', WHERE WHAT IT READS IS OF BULK AT MOST 1048576: true; the input reads as it did. -/
def sha256MixesUptoRow : OpenClaim := { program := "ytnoldhedocejbaadoor", sum := "73be3be1fadcbbff52189f10c3b774bdb386f77fd80e290d77c37001f5f99caf", func := "chandlery/chandlerylaw03.Sha256Mixes", spec := "sha256Mixes", unfollowed := true, recurses := true, named := ["chandlery/sha256.k", "chandlery/sha256.start"], apart := false, laid := [("chandlery/sha256.start", laid_chandlery_sha256_start), ("chandlery/sha256.k", laid_chandlery_sha256_k)], narrowed := true }
def Sha256MixesUptoSaid : Prop := sha256MixesUptoRow.holds Tryd.pinned (OpenSpec.upto sha256MixesSpec)

/-- 'chandlerylaw03.Sha256Sums', WHERE WHAT IT READS IS OF BULK AT MOST 1048576: true; the input reads as it did. -/
def sha256SumsUptoRow : OpenClaim := { program := "ytnoldhedocejbaadoor", sum := "73be3be1fadcbbff52189f10c3b774bdb386f77fd80e290d77c37001f5f99caf", func := "chandlery/chandlerylaw03.Sha256Sums", spec := "sha256Sums", unfollowed := true, recurses := true, named := ["chandlery/sha256.start", "chandlery/sha256.k"], apart := false, laid := [("chandlery/sha256.start", laid_chandlery_sha256_start), ("chandlery/sha256.k", laid_chandlery_sha256_k)], narrowed := true }
def Sha256SumsUptoSaid : Prop := sha256SumsUptoRow.holds Tryd.pinned (OpenSpec.upto sha256SumsSpec)

/-- 'chandlerylaw03.Sha256Steps', WHERE WHAT IT READS IS OF BULK AT MOST 1048576: true; the input reads as it did. -/
def sha256StepsUptoRow : OpenClaim := { program := "ytnoldhedocejbaadoor", sum := "73be3be1fadcbbff52189f10c3b774bdb386f77fd80e290d77c37001f5f99caf", func := "chandlery/chandlerylaw03.Sha256Steps", spec := "sha256Steps", unfollowed := true, recurses := true, named := ["chandlery/sha256.start", "chandlery/sha256.k"], apart := false, laid := [("chandlery/sha256.start", laid_chandlery_sha256_start), ("chandlery/sha256.k", laid_chandlery_sha256_k)], narrowed := true }
def Sha256StepsUptoSaid : Prop := sha256StepsUptoRow.holds Tryd.pinned (OpenSpec.upto sha256StepsSpec)

/-- 'chandlerylaw03.Sha256Parts', WHERE WHAT IT READS IS OF BULK AT MOST 1048576: true; the input reads as it did. -/
def sha256PartsUptoRow : OpenClaim := { program := "ytnoldhedocejbaadoor", sum := "73be3be1fadcbbff52189f10c3b774bdb386f77fd80e290d77c37001f5f99caf", func := "chandlery/chandlerylaw03.Sha256Parts", spec := "sha256Parts", unfollowed := true, recurses := true, named := ["chandlery/sha256.start", "chandlery/sha256.k"], apart := false, laid := [("chandlery/sha256.start", laid_chandlery_sha256_start), ("chandlery/sha256.k", laid_chandlery_sha256_k)], narrowed := true }
def Sha256PartsUptoSaid : Prop := sha256PartsUptoRow.holds Tryd.pinned (OpenSpec.upto sha256PartsSpec)

end Rows
end Go.Proofs.YtnoldhedocejbaaDoor
