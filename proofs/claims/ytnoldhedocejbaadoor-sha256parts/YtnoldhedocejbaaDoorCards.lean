/-
  DERIVED. GIVEN WITH THE SEED: THE CARDS: each row of YtnoldhedocejbaaDoorRows.lean that lists a variable, with what it lists TIED to the program's text (the seventh form; the later family's looks); each row that meets fmt, with fmt's text TOLD by the authors' own Lean function (tested against real Go, not proved from fmt's source: count such statements apart). THE CARD IS WHAT COUNTS. Prove the row's statement (the work); the ties are given (YtnoldhedocejbaaDoorTie.lean); close each card by the builder's one call (the guide's Derived/Test/ToyasCard.lean, 'card_holds'). Laid BY PROGRAM, IN A SANDBOX (cutbox-door.mjs). By AI agents, Wed Nov 11 2026. No macro, syntax, notation, axiom, sorry.
-/
import Derived.Test.YtnoldhedocejbaaDoorRows
import GoSem.ClaimSeven
namespace Go.Proofs.YtnoldhedocejbaaDoor
namespace Rows

/-- THE TIED CARD OF 'chandlerylaw03.Sha256Pads'. -/
def sha256PadsCard : Claim7 := { stood := { row := sha256PadsRow, standIns := [], harness := (true, "58e1c943c296128936f93ca428b399af4a5d428cf3f937e41f07b10f8f846264"), looks := false }, kinds := [], alts := [], laidByText := true, laidKinds := [.data, .data], laidTests := true, laidLooks := .later }
def Sha256PadsCardSaid : Prop := Claim7.holds Tryd.pinned (.plain (OpenSpec.ofChange sha256PadsSpec)) sha256PadsCard

/-- THE TIED CARD OF 'chandlerylaw03.Sha256Mixes'. -/
def sha256MixesCard : Claim7 := { stood := { row := sha256MixesRow, standIns := [], harness := (true, "58e1c943c296128936f93ca428b399af4a5d428cf3f937e41f07b10f8f846264"), looks := false }, kinds := [], alts := [], laidByText := true, laidKinds := [.data, .data], laidTests := true, laidLooks := .later }
def Sha256MixesCardSaid : Prop := Claim7.holds Tryd.pinned (.plain (OpenSpec.ofChange sha256MixesSpec)) sha256MixesCard

/-- THE TIED CARD OF 'chandlerylaw03.Sha256Sums'. -/
def sha256SumsCard : Claim7 := { stood := { row := sha256SumsRow, standIns := [], harness := (true, "58e1c943c296128936f93ca428b399af4a5d428cf3f937e41f07b10f8f846264"), looks := false }, kinds := [], alts := [], laidByText := true, laidKinds := [.data, .data], laidTests := true, laidLooks := .later }
def Sha256SumsCardSaid : Prop := Claim7.holds Tryd.pinned (.plain (OpenSpec.ofChange sha256SumsSpec)) sha256SumsCard

/-- THE TIED CARD OF 'chandlerylaw03.Sha256Steps'. -/
def sha256StepsCard : Claim7 := { stood := { row := sha256StepsRow, standIns := [], harness := (true, "58e1c943c296128936f93ca428b399af4a5d428cf3f937e41f07b10f8f846264"), looks := false }, kinds := [], alts := [], laidByText := true, laidKinds := [.data, .data], laidTests := true, laidLooks := .later }
def Sha256StepsCardSaid : Prop := Claim7.holds Tryd.pinned (.plain (OpenSpec.ofChange sha256StepsSpec)) sha256StepsCard

/-- THE TIED CARD OF 'chandlerylaw03.Sha256Parts'. -/
def sha256PartsCard : Claim7 := { stood := { row := sha256PartsRow, standIns := [], harness := (true, "58e1c943c296128936f93ca428b399af4a5d428cf3f937e41f07b10f8f846264"), looks := false }, kinds := [], alts := [], laidByText := true, laidKinds := [.data, .data], laidTests := true, laidLooks := .later }
def Sha256PartsCardSaid : Prop := Claim7.holds Tryd.pinned (.plain (OpenSpec.ofChange sha256PartsSpec)) sha256PartsCard

/-- THE SECOND FORM's CARD OF 'chandlerylaw03.Sha256Pads'. -/
def sha256PadsUptoCard : Claim7 := { stood := { row := sha256PadsUptoRow, standIns := [], harness := (true, "58e1c943c296128936f93ca428b399af4a5d428cf3f937e41f07b10f8f846264"), looks := false }, kinds := [], alts := [], laidByText := true, laidKinds := [.data, .data], laidTests := true, laidLooks := .later }
def Sha256PadsUptoCardSaid : Prop := Claim7.holds Tryd.pinned (.plain (OpenSpec.upto sha256PadsSpec)) sha256PadsUptoCard

/-- THE SECOND FORM's CARD OF 'chandlerylaw03.Sha256Mixes'. -/
def sha256MixesUptoCard : Claim7 := { stood := { row := sha256MixesUptoRow, standIns := [], harness := (true, "58e1c943c296128936f93ca428b399af4a5d428cf3f937e41f07b10f8f846264"), looks := false }, kinds := [], alts := [], laidByText := true, laidKinds := [.data, .data], laidTests := true, laidLooks := .later }
def Sha256MixesUptoCardSaid : Prop := Claim7.holds Tryd.pinned (.plain (OpenSpec.upto sha256MixesSpec)) sha256MixesUptoCard

/-- THE SECOND FORM's CARD OF 'chandlerylaw03.Sha256Sums'. -/
def sha256SumsUptoCard : Claim7 := { stood := { row := sha256SumsUptoRow, standIns := [], harness := (true, "58e1c943c296128936f93ca428b399af4a5d428cf3f937e41f07b10f8f846264"), looks := false }, kinds := [], alts := [], laidByText := true, laidKinds := [.data, .data], laidTests := true, laidLooks := .later }
def Sha256SumsUptoCardSaid : Prop := Claim7.holds Tryd.pinned (.plain (OpenSpec.upto sha256SumsSpec)) sha256SumsUptoCard

/-- THE SECOND FORM's CARD OF 'chandlerylaw03.Sha256Steps'. -/
def sha256StepsUptoCard : Claim7 := { stood := { row := sha256StepsUptoRow, standIns := [], harness := (true, "58e1c943c296128936f93ca428b399af4a5d428cf3f937e41f07b10f8f846264"), looks := false }, kinds := [], alts := [], laidByText := true, laidKinds := [.data, .data], laidTests := true, laidLooks := .later }
def Sha256StepsUptoCardSaid : Prop := Claim7.holds Tryd.pinned (.plain (OpenSpec.upto sha256StepsSpec)) sha256StepsUptoCard

/-- THE SECOND FORM's CARD OF 'chandlerylaw03.Sha256Parts'. -/
def sha256PartsUptoCard : Claim7 := { stood := { row := sha256PartsUptoRow, standIns := [], harness := (true, "58e1c943c296128936f93ca428b399af4a5d428cf3f937e41f07b10f8f846264"), looks := false }, kinds := [], alts := [], laidByText := true, laidKinds := [.data, .data], laidTests := true, laidLooks := .later }
def Sha256PartsUptoCardSaid : Prop := Claim7.holds Tryd.pinned (.plain (OpenSpec.upto sha256PartsSpec)) sha256PartsUptoCard
end Rows
end Go.Proofs.YtnoldhedocejbaaDoor
