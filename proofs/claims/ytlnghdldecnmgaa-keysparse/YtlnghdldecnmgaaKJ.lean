/- The document's Bytes. Conditions: none. -/
import Derived.Test.YtlnghdldecnmgaaKH
set_option maxRecDepth 8000
set_option linter.unusedSimpArgs false
set_option linter.unusedVariables false
namespace Go.Kx
open Go.RowKit Go.Bs
theorem letter_cut : ∀ i : Fin 10, (([32, 110, 105, 99, 100, 112, 114, 117, 102, 103, 116] : List UInt8).drop (i.val + 1)).take 1 = [letters.getD i.val 0] := by decide +kernel
theorem letter_at (kind : Int) (h : 1 ≤ kind ∧ kind ≤ 10) : (([32, 110, 105, 99, 100, 112, 114, 117, 102, 103, 116] : List UInt8).drop kind.toNat).take 1 = [letterOf kind] := by
  have := letter_cut ⟨(kind - 1).toNat, by omega⟩
  simp only at this
  rw [show (kind - 1).toNat + 1 = kind.toNat by omega] at this
  exact this
end Go.Kx
namespace Go.Proofs.Ytlnghdldecnmgaa
open Go.RowKit Go.Bs Go.Kx
theorem letter_run (kind : Int) (h : 1 ≤ kind ∧ kind ≤ 10) (W : World) : (Instr.slice 9 (.string ⟨#[32, 110, 105, 99, 100, 112, 114, 117, 102, 103, 116]⟩) (some (.int .i64 kind)) (some (.int .i64 (kind + 1))) none).run Try.prog W = .ok (st [letterOf kind]) W := by
  rw [← letter_at kind h]
  rw [run_slice_string (P := Try.prog) W 9 ⟨#[32, 110, 105, 99, 100, 112, 114, 117, 102, 103, 116]⟩ .i64 .i64 kind (kind + 1) Try.underlying9 (by omega) (by omega) (by show (kind + 1 : Int) ≤ 11; omega), Lib.extract_eq]
  have : (kind + 1).toNat - kind.toNat = 1 := by omega
  rw [this]
  rfl
end Go.Proofs.Ytlnghdldecnmgaa
