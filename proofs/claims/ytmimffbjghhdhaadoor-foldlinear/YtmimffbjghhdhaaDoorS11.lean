/- Hex, Both, awake, and the document's Pad. Conditions: none. -/
import Derived.Test.YtmimffbjghhdhaaDoorS9
import Derived.Test.YtmimffbjghhdhaaDoorNum
import Derived.Test.YtmimffbjghhdhaaDoorShaEv
import Derived.Deep.QuietTactic
import Derived.BigQuiet
import Derived.Lib.SlBytesConst
namespace Go.Proofs.YtmimffbjghhdhaaDoor
open Go.RowKit Go.Bs Go.Sha

theorem slice16 (a : Nat) (ha : a < 16) (W : World) : (Instr.slice 9 (.string ⟨#[48, 49, 50, 51, 52, 53, 54, 55, 56, 57, 97, 98, 99, 100, 101, 102]⟩) (some (.int .i64 (a : Int))) (some (.int .i64 ((a : Int) + 1))) none).run Tryd.prog W = .ok (.string ⟨#[h16 a]⟩) W := by
  have e := run_slice_string (P := Tryd.prog) W 9 ⟨#[48, 49, 50, 51, 52, 53, 54, 55, 56, 57, 97, 98, 99, 100, 101, 102]⟩ .i64 .i64 (a : Int) ((a : Int) + 1) Tryd.underlying9 (by omega) (by omega) (by
    rw [show (⟨#[48, 49, 50, 51, 52, 53, 54, 55, 56, 57, 97, 98, 99, 100, 101, 102]⟩ : ByteArray).size = 16 from rfl]; omega)
  rw [e, ← ext16 a ha]
  rfl

theorem add_str (x y : List UInt8) (S T U : ByteArray) (hS : ⟨x.toArray⟩ = S) (hT : ⟨y.toArray⟩ = T) (hU : ⟨(x ++ y).toArray⟩ = U) (h : x.length + y.length ≤ 9223372036854775807) (W : World) : (Op.stringOp .add S T).run Tryd.prog W = .ok (.string U) W := by
  subst hS hT hU
  rw [run_string_add_sum (P := Tryd.prog) W _ _ (by show x.toArray.size + y.toArray.size ≤ _; simpa using h), app_str]

set_option maxHeartbeats 400000 in
theorem Both_any (A : Option Addr) (n c : Nat) (A' : Option Addr) (n' c' : Nat) (xs bs : List UInt8) (w : World) (h : Rd w A n c xs) (h' : Rd w A' n' c' bs) (hn : n ≤ 17592186044416) (hn' : n' ≤ 17592186044416) :
    Calls Tryd.prog 18 #[.slice A n c, .slice A' n' c'] w fun e w' => ∃ A'' c'', e = .returned (.slice A'' (n + n') c'') ∧ Rd w' A'' (n + n') c'' (xs ++ bs) ∧ Below w.heap.size w w' := by
  have HL := Lib.hid h.len
  have HL' := Lib.hid h'.len
  go_enter Tryd.func18, Tryd.ntmps18
  go_wp2_with (first
    | (at_builtin; refine wpList_app _ rfl (.tmp 6) (.tmp 7) _ rfl w.heap.size 5 Tryd.underlying22 u8_info (.slice none 0 0) [] rfl (Own.nil _ _ _) A n c xs rfl h (by simp; omega) (Nat.le_refl _) ?_; intro v1 w1 ho1 hb1)
    | (at_builtin; refine wpList_app _ rfl (.tmp 9) (.tmp 10) _ rfl w.heap.size 5 Tryd.underlying22 u8_info v1 ([] ++ xs) rfl ho1 A' n' c' bs rfl (h'.keep hb1) (by rw [List.nil_append, HL.out]; omega) hb1.size ?_; intro v2 w2 ho2 hb2))
  go_ret
  obtain ⟨A2, c2, rfl, hr⟩ := ho2.rd
  rw [List.nil_append, List.length_append, HL.out, HL'.out] at hr
  exact ⟨A2, c2, by rw [List.nil_append, List.length_append, HL.out, HL'.out]; rfl, hr, hb1.trans hb2⟩


theorem hex_nil : (hexL (sumB [])) = [101, 51, 98, 48, 99, 52, 52, 50, 57, 56, 102, 99, 49, 99, 49, 52, 57, 97, 102, 98, 102, 52, 99, 56, 57, 57, 54, 102, 98, 57, 50, 52, 50, 55, 97, 101, 52, 49, 101, 52, 54, 52, 57, 98, 57, 51, 52, 99, 97, 52, 57, 53, 57, 57, 49, 98, 55, 56, 53, 50, 98, 56, 53, 53] := by rw [sum_nil]; decide +kernel
theorem hex_abc : (hexL (sumB [97, 98, 99])) = [98, 97, 55, 56, 49, 54, 98, 102, 56, 102, 48, 49, 99, 102, 101, 97, 52, 49, 52, 49, 52, 48, 100, 101, 53, 100, 97, 101, 50, 50, 50, 51, 98, 48, 48, 51, 54, 49, 97, 51, 57, 54, 49, 55, 55, 97, 57, 99, 98, 52, 49, 48, 102, 102, 54, 49, 102, 50, 48, 48, 49, 53, 97, 100] := by rw [sum_abc]; decide +kernel

theorem rd_const (w : World) (fr : Nat × Nat) : Rd (w.alloc (.cells #[.int .u8 97, .int .u8 98, .int .u8 99] 5 fr)) (some ⟨w.heap.size, 0, none⟩) 3 3 [97, 98, 99] := by
  refine ⟨rfl, Nat.le_refl _, fun _ => ⟨w.heap.size, 0, rfl, by simp, fun j hj => ?_⟩⟩
  rw [Nat.zero_add, cell_of_row _ w.heap.size j _ 5 fr (heap_alloc_new w _)]
  have : j = 0 ∨ j = 1 ∨ j = 2 := by omega
  rcases this with h | h | h <;> subst h <;> rfl

end Go.Proofs.YtmimffbjghhdhaaDoor
