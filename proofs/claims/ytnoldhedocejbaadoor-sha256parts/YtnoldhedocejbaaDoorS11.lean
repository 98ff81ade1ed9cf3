/- Hex, Both, awake, and the document's Pad. Conditions: none. -/
import Derived.Test.YtnoldhedocejbaaDoorS9
import Derived.Test.YtnoldhedocejbaaDoorNum
import Derived.Test.YtnoldhedocejbaaDoorShaEv
import Derived.Deep.QuietTactic
import Derived.BigQuiet
import Derived.Lib.SlBytesConst
namespace Go.Proofs.YtnoldhedocejbaaDoor
open Go.RowKit Go.Bs Go.Sha

theorem slice16 (a : Nat) (ha : a < 16) (W : World) : (Instr.slice 9 (.string ⟨#[48, 49, 50, 51, 52, 53, 54, 55, 56, 57, 97, 98, 99, 100, 101, 102]⟩) (some (.int .i64 (a : Int))) (some (.int .i64 ((a : Int) + 1))) none).run Tryd.prog W = .ok (.string ⟨#[h16 a]⟩) W := by
  have e := run_slice_string (P := Tryd.prog) W 9 ⟨#[48, 49, 50, 51, 52, 53, 54, 55, 56, 57, 97, 98, 99, 100, 101, 102]⟩ .i64 .i64 (a : Int) ((a : Int) + 1) Tryd.underlying9 (by omega) (by omega) (by
    rw [show (⟨#[48, 49, 50, 51, 52, 53, 54, 55, 56, 57, 97, 98, 99, 100, 101, 102]⟩ : ByteArray).size = 16 from rfl]; omega)
  rw [e, ← ext16 a ha]
  rfl

theorem add_str (x y : List UInt8) (S T U : ByteArray) (hS : ⟨x.toArray⟩ = S) (hT : ⟨y.toArray⟩ = T) (hU : ⟨(x ++ y).toArray⟩ = U) (h : x.length + y.length ≤ 9223372036854775807) (W : World) : (Op.stringOp .add S T).run Tryd.prog W = .ok (.string U) W := by
  subst hS hT hU
  rw [run_string_add_sum (P := Tryd.prog) W _ _ (by show x.toArray.size + y.toArray.size ≤ _; simpa using h), app_str]

set_option maxHeartbeats 400000 in
theorem rHex_any (A : Option Addr) (n c : Nat) (bs : List UInt8) (w : World) (h : Rd w A n c bs) (hn : n ≤ 17592186044416) :
    Calls Tryd.prog 24 #[.slice A n c] w fun e w' => e = .returned (.string ⟨(hexL bs).toArray⟩) ∧ Below w.heap.size w w' := by
  have HR := Lib.hid h
  have HL := Lib.hid h.len
  clear h
  go_enter Tryd.func24, Tryd.ntmps24
  go_wp2
  go_loopw [4, 5] (fun s i wr => ∃ k : Nat, k ≤ n ∧ i = .int .i64 k ∧ s = .string ⟨(hexL (bs.take k)).toArray⟩ ∧ Below w.heap.size w wr) (fun _ i _ => n - (intOf i).toNat)
  case atStart => exact ⟨0, Nat.zero_le _, rfl, by simp [hexL], Below.refl _ _⟩
  case round =>
    obtain ⟨k, hk, rfl, rfl, hG⟩ := hrel
    by_cases hlt : k < n
    · obtain ⟨g0, o, rfl, hg0, hc⟩ := (HR.out.keep hG).cells (by omega)
      obtain ⟨x, hx⟩ : ∃ x, bs.getD k 0 = x := ⟨_, rfl⟩
      have hcell := hc k hlt
      rw [hx] at hcell
      have hx8 : x.toNat < 256 := x.toNat_lt
      have HX := Lib.hid hx
      have HGG := Lib.hid hG
      clear hc hx hG hg0
      obtain ⟨S, hS⟩ : ∃ S : ByteArray, ⟨(hexL (bs.take k)).toArray⟩ = S := ⟨_, rfl⟩
      rw [hS]
      have HS := Lib.hid hS
      clear hS
      obtain ⟨S2, hS2⟩ : ∃ S : ByteArray, ⟨(hexL (bs.take k) ++ [h16 (x.toNat / 16)] ++ [h16 (x.toNat % 16)]).toArray⟩ = S := ⟨_, rfl⟩
      obtain ⟨S1, hS1⟩ : ∃ S : ByteArray, ⟨(hexL (bs.take k) ++ [h16 (x.toNat / 16)]).toArray⟩ = S := ⟨_, rfl⟩
      have hl2 : (hexL (bs.take k)).length ≤ 2 * n := by rw [hexL_length, List.length_take]; omega
      have hadd1 := add_str _ [h16 (x.toNat / 16)] S ⟨#[h16 (x.toNat / 16)]⟩ S1 HS.out rfl hS1 (by simp only [List.length_cons, List.length_nil]; omega)
      have hadd2 := add_str _ [h16 (x.toNat % 16)] S1 ⟨#[h16 (x.toNat % 16)]⟩ S2 hS1 rfl hS2 (by simp only [List.length_append, List.length_cons, List.length_nil]; omega)
      have HS2 := Lib.hid hS2
      obtain ⟨a, ha⟩ : ∃ a, x.toNat / 16 = a := ⟨_, rfl⟩
      obtain ⟨b, hb⟩ : ∃ b, x.toNat % 16 = b := ⟨_, rfl⟩
      have hxa : (x.toNat : Int) / 16 = (a : Int) := by omega
      have hxb : (x.toNat : Int) % 16 = (b : Int) := by omega
      have ha16 : a < 16 := by omega
      have hb16 : b < 16 := by omega
      have hsa := slice16 a ha16
      have hsb := slice16 b hb16
      have q1 : IntKind.i64.wrap (a : Int) = (a : Int) := IntWalk.i64_in _ (by omega)
      have q2 : IntKind.i64.wrap ((a : Int) + 1) = (a : Int) + 1 := IntWalk.i64_in _ (by omega)
      have q3 : IntKind.i64.wrap (b : Int) = (b : Int) := IntWalk.i64_in _ (by omega)
      have q4 : IntKind.i64.wrap ((b : Int) + 1) = (b : Int) + 1 := IntWalk.i64_in _ (by omega)
      have HAB := Lib.hid (And.intro ha hb)
      rw [ha] at hadd1
      rw [hb] at hadd2
      clear ha hb hS1 hS2 hl2
      go_wp2
      go_quiet (fail)
      go_wp2
      go_roundw
      case rel =>
        refine ⟨k + 1, by omega, by go_num, ?_, drewK HGG.out _⟩
        rw [← HS2.out, take_snoc bs k (by rw [HL.out]; exact hlt), hexL_append, HX.out]
        simp [hexL]
      case measure => simp [intOf]; omega
    · obtain rfl : k = n := by omega
      have HGG := Lib.hid hG
      clear hG
      go_wp2
      go_ret
      refine ⟨?_, HGG.out⟩
      rw [List.take_of_length_le (by rw [HL.out]; exact Nat.le_refl _)]
      rfl

set_option maxHeartbeats 400000 in
theorem Both_any (A : Option Addr) (n c : Nat) (A' : Option Addr) (n' c' : Nat) (xs bs : List UInt8) (w : World) (h : Rd w A n c xs) (h' : Rd w A' n' c' bs) (hn : n ≤ 17592186044416) (hn' : n' ≤ 17592186044416) :
    Calls Tryd.prog 19 #[.slice A n c, .slice A' n' c'] w fun e w' => ∃ A'' c'', e = .returned (.slice A'' (n + n') c'') ∧ Rd w' A'' (n + n') c'' (xs ++ bs) ∧ Below w.heap.size w w' := by
  have HL := Lib.hid h.len
  have HL' := Lib.hid h'.len
  go_enter Tryd.func19, Tryd.ntmps19
  go_wp2_with (first
    | (at_builtin; refine wpList_app _ rfl (.tmp 6) (.tmp 7) _ rfl w.heap.size 5 Tryd.underlying22 u8_info (.slice none 0 0) [] rfl (Own.nil _ _ _) A n c xs rfl h (by simp; omega) (Nat.le_refl _) ?_; intro v1 w1 ho1 hb1)
    | (at_builtin; refine wpList_app _ rfl (.tmp 9) (.tmp 10) _ rfl w.heap.size 5 Tryd.underlying22 u8_info v1 ([] ++ xs) rfl ho1 A' n' c' bs rfl (h'.keep hb1) (by rw [List.nil_append, HL.out]; omega) hb1.size ?_; intro v2 w2 ho2 hb2))
  go_ret
  obtain ⟨A2, c2, rfl, hr⟩ := ho2.rd
  rw [List.nil_append, List.length_append, HL.out, HL'.out] at hr
  exact ⟨A2, c2, by rw [List.nil_append, List.length_append, HL.out, HL'.out]; rfl, hr, hb1.trans hb2⟩


theorem hex_nil : (hexL (sumB [])) = [101, 51, 98, 48, 99, 52, 52, 50, 57, 56, 102, 99, 49, 99, 49, 52, 57, 97, 102, 98, 102, 52, 99, 56, 57, 57, 54, 102, 98, 57, 50, 52, 50, 55, 97, 101, 52, 49, 101, 52, 54, 52, 57, 98, 57, 51, 52, 99, 97, 52, 57, 53, 57, 57, 49, 98, 55, 56, 53, 50, 98, 56, 53, 53] := by rw [sum_nil]; decide +kernel
theorem hex_abc : (hexL (sumB [97, 98, 99])) = [98, 97, 55, 56, 49, 54, 98, 102, 56, 102, 48, 49, 99, 102, 101, 97, 52, 49, 52, 49, 52, 48, 100, 101, 53, 100, 97, 101, 50, 50, 50, 51, 98, 48, 48, 51, 54, 49, 97, 51, 57, 54, 49, 55, 55, 97, 57, 99, 98, 52, 49, 48, 102, 102, 54, 49, 102, 50, 48, 48, 49, 53, 97, 100] := by rw [sum_abc]; decide +kernel

theorem rd_const (w : World) (fr : Nat × Nat) : Rd (w.alloc (.cells #[.int .u8 97, .int .u8 98, .int .u8 99] 5 fr)) (some ⟨w.heap.size, 0, none⟩) 3 3 [97, 98, 99] := by
  refine ⟨rfl, Nat.le_refl _, fun _ => ⟨w.heap.size, 0, rfl, by simp, fun j hj => ?_⟩⟩
  rw [Nat.zero_add, cell_of_row _ w.heap.size j _ 5 fr (heap_alloc_new w _)]
  have : j = 0 ∨ j = 1 ∨ j = 2 := by omega
  rcases this with h | h | h <;> subst h <;> rfl

set_option maxHeartbeats 1000000 in
theorem awake_any (w : World) (hL : Laid w) : Calls Tryd.prog 9 #[] w fun e w' => e = .returned (.bool true) ∧ Below w.heap.size w w' := by
  have HS := Lib.hid (Sum_any none 0 0 [] w (Rd.nil _ _ _) (by omega) hL)
  have HL := Lib.hid hL
  clear hL
  go_enter Tryd.func9, Tryd.ntmps9
  go_wp2_with fail
  refine HS.out.mono ?_
  rintro e w1 ⟨v1, rfl, ho1, hb1⟩
  obtain ⟨A1, c1, rfl, hr1⟩ := ho1.slice 32 rfl
  have HH := Lib.hid (rHex_any A1 32 c1 _ w1 hr1 (by omega))
  rw [hex_nil] at HH
  have HB1 := Lib.hid hb1
  clear ho1 hr1 hb1
  go_wp2_with fail
  refine HH.out.mono ?_
  rintro e w2 ⟨rfl, hb2⟩
  have HB2 := Lib.hid (HB1.out.trans (hb2.mono HB1.out.size))
  clear hb2
  have hcv := Lib.run_convert_bytes_const (P := Tryd.prog) w2 22 5 #[.int .u8 97, .int .u8 98, .int .u8 99] 3 3 Tryd.underlying22 Tryd.underlying5
  rw [show (#[Value.int .u8 97, Value.int .u8 98, Value.int .u8 99] : Array Value).size = 3 from rfl] at hcv
  obtain ⟨W, hW⟩ : ∃ W, w2.alloc (.cells #[.int .u8 97, .int .u8 98, .int .u8 99] 5 (3, 3 + 1)) = W := ⟨_, rfl⟩
  have HW : Hid (Below w.heap.size w W) := by rw [← hW]; exact HB2.out.alloc HB2.out.size _
  have HS2 := Lib.hid (Sum_any (some ⟨w2.heap.size, 0, none⟩) 3 3 [97, 98, 99] W (by rw [← hW]; exact rd_const w2 _) (by omega) (HL.out.keep HW.out))
  rw [hW] at hcv
  go_wp2_with fail
  refine HS2.out.mono ?_
  rintro e w3 ⟨v3, rfl, ho3, hb3⟩
  obtain ⟨A3, c3, rfl, hr3⟩ := ho3.slice 32 rfl
  have HH2 := Lib.hid (rHex_any A3 32 c3 _ w3 hr3 (by omega))
  rw [hex_abc] at HH2
  have HB3 := Lib.hid (HW.out.trans (hb3.mono HW.out.size))
  clear ho3 hr3 hb3 hW
  go_wp2_with fail
  refine HH2.out.mono ?_
  rintro e w4 ⟨rfl, hb4⟩
  have HB4 := Lib.hid (HB3.out.trans (hb4.mono HB3.out.size))
  clear hb4
  go_wp2
  go_ret
  exact ⟨rfl, HB4.out⟩
end Go.Proofs.YtnoldhedocejbaaDoor
