import Derived.Test.YtkkanhbcmdokcaaT4
import Derived.Deep.QuietTactic
import Derived.BigQuiet
namespace Go.Proofs.Ytkkanhbcmdokcaa
open Go.RowKit Go.Bs

set_option maxHeartbeats 400000 in
theorem bit_any (A : Option Addr) (n c i : Nat) (bs : List UInt8) (w : World) (h : Rd w A n c bs) (hn : n ≤ 70368744177664) (hi : i ≤ 562949953421312) :
    Calls Try.prog 24 #[.slice A n c, .int .i64 i] w fun e w' => e = .returned (.int .i64 (leN bs / 2 ^ i % 2 : Nat)) ∧ w = w' := by
  by_cases h1 : 8 * n ≤ i
  · have HO := Lib.hid (bit_out bs n i h.len h1)
    go_enter Try.func24, Try.ntmps24
    go_wp2
    go_ret
    exact ⟨by rw [HO.out]; rfl, rfl⟩
  · obtain ⟨g, o, rfl, hg, hc⟩ := h.cells (by omega)
    have HIN := Lib.hid (bit_in bs i)
    have hcell := hc (i / 8) (by omega)
    obtain ⟨x, hx⟩ : ∃ x, bs.getD (i / 8) 0 = x := ⟨_, rfl⟩
    rw [hx] at hcell HIN
    obtain ⟨u, hu⟩ : ∃ u, i % 8 = u := ⟨_, rfl⟩
    rw [hu] at HIN
    have hx8 : x.toNat < 256 := x.toNat_lt
    have hui : (i : Int) % 8 = (u : Int) := by omega
    have hu8 : u < 8 := by omega
    clear hc hx hu
    go_enter Try.func24, Try.ntmps24
    go_wp2
    go_loop [5, 6] (fun v k => ∃ j : Nat, j ≤ u ∧ k = .int .i64 j ∧ v = .int .i64 (x.toNat / 2 ^ j : Nat)) (fun _ k => u - (intOf k).toNat)
    case atStart => exact ⟨0, Nat.zero_le _, rfl, by simp⟩
    case round =>
      obtain ⟨j, hj, rfl, rfl⟩ := hrel
      have hle : x.toNat / 2 ^ j ≤ 255 := Nat.le_trans (Nat.div_le_self _ _) (by omega)
      have HH := Lib.hid (half x.toNat j)
      obtain ⟨y, hy⟩ : ∃ y, x.toNat / 2 ^ j = y := ⟨_, rfl⟩
      rw [hy] at hle HH ⊢
      have HY := Lib.hid hy
      clear hy
      by_cases hlt : j < u
      · go_wp2
        go_round
        case rel => exact ⟨j + 1, by omega, by go_num, by rw [← HH.out]; go_num⟩
        case measure => simp [intOf]; omega
      · obtain rfl : j = u := by omega
        go_wp2
        go_ret
        have e := HIN.out
        rw [HY.out] at e
        refine ⟨?_, rfl⟩
        show Ending.returned (Value.int .i64 ((y : Int) % 2)) = Ending.returned (Value.int .i64 ((leN bs / 2 ^ i % 2 : Nat) : Int))
        rw [← e]; rfl

theorem slice16 (a : Nat) (ha : a < 16) (W : World) : (Instr.slice 9 (.string ⟨#[48, 49, 50, 51, 52, 53, 54, 55, 56, 57, 97, 98, 99, 100, 101, 102]⟩) (some (.int .i64 (a : Int))) (some (.int .i64 ((a : Int) + 1))) none).run Try.prog W = .ok (.string ⟨#[h16 a]⟩) W := by
  have e := run_slice_string (P := Try.prog) W 9 ⟨#[48, 49, 50, 51, 52, 53, 54, 55, 56, 57, 97, 98, 99, 100, 101, 102]⟩ .i64 .i64 (a : Int) ((a : Int) + 1) Try.underlying9 (by omega) (by omega) (by
    rw [show (⟨#[48, 49, 50, 51, 52, 53, 54, 55, 56, 57, 97, 98, 99, 100, 101, 102]⟩ : ByteArray).size = 16 from rfl]; omega)
  rw [e, ← ext16 a ha]
  rfl

theorem add_str (x y : List UInt8) (S T U : ByteArray) (hS : ⟨x.toArray⟩ = S) (hT : ⟨y.toArray⟩ = T) (hU : ⟨(x ++ y).toArray⟩ = U) (h : x.length + y.length ≤ 9223372036854775807) (W : World) : (Op.stringOp .add S T).run Try.prog W = .ok (.string U) W := by
  subst hS hT hU
  rw [run_string_add_sum (P := Try.prog) W _ _ (by show x.toArray.size + y.toArray.size ≤ _; simpa using h), app_str]

set_option maxHeartbeats 400000 in
theorem rHex_any (A : Option Addr) (n c : Nat) (bs : List UInt8) (w : World) (h : Rd w A n c bs) (hn : n ≤ 17592186044416) :
    Calls Try.prog 11 #[.slice A n c] w fun e w' => e = .returned (.string ⟨(hexL bs).toArray⟩) ∧ Below w.heap.size w w' := by
  have HR := Lib.hid h
  have HL := Lib.hid h.len
  clear h
  go_enter Try.func11, Try.ntmps11
  go_wp2
  go_loopw [4, 5] (fun s i wr => ∃ k : Nat, k ≤ n ∧ i = .int .i64 k ∧ s = .string ⟨(hexL (bs.take k)).toArray⟩ ∧ Below w.heap.size w wr) (fun _ i _ => n - (intOf i).toNat)
  case atStart => exact ⟨0, Nat.zero_le _, rfl, by simp [hexL], Below.refl _ _⟩
  case round =>
    obtain ⟨k, hk, rfl, rfl, hG⟩ := hrel
    by_cases hlt : k < n
    · obtain ⟨g0, o, rfl, hg0, hc⟩ := (HR.out.keep hG).cells (by omega)
      obtain ⟨x, hx⟩ : ∃ x, bs.getD k 0 = x := ⟨_, rfl⟩
      have hcell := hc k hlt
      rw [hx] at hcell
      have hx8 : x.toNat < 256 := x.toNat_lt
      have HX := Lib.hid hx
      have HGG := Lib.hid hG
      clear hc hx hG hg0
      obtain ⟨S, hS⟩ : ∃ S : ByteArray, ⟨(hexL (bs.take k)).toArray⟩ = S := ⟨_, rfl⟩
      rw [hS]
      have HS := Lib.hid hS
      clear hS
      obtain ⟨S2, hS2⟩ : ∃ S : ByteArray, ⟨(hexL (bs.take k) ++ [h16 (x.toNat / 16)] ++ [h16 (x.toNat % 16)]).toArray⟩ = S := ⟨_, rfl⟩
      obtain ⟨S1, hS1⟩ : ∃ S : ByteArray, ⟨(hexL (bs.take k) ++ [h16 (x.toNat / 16)]).toArray⟩ = S := ⟨_, rfl⟩
      have hl2 : (hexL (bs.take k)).length ≤ 2 * n := by rw [hexL_length, List.length_take]; omega
      have hadd1 := add_str _ [h16 (x.toNat / 16)] S ⟨#[h16 (x.toNat / 16)]⟩ S1 HS.out rfl hS1 (by simp only [List.length_cons, List.length_nil]; omega)
      have hadd2 := add_str _ [h16 (x.toNat % 16)] S1 ⟨#[h16 (x.toNat % 16)]⟩ S2 hS1 rfl hS2 (by simp only [List.length_append, List.length_cons, List.length_nil]; omega)
      have HS2 := Lib.hid hS2
      obtain ⟨a, ha⟩ : ∃ a, x.toNat / 16 = a := ⟨_, rfl⟩
      obtain ⟨b, hb⟩ : ∃ b, x.toNat % 16 = b := ⟨_, rfl⟩
      have hxa : (x.toNat : Int) / 16 = (a : Int) := by omega
      have hxb : (x.toNat : Int) % 16 = (b : Int) := by omega
      have ha16 : a < 16 := by omega
      have hb16 : b < 16 := by omega
      have hsa := slice16 a ha16
      have hsb := slice16 b hb16
      have q1 : IntKind.i64.wrap (a : Int) = (a : Int) := IntWalk.i64_in _ (by omega)
      have q2 : IntKind.i64.wrap ((a : Int) + 1) = (a : Int) + 1 := IntWalk.i64_in _ (by omega)
      have q3 : IntKind.i64.wrap (b : Int) = (b : Int) := IntWalk.i64_in _ (by omega)
      have q4 : IntKind.i64.wrap ((b : Int) + 1) = (b : Int) + 1 := IntWalk.i64_in _ (by omega)
      have HAB := Lib.hid (And.intro ha hb)
      rw [ha] at hadd1
      rw [hb] at hadd2
      clear ha hb hS1 hS2 hl2
      go_wp2
      go_quiet (fail)
      go_wp2
      go_roundw
      case rel =>
        refine ⟨k + 1, by omega, by go_num, ?_, below_drewN HGG.out _⟩
        rw [← HS2.out, take_snoc bs k (by rw [HL.out]; exact hlt), hexL_append, HX.out]
        simp [hexL]
      case measure => simp [intOf]; omega
    · obtain rfl : k = n := by omega
      have HGG := Lib.hid hG
      clear hG
      go_wp2
      go_ret
      refine ⟨?_, HGG.out⟩
      rw [List.take_of_length_le (by rw [HL.out]; exact Nat.le_refl _)]
      rfl
end Go.Proofs.Ytkkanhbcmdokcaa
