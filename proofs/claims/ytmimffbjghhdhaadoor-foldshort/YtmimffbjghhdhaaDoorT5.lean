import Derived.Test.YtmimffbjghhdhaaDoorT4
import Derived.Deep.QuietTactic
import Derived.BigQuiet
namespace Go.Proofs.YtmimffbjghhdhaaDoor.B2x
open Go.RowKit Go.Bs

set_option maxHeartbeats 400000 in
theorem bit_any (A : Option Addr) (n c i : Nat) (bs : List UInt8) (w : World) (h : Rd w A n c bs) (hn : n ≤ 70368744177664) (hi : i ≤ 562949953421312) :
    Calls Tryd.prog 36 #[.slice A n c, .int .i64 i] w fun e w' => e = .returned (.int .i64 (leN bs / 2 ^ i % 2 : Nat)) ∧ w = w' := by
  by_cases h1 : 8 * n ≤ i
  · have HO := Lib.hid (bit_out bs n i h.len h1)
    go_enter Tryd.func36, Tryd.ntmps36
    go_wp2
    go_ret
    exact ⟨by rw [HO.out]; rfl, rfl⟩
  · obtain ⟨g, o, rfl, hg, hc⟩ := h.cells (by omega)
    have HIN := Lib.hid (bit_in bs i)
    have hcell := hc (i / 8) (by omega)
    obtain ⟨x, hx⟩ : ∃ x, bs.getD (i / 8) 0 = x := ⟨_, rfl⟩
    rw [hx] at hcell HIN
    obtain ⟨u, hu⟩ : ∃ u, i % 8 = u := ⟨_, rfl⟩
    rw [hu] at HIN
    have hx8 : x.toNat < 256 := x.toNat_lt
    have hui : (i : Int) % 8 = (u : Int) := by omega
    have hu8 : u < 8 := by omega
    clear hc hx hu
    go_enter Tryd.func36, Tryd.ntmps36
    go_wp2
    go_loop [5, 6] (fun v k => ∃ j : Nat, j ≤ u ∧ k = .int .i64 j ∧ v = .int .i64 (x.toNat / 2 ^ j : Nat)) (fun _ k => u - (intOf k).toNat)
    case atStart => exact ⟨0, Nat.zero_le _, rfl, by simp⟩
    case round =>
      obtain ⟨j, hj, rfl, rfl⟩ := hrel
      have hle : x.toNat / 2 ^ j ≤ 255 := Nat.le_trans (Nat.div_le_self _ _) (by omega)
      have HH := Lib.hid (half x.toNat j)
      obtain ⟨y, hy⟩ : ∃ y, x.toNat / 2 ^ j = y := ⟨_, rfl⟩
      rw [hy] at hle HH ⊢
      have HY := Lib.hid hy
      clear hy
      by_cases hlt : j < u
      · go_wp2
        go_round
        case rel => exact ⟨j + 1, by omega, by go_num, by rw [← HH.out]; go_num⟩
        case measure => simp [intOf]; omega
      · obtain rfl : j = u := by omega
        go_wp2
        go_ret
        have e := HIN.out
        rw [HY.out] at e
        refine ⟨?_, rfl⟩
        show Ending.returned (Value.int .i64 ((y : Int) % 2)) = Ending.returned (Value.int .i64 ((leN bs / 2 ^ i % 2 : Nat) : Int))
        rw [← e]; rfl

theorem slice16 (a : Nat) (ha : a < 16) (W : World) : (Instr.slice 9 (.string ⟨#[48, 49, 50, 51, 52, 53, 54, 55, 56, 57, 97, 98, 99, 100, 101, 102]⟩) (some (.int .i64 (a : Int))) (some (.int .i64 ((a : Int) + 1))) none).run Tryd.prog W = .ok (.string ⟨#[h16 a]⟩) W := by
  have e := run_slice_string (P := Tryd.prog) W 9 ⟨#[48, 49, 50, 51, 52, 53, 54, 55, 56, 57, 97, 98, 99, 100, 101, 102]⟩ .i64 .i64 (a : Int) ((a : Int) + 1) Tryd.underlying9 (by omega) (by omega) (by
    rw [show (⟨#[48, 49, 50, 51, 52, 53, 54, 55, 56, 57, 97, 98, 99, 100, 101, 102]⟩ : ByteArray).size = 16 from rfl]; omega)
  rw [e, ← ext16 a ha]
  rfl

theorem add_str (x y : List UInt8) (S T U : ByteArray) (hS : ⟨x.toArray⟩ = S) (hT : ⟨y.toArray⟩ = T) (hU : ⟨(x ++ y).toArray⟩ = U) (h : x.length + y.length ≤ 9223372036854775807) (W : World) : (Op.stringOp .add S T).run Tryd.prog W = .ok (.string U) W := by
  subst hS hT hU
  rw [run_string_add_sum (P := Tryd.prog) W _ _ (by show x.toArray.size + y.toArray.size ≤ _; simpa using h), app_str]

end Go.Proofs.YtmimffbjghhdhaaDoor.B2x
