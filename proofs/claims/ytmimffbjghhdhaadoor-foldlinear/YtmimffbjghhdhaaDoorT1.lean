import Derived.Test.YtmimffbjghhdhaaDoorRows
import Derived.Test.YtmimffbjghhdhaaDoorNum
namespace Go.Proofs.YtmimffbjghhdhaaDoor.B2x
open Go.RowKit Go.Bs

set_option maxHeartbeats 400000 in
theorem digitsOf_any (n : Nat) (w : World) (hn : n ≤ 281474976710656) :
    Calls Tryd.prog 22 #[.int .i64 n] w fun e w' => e = .returned (.int .i64 (nDig n)) ∧ w = w' := by
  go_enter Tryd.func22, Tryd.ntmps22
  go_wp2
  go_ret
  exact ⟨by simp [nDig]; omega, rfl⟩

set_option maxHeartbeats 400000 in
theorem bytesOf_any (n : Nat) (w : World) (hn : n ≤ 281474976710656) :
    Calls Tryd.prog 21 #[.int .i64 n] w fun e w' => e = .returned (.int .i64 (nByt n)) ∧ w = w' := by
  go_enter Tryd.func21, Tryd.ntmps21
  go_wp2
  go_ret
  exact ⟨by simp [nByt]; omega, rfl⟩

set_option maxHeartbeats 400000 in
theorem place_any (k : Nat) (w : World) (hn : k ≤ 281474976710656) :
    Calls Tryd.prog 32 #[.int .i64 k] w fun e w' => e = .returned (.tuple #[.int .i64 (5 * k / 8 : Nat), .int .i64 (5 * k % 8 : Nat)]) ∧ w = w' := by
  go_enter Tryd.func32, Tryd.ntmps32
  go_wp2_with fail
  refine (bytesOf_any k w hn).mono ?_
  rintro e w' ⟨rfl, rfl⟩
  go_wp2
  go_ret2
  exact ⟨by simp [nByt]; omega, rfl⟩

set_option maxHeartbeats 400000 in
theorem rSize_any (n : Nat) (w : World) (hn : n ≤ 281474976710656) :
    Calls Tryd.prog 35 #[.int .i64 n] w fun e w' => e = .returned (.int .i64 (nDig n)) ∧ w = w' := by
  go_enter Tryd.func35, Tryd.ntmps35
  go_wp2
  go_ret
  exact ⟨by simp [nDig], rfl⟩

set_option maxHeartbeats 400000 in
theorem liteIndex_any (s : ByteArray) (c : UInt8) (w : World) :
    Calls Tryd.prog 31 #[.string s, B c] w fun e w' => e = .returned (.int .i64 (Lib.indexByte s.data.toList c)) ∧ w = w' := by
  go_enter Tryd.func31, Tryd.ntmps31
  go_wp2
  rw [run_callFunc_extern Tryd.func40 (by kernel_rfl) (by kernel_rfl) (by kernel_rfl) (e := Extern.BytealgIndexByte.indexByte) (by kernel_rfl), Lib.run_indexByteString]
  simp only [Result.andThen_ok]
  go_wp2
  go_ret
  exact ⟨by simp, rfl⟩

set_option maxHeartbeats 400000 in
theorem Index_any (s : ByteArray) (c : UInt8) (w : World) :
    Calls Tryd.prog 23 #[.string s, B c] w fun e w' => e = .returned (.int .i64 (Lib.indexByte s.data.toList c)) ∧ w = w' := by
  go_enter Tryd.func23, Tryd.ntmps23
  go_wp2_with fail
  refine (liteIndex_any s c w).mono ?_
  rintro e w' ⟨rfl, rfl⟩
  go_wp2
  go_ret
  exact ⟨rfl, rfl⟩

set_option maxHeartbeats 400000 in
theorem value_any (s : ByteArray) (c : UInt8) (w : World) (hs : s.size ≤ 1000) :
    Calls Tryd.prog 54 #[B c, .string s] w fun e w' => e = .returned (.int .i64 (Lib.indexByte s.data.toList c)) ∧ w = w' := by
  have hlen : s.data.toList.length = s.size := by simp
  have HL := Lib.hid hlen
  clear hlen
  go_enter Tryd.func54, Tryd.ntmps54
  go_wp2
  go_loop [5] (fun i => ∃ k : Nat, k ≤ s.size ∧ i = .int .i64 k ∧ ∀ j, j < k → s.data.toList.getD j 0 ≠ c) (fun i => s.size - (intOf i).toNat)
  case atStart => exact ⟨0, Nat.zero_le _, rfl, fun j hj => absurd hj (by omega)⟩
  case round =>
    obtain ⟨k, hk, rfl, hz⟩ := hrel
    have HZ := Lib.hid hz
    clear hz
    by_cases hlt : k < s.size
    · obtain ⟨x, hx⟩ : ∃ x, s.data.toList.getD k 0 = x := ⟨_, rfl⟩
      have hsx : s[k] = x := by
        rw [← hx, getD_get _ _ (by rw [HL.out]; exact hlt)]
        rfl
      have HX := Lib.hid hx
      clear hx
      by_cases h0 : x = c
      · subst h0
        go_wp2
        go_ret
        exact ⟨by rw [indexByte_hit _ _ k (by rw [HL.out]; exact hlt) HX.out HZ.out]; rfl, rfl⟩
      · have hne : ((x.toNat : Int) == (c.toNat : Int)) = false := by
          have : x.toNat ≠ c.toNat := fun e => h0 (UInt8.toNat_inj.1 e)
          rw [beq_eq_false_iff_ne]; omega
        go_wp2
        go_round
        case rel =>
          refine ⟨k + 1, by omega, by go_num, fun j hj => ?_⟩
          by_cases hjk : j < k
          · exact HZ.out j hjk
          · obtain rfl : j = k := by omega
            rw [HX.out]; exact h0
        case measure => simp [intOf]; omega
    · go_wp2
      go_ret
      exact ⟨by rw [indexByte_none _ _ (fun j hj => HZ.out j (by rw [HL.out] at hj; omega))]; rfl, rfl⟩
end Go.Proofs.YtmimffbjghhdhaaDoor.B2x
