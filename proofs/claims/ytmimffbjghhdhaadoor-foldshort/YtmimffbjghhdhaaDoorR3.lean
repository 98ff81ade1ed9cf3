/- the document's power, rot, xor, choose, most, word. Conditions: none. -/
import Derived.Test.YtmimffbjghhdhaaDoorR2
import Derived.StillTailTactics
namespace Go.Proofs.YtmimffbjghhdhaaDoor
open Go.RowKit Go.Bs Go.Sha

theorem power_any (n : Nat) (hn : n ≤ 32) (w : World) :
    Calls Tryd.prog 53 #[.int .i64 n] w fun e w' => e = .returned (.int .i64 (2 ^ n : Nat)) ∧ w' = w := by
  obtain ⟨P, hP⟩ : ∃ P, 2 ^ n = P := ⟨_, rfl⟩
  rw [hP]
  have HP := Lib.hid hP
  clear hP
  go_enter Tryd.func53, Tryd.ntmps53
  go_wp2
  go_loop [3, 4] (fun v i => ∃ k : Nat, k ≤ n ∧ i = .int .i64 k ∧ v = .int .i64 (2 ^ k : Nat)) (fun _ i => n - (intOf i).toNat)
  case atStart => exact ⟨0, Nat.zero_le _, rfl, rfl⟩
  case round =>
    obtain ⟨k, hk, rfl, rfl⟩ := hrel
    have hp : 2 ^ k ≤ 4294967296 := by
      have : 2 ^ k ≤ 2 ^ 32 := Nat.pow_le_pow_right (by omega) (by omega)
      simpa using this
    have HS : Hid (2 ^ (k + 1) = 2 * 2 ^ k) := by show 2 ^ (k + 1) = 2 * 2 ^ k; rw [Nat.pow_succ, Nat.mul_comm]
    obtain ⟨y, hy⟩ : ∃ y, 2 ^ k = y := ⟨_, rfl⟩
    rw [hy] at hp HS ⊢
    have HY := Lib.hid hy
    clear hy
    by_cases hlt : k < n
    · go_wp2
      go_round
      case rel => exact ⟨k + 1, by omega, by go_num, by rw [HS.out]; go_num⟩
      case measure => simp [intOf]; omega
    · obtain rfl : k = n := by omega
      go_wp2
      go_ret
      obtain rfl : y = P := HY.out.symm.trans HP.out
      exact ⟨rfl, rfl⟩

theorem xor_any (a b c : Nat) (ha : a < 4294967296) (hb : b < 4294967296) (hc : c < 4294967296) (w : World) :
    Calls Tryd.prog 46 #[.int .i64 a, .int .i64 b, .int .i64 c] w fun e w' => e = .returned (.int .i64 (a ^^^ b ^^^ c : Nat)) ∧ w' = w := by
  obtain ⟨X, hX⟩ : ∃ X, a ^^^ b ^^^ c = X := ⟨_, rfl⟩
  have hXM : X < 4294967296 := by rw [← hX]; exact xor_lt (xor_lt ha hb) hc
  have HB : Hid (∀ i, X / 2 ^ i % 2 = (a / 2 ^ i + b / 2 ^ i + c / 2 ^ i) % 2) := fun i => by rw [← hX]; exact xor3_bit a b c i
  rw [hX]
  clear hX
  go_enter Tryd.func46, Tryd.ntmps46
  go_wp2
  go_loop [0, 1, 2, 7, 8, 9] (fun p q r o v i => ∃ k : Nat, k ≤ 32 ∧ i = .int .i64 k ∧ p = .int .i64 (a / 2 ^ k : Nat) ∧ q = .int .i64 (b / 2 ^ k : Nat) ∧ r = .int .i64 (c / 2 ^ k : Nat) ∧ o = .int .i64 (X % 2 ^ k : Nat) ∧ v = .int .i64 (2 ^ k : Nat)) (fun _ _ _ _ _ i => 32 - (intOf i).toNat)
  case atStart => exact ⟨0, Nat.zero_le _, rfl, by simp, by simp, by simp, by simp [Nat.mod_one], rfl⟩
  case round =>
    obtain ⟨k, hk, rfl, rfl, rfl, rfl, rfl, rfl⟩ := hrel
    have hp : 2 ^ k ≤ 4294967296 := by
      have : 2 ^ k ≤ 2 ^ 32 := Nat.pow_le_pow_right (by omega) (by omega)
      simpa using this
    have h1 : a / 2 ^ k ≤ 4294967295 := Nat.le_trans (Nat.div_le_self _ _) (by omega)
    have h2 : b / 2 ^ k ≤ 4294967295 := Nat.le_trans (Nat.div_le_self _ _) (by omega)
    have h3 : c / 2 ^ k ≤ 4294967295 := Nat.le_trans (Nat.div_le_self _ _) (by omega)
    have h4 : X % 2 ^ k ≤ 4294967295 := Nat.le_trans (Nat.mod_le _ _) (by omega)
    have HH := Lib.hid (And.intro (half_pow a k) (And.intro (half_pow b k) (half_pow c k)))
    have HM := Lib.hid (mod_succ X k)
    have HBk := Lib.hid (HB.out k)
    have HS : Hid (2 ^ (k + 1) = 2 * 2 ^ k) := by show 2 ^ (k + 1) = 2 * 2 ^ k; rw [Nat.pow_succ, Nat.mul_comm]
    obtain ⟨A, hA⟩ : ∃ y, a / 2 ^ k = y := ⟨_, rfl⟩
    obtain ⟨B, hB⟩ : ∃ y, b / 2 ^ k = y := ⟨_, rfl⟩
    obtain ⟨C, hC⟩ : ∃ y, c / 2 ^ k = y := ⟨_, rfl⟩
    obtain ⟨O, hO⟩ : ∃ y, X % 2 ^ k = y := ⟨_, rfl⟩
    rw [hA] at h1 HH HBk ⊢
    rw [hB] at h2 HH HBk ⊢
    rw [hC] at h3 HH HBk ⊢
    rw [HBk.out] at HM
    rw [hO] at h4 HM ⊢
    obtain ⟨V, hV⟩ : ∃ y, 2 ^ k = y := ⟨_, rfl⟩
    rw [hV] at hp HM HS ⊢
    have HO := Lib.hid hO
    clear hA hB hC hO hV
    by_cases hlt : k < 32
    · have h01 : (A + B + C) % 2 = 0 ∨ (A + B + C) % 2 = 1 := by omega
      rcases h01 with h01 | h01
      · have hi : ((A : Int) + (B : Int) + (C : Int)) % 2 = 0 := by omega
        rw [h01] at HM
        go_wp2
        go_round
        case rel => exact ⟨k + 1, by omega, by go_num, by rw [← HH.out.1]; go_num, by rw [← HH.out.2.1]; go_num, by rw [← HH.out.2.2]; go_num, by rw [HM.out]; simp, by rw [HS.out]; go_num⟩
        case measure => simp [intOf]; omega
      · have hi : ((A : Int) + (B : Int) + (C : Int)) % 2 = 1 := by omega
        rw [h01] at HM
        go_wp2
        go_round
        case rel => exact ⟨k + 1, by omega, by go_num, by rw [← HH.out.1]; go_num, by rw [← HH.out.2.1]; go_num, by rw [← HH.out.2.2]; go_num, by rw [HM.out]; simp, by rw [HS.out]; go_num⟩
        case measure => simp [intOf]; omega
    · obtain rfl : k = 32 := by omega
      go_wp2
      go_ret
      have e : X % 2 ^ 32 = X := Nat.mod_eq_of_lt hXM
      rw [e] at HO
      exact ⟨by rw [HO.out]; rfl, rfl⟩

theorem choose_any (a b c : Nat) (ha : a < 4294967296) (hb : b < 4294967296) (hc : c < 4294967296) (w : World) :
    Calls Tryd.prog 49 #[.int .i64 a, .int .i64 b, .int .i64 c] w fun e w' => e = .returned (.int .i64 (ch a b c : Nat)) ∧ w' = w := by
  obtain ⟨X, hX⟩ : ∃ X, ch a b c = X := ⟨_, rfl⟩
  have hXM : X < 4294967296 := by rw [← hX]; exact ch_lt hb hc
  have HB : Hid (∀ i, i < 32 → X / 2 ^ i % 2 = if a / 2 ^ i % 2 = 1 then b / 2 ^ i % 2 else c / 2 ^ i % 2) := fun i hi => by rw [← hX]; exact ch_bit a b c i ha hi
  rw [hX]
  clear hX
  go_enter Tryd.func49, Tryd.ntmps49
  go_wp2
  go_loop [0, 1, 2, 7, 8, 9] (fun p q r o v i => ∃ k : Nat, k ≤ 32 ∧ i = .int .i64 k ∧ p = .int .i64 (a / 2 ^ k : Nat) ∧ q = .int .i64 (b / 2 ^ k : Nat) ∧ r = .int .i64 (c / 2 ^ k : Nat) ∧ o = .int .i64 (X % 2 ^ k : Nat) ∧ v = .int .i64 (2 ^ k : Nat)) (fun _ _ _ _ _ i => 32 - (intOf i).toNat)
  case atStart => exact ⟨0, Nat.zero_le _, rfl, by simp, by simp, by simp, by simp [Nat.mod_one], rfl⟩
  case round =>
    obtain ⟨k, hk, rfl, rfl, rfl, rfl, rfl, rfl⟩ := hrel
    have hp : 2 ^ k ≤ 4294967296 := by
      have : 2 ^ k ≤ 2 ^ 32 := Nat.pow_le_pow_right (by omega) (by omega)
      simpa using this
    have h1 : a / 2 ^ k ≤ 4294967295 := Nat.le_trans (Nat.div_le_self _ _) (by omega)
    have h2 : b / 2 ^ k ≤ 4294967295 := Nat.le_trans (Nat.div_le_self _ _) (by omega)
    have h3 : c / 2 ^ k ≤ 4294967295 := Nat.le_trans (Nat.div_le_self _ _) (by omega)
    have h4 : X % 2 ^ k ≤ 4294967295 := Nat.le_trans (Nat.mod_le _ _) (by omega)
    have HH := Lib.hid (And.intro (half_pow a k) (And.intro (half_pow b k) (half_pow c k)))
    have HM := Lib.hid (mod_succ X k)
    have HBk : Hid (k < 32 → X / 2 ^ k % 2 = if a / 2 ^ k % 2 = 1 then b / 2 ^ k % 2 else c / 2 ^ k % 2) := HB.out k
    have HS : Hid (2 ^ (k + 1) = 2 * 2 ^ k) := by show 2 ^ (k + 1) = 2 * 2 ^ k; rw [Nat.pow_succ, Nat.mul_comm]
    obtain ⟨A, hA⟩ : ∃ y, a / 2 ^ k = y := ⟨_, rfl⟩
    obtain ⟨B, hB⟩ : ∃ y, b / 2 ^ k = y := ⟨_, rfl⟩
    obtain ⟨C, hC⟩ : ∃ y, c / 2 ^ k = y := ⟨_, rfl⟩
    obtain ⟨O, hO⟩ : ∃ y, X % 2 ^ k = y := ⟨_, rfl⟩
    rw [hA] at h1 HH HBk ⊢
    rw [hB] at h2 HH HBk ⊢
    rw [hC] at h3 HH HBk ⊢
    rw [hO] at h4 HM ⊢
    obtain ⟨V, hV⟩ : ∃ y, 2 ^ k = y := ⟨_, rfl⟩
    rw [hV] at hp HM HS HBk ⊢
    have HO := Lib.hid hO
    clear hA hB hC hO hV
    by_cases hlt : k < 32
    · have HBk := Lib.hid (HBk.out hlt)
      rw [HBk.out] at HM
      by_cases h01 : A % 2 = 1
      · have hi : ((A : Int) % 2 == 1) = true := by rw [beq_iff_eq]; omega
        rw [if_pos h01] at HM
        have h5 : B % 2 = 0 ∨ B % 2 = 1 := by omega
        rcases h5 with h5 | h5
        · have hj : (B : Int) % 2 = 0 := by omega
          rw [h5] at HM
          go_wp2
          go_round
          case rel => exact ⟨k + 1, by omega, by go_num, by rw [← HH.out.1]; go_num, by rw [← HH.out.2.1]; go_num, by rw [← HH.out.2.2]; go_num, by rw [HM.out]; simp, by rw [HS.out]; go_num⟩
          case measure => simp [intOf]; omega
        · have hj : (B : Int) % 2 = 1 := by omega
          rw [h5] at HM
          go_wp2
          go_round
          case rel => exact ⟨k + 1, by omega, by go_num, by rw [← HH.out.1]; go_num, by rw [← HH.out.2.1]; go_num, by rw [← HH.out.2.2]; go_num, by rw [HM.out]; simp, by rw [HS.out]; go_num⟩
          case measure => simp [intOf]; omega
      · have hi : ((A : Int) % 2 == 1) = false := by rw [beq_eq_false_iff_ne]; omega
        rw [if_neg h01] at HM
        have h5 : C % 2 = 0 ∨ C % 2 = 1 := by omega
        rcases h5 with h5 | h5
        · have hj : (C : Int) % 2 = 0 := by omega
          rw [h5] at HM
          go_wp2
          go_round
          case rel => exact ⟨k + 1, by omega, by go_num, by rw [← HH.out.1]; go_num, by rw [← HH.out.2.1]; go_num, by rw [← HH.out.2.2]; go_num, by rw [HM.out]; simp, by rw [HS.out]; go_num⟩
          case measure => simp [intOf]; omega
        · have hj : (C : Int) % 2 = 1 := by omega
          rw [h5] at HM
          go_wp2
          go_round
          case rel => exact ⟨k + 1, by omega, by go_num, by rw [← HH.out.1]; go_num, by rw [← HH.out.2.1]; go_num, by rw [← HH.out.2.2]; go_num, by rw [HM.out]; simp, by rw [HS.out]; go_num⟩
          case measure => simp [intOf]; omega
    · obtain rfl : k = 32 := by omega
      go_wp2
      go_ret
      have e : X % 2 ^ 32 = X := Nat.mod_eq_of_lt hXM
      rw [e] at HO
      exact ⟨by rw [HO.out]; rfl, rfl⟩

theorem most_any (a b c : Nat) (ha : a < 4294967296) (hb : b < 4294967296) (hc : c < 4294967296) (w : World) :
    Calls Tryd.prog 50 #[.int .i64 a, .int .i64 b, .int .i64 c] w fun e w' => e = .returned (.int .i64 (maj a b c : Nat)) ∧ w' = w := by
  obtain ⟨X, hX⟩ : ∃ X, maj a b c = X := ⟨_, rfl⟩
  have hXM : X < 4294967296 := by rw [← hX]; exact maj_lt hb hc
  have HB : Hid (∀ i, X / 2 ^ i % 2 = (a / 2 ^ i % 2 + b / 2 ^ i % 2 + c / 2 ^ i % 2) / 2) := fun i => by rw [← hX]; exact maj_bit a b c i
  rw [hX]
  clear hX
  go_enter Tryd.func50, Tryd.ntmps50
  go_wp2
  go_loop [0, 1, 2, 7, 8, 9] (fun p q r o v i => ∃ k : Nat, k ≤ 32 ∧ i = .int .i64 k ∧ p = .int .i64 (a / 2 ^ k : Nat) ∧ q = .int .i64 (b / 2 ^ k : Nat) ∧ r = .int .i64 (c / 2 ^ k : Nat) ∧ o = .int .i64 (X % 2 ^ k : Nat) ∧ v = .int .i64 (2 ^ k : Nat)) (fun _ _ _ _ _ i => 32 - (intOf i).toNat)
  case atStart => exact ⟨0, Nat.zero_le _, rfl, by simp, by simp, by simp, by simp [Nat.mod_one], rfl⟩
  case round =>
    obtain ⟨k, hk, rfl, rfl, rfl, rfl, rfl, rfl⟩ := hrel
    have hp : 2 ^ k ≤ 4294967296 := by
      have : 2 ^ k ≤ 2 ^ 32 := Nat.pow_le_pow_right (by omega) (by omega)
      simpa using this
    have h1 : a / 2 ^ k ≤ 4294967295 := Nat.le_trans (Nat.div_le_self _ _) (by omega)
    have h2 : b / 2 ^ k ≤ 4294967295 := Nat.le_trans (Nat.div_le_self _ _) (by omega)
    have h3 : c / 2 ^ k ≤ 4294967295 := Nat.le_trans (Nat.div_le_self _ _) (by omega)
    have h4 : X % 2 ^ k ≤ 4294967295 := Nat.le_trans (Nat.mod_le _ _) (by omega)
    have HH := Lib.hid (And.intro (half_pow a k) (And.intro (half_pow b k) (half_pow c k)))
    have HM := Lib.hid (mod_succ X k)
    have HBk := Lib.hid (HB.out k)
    have HS : Hid (2 ^ (k + 1) = 2 * 2 ^ k) := by show 2 ^ (k + 1) = 2 * 2 ^ k; rw [Nat.pow_succ, Nat.mul_comm]
    obtain ⟨A, hA⟩ : ∃ y, a / 2 ^ k = y := ⟨_, rfl⟩
    obtain ⟨B, hB⟩ : ∃ y, b / 2 ^ k = y := ⟨_, rfl⟩
    obtain ⟨C, hC⟩ : ∃ y, c / 2 ^ k = y := ⟨_, rfl⟩
    obtain ⟨O, hO⟩ : ∃ y, X % 2 ^ k = y := ⟨_, rfl⟩
    rw [hA] at h1 HH HBk ⊢
    rw [hB] at h2 HH HBk ⊢
    rw [hC] at h3 HH HBk ⊢
    rw [HBk.out] at HM
    rw [hO] at h4 HM ⊢
    obtain ⟨V, hV⟩ : ∃ y, 2 ^ k = y := ⟨_, rfl⟩
    rw [hV] at hp HM HS ⊢
    have HO := Lib.hid hO
    clear hA hB hC hO hV
    by_cases hlt : k < 32
    · have h01 : (A % 2 + B % 2 + C % 2) / 2 = 0 ∨ (A % 2 + B % 2 + C % 2) / 2 = 1 := by omega
      rcases h01 with h01 | h01
      · have hi : ((A : Int) % 2 + (B : Int) % 2 + (C : Int) % 2) / 2 = 0 := by omega
        rw [h01] at HM
        go_wp2
        go_round
        case rel => exact ⟨k + 1, by omega, by go_num, by rw [← HH.out.1]; go_num, by rw [← HH.out.2.1]; go_num, by rw [← HH.out.2.2]; go_num, by rw [HM.out]; simp, by rw [HS.out]; go_num⟩
        case measure => simp [intOf]; omega
      · have hi : ((A : Int) % 2 + (B : Int) % 2 + (C : Int) % 2) / 2 = 1 := by omega
        rw [h01] at HM
        go_wp2
        go_round
        case rel => exact ⟨k + 1, by omega, by go_num, by rw [← HH.out.1]; go_num, by rw [← HH.out.2.1]; go_num, by rw [← HH.out.2.2]; go_num, by rw [HM.out]; simp, by rw [HS.out]; go_num⟩
        case measure => simp [intOf]; omega
    · obtain rfl : k = 32 := by omega
      go_wp2
      go_ret
      have e : X % 2 ^ 32 = X := Nat.mod_eq_of_lt hXM
      rw [e] at HO
      exact ⟨by rw [HO.out]; rfl, rfl⟩

theorem rrot_any (x n : Nat) (hx : x < 4294967296) (h0 : 0 < n) (hn : n < 32) (w : World) (m : Int) (hm : m = (n : Int)) :
    Calls Tryd.prog 47 #[.int .i64 x, .int .i64 m] w fun e w' => e = .returned (.int .i64 (rotr x n : Nat)) ∧ w' = w.drew := by
  subst hm
  obtain ⟨P, hP⟩ : ∃ P, 2 ^ n = P := ⟨_, rfl⟩
  obtain ⟨R, hR⟩ : ∃ R, 2 ^ (32 - n) = R := ⟨_, rfl⟩
  have hPR : P * R = 4294967296 := by
    rw [← hP, ← hR, ← Nat.pow_add, show n + (32 - n) = 32 by omega]
  have hP1 : 1 ≤ P := by rw [← hP]; exact Nat.two_pow_pos n
  have hR1 : 1 ≤ R := by rw [← hR]; exact Nat.two_pow_pos _
  have h40a := power_any n (by omega)
  have h40b := power_any (32 - n) (by omega)
  rw [hP] at h40a
  rw [hR] at h40b
  have hb : x % P * R < 4294967296 := by
    have h1 : x % P < P := Nat.mod_lt _ hP1
    have h2 : (x % P + 1) * R ≤ P * R := Nat.mul_le_mul_right _ h1
    rw [hPR, Nat.add_mul] at h2
    omega
  have hX : rotr x n = x / P + x % P * R := by unfold rotr; rw [hP, hR]
  have hl := rotr_lt x n hx (by omega)
  rw [hX] at hl ⊢
  obtain ⟨D, hD⟩ : ∃ D, x / P = D := ⟨_, rfl⟩
  obtain ⟨Q, hQ⟩ : ∃ Q, x % P = Q := ⟨_, rfl⟩
  rw [hD, hQ] at hl ⊢
  rw [hQ] at hb
  obtain ⟨T, hT⟩ : ∃ T, Q * R = T := ⟨_, rfl⟩
  rw [hT] at hl hb ⊢
  have hquo : (x : Int).tdiv (P : Int) = (D : Int) := by rw [← hD]; exact Int.ofNat_tdiv x P
  have hrem : (x : Int).tmod (P : Int) = (Q : Int) := by rw [← hQ]; exact Int.ofNat_tmod x P
  have hmul : IntKind.i64.wrap ((Q : Int) * (R : Int)) = (T : Int) := by rw [← Int.natCast_mul, hT]; exact IntWalk.i64_in _ (by omega)
  have hsub : IntKind.i64.wrap (32 - (n : Int)) = ((32 - n : Nat) : Int) := by rw [IntWalk.i64_in _ (by omega)]; omega
  have hadd : IntKind.i64.wrap ((D : Int) + (T : Int)) = ((D + T : Nat) : Int) := by rw [IntWalk.i64_in _ (by omega)]; rfl
  obtain ⟨n', hn'⟩ : ∃ n', 32 - n = n' := ⟨_, rfl⟩
  rw [hn'] at h40b hsub
  have hPz : ¬ P = 0 := by omega
  have hDw : IntKind.i64.wrap (D : Int) = (D : Int) := IntWalk.i64_in _ (by omega)
  obtain ⟨Z, hZ⟩ : ∃ Z, D + T = Z := ⟨_, rfl⟩
  rw [hZ] at hadd ⊢
  clear hP hR hX hD hQ hT hn' hPR hZ
  go_enter Tryd.func47, Tryd.ntmps47
  go_wp2
  refine wp_region_still_lit (by kernel_rfl) (by kernel_rfl) ?_
  repeat still_step
  still_call (h40a _)
  repeat still_step
  still_call (h40a _)
  repeat still_step
  still_call (h40b _)
  repeat still_step
  refine wpStill_nil ?_
  change Exit.then _ _ _ _ w.drew
  go_wp2
  go_ret
  exact ⟨rfl, rfl⟩

set_option maxHeartbeats 1000000 in
theorem rword_any (A : Option Addr) (n c : Nat) (bs : List UInt8) (w : World) (h : Rd w A n c bs) (hn : 4 ≤ n) :
    Calls Tryd.prog 45 #[.slice A n c] w fun e w' => e = .returned (.int .i64 (wordN bs 0 : Nat)) ∧ w' = w.drew := by
  obtain ⟨g, o, rfl, hg, hc⟩ := h.cells (by omega)
  have d0 := hc 0 (by omega)
  have d1 := hc 1 (by omega)
  have d2 := hc 2 (by omega)
  have d3 := hc 3 (by omega)
  obtain ⟨y, hy⟩ : ∃ y, wordN bs 0 = y := ⟨_, rfl⟩
  rw [hy]
  unfold wordN at hy
  simp only [Nat.zero_add] at hy
  obtain ⟨x0, hx0⟩ : ∃ x, bs.getD 0 0 = x := ⟨_, rfl⟩
  obtain ⟨x1, hx1⟩ : ∃ x, bs.getD 1 0 = x := ⟨_, rfl⟩
  obtain ⟨x2, hx2⟩ : ∃ x, bs.getD 2 0 = x := ⟨_, rfl⟩
  obtain ⟨x3, hx3⟩ : ∃ x, bs.getD 3 0 = x := ⟨_, rfl⟩
  rw [hx0] at d0 hy
  rw [hx1] at d1 hy
  rw [hx2] at d2 hy
  rw [hx3] at d3 hy
  have e0 : x0.toNat < 256 := x0.toNat_lt
  have e1 : x1.toNat < 256 := x1.toNat_lt
  have e2 : x2.toNat < 256 := x2.toNat_lt
  have e3 : x3.toNat < 256 := x3.toNat_lt
  have r0 : IntKind.i64.wrap (x0.toNat : Int) = (x0.toNat : Int) := IntWalk.i64_in _ (by omega)
  have r1 : IntKind.i64.wrap (x1.toNat : Int) = (x1.toNat : Int) := IntWalk.i64_in _ (by omega)
  have r2 : IntKind.i64.wrap (x2.toNat : Int) = (x2.toNat : Int) := IntWalk.i64_in _ (by omega)
  have r3 : IntKind.i64.wrap (x3.toNat : Int) = (x3.toNat : Int) := IntWalk.i64_in _ (by omega)
  have s0 : IntKind.i64.wrap (16777216 * (x0.toNat : Int)) = 16777216 * (x0.toNat : Int) := IntWalk.i64_in _ (by omega)
  have s1 : IntKind.i64.wrap (65536 * (x1.toNat : Int)) = 65536 * (x1.toNat : Int) := IntWalk.i64_in _ (by omega)
  have s2 : IntKind.i64.wrap (256 * (x2.toNat : Int)) = 256 * (x2.toNat : Int) := IntWalk.i64_in _ (by omega)
  have t1 : IntKind.i64.wrap (16777216 * (x0.toNat : Int) + 65536 * (x1.toNat : Int)) = 16777216 * (x0.toNat : Int) + 65536 * (x1.toNat : Int) := IntWalk.i64_in _ (by omega)
  have t2 : IntKind.i64.wrap (16777216 * (x0.toNat : Int) + 65536 * (x1.toNat : Int) + 256 * (x2.toNat : Int)) = 16777216 * (x0.toNat : Int) + 65536 * (x1.toNat : Int) + 256 * (x2.toNat : Int) := IntWalk.i64_in _ (by omega)
  have t3 : IntKind.i64.wrap (16777216 * (x0.toNat : Int) + 65536 * (x1.toNat : Int) + 256 * (x2.toNat : Int) + (x3.toNat : Int)) = (y : Int) := by rw [IntWalk.i64_in _ (by omega)]; omega
  have b0 : (0 : Int) < (n : Int) := by omega
  have a0 : 0 < n := by omega
  have a1 : 1 < n := by omega
  have a2 : 2 < n := by omega
  have a3 : 3 < n := by omega
  have b1 : (1 : Int) < (n : Int) := by omega
  have b2 : (2 : Int) < (n : Int) := by omega
  have b3 : (3 : Int) < (n : Int) := by omega
  rw [Nat.add_zero] at d0
  clear hc hx0 hx1 hx2 hx3 hy h
  go_enter Tryd.func45, Tryd.ntmps45
  go_wp2
  refine wp_region_still_lit (by kernel_rfl) (by kernel_rfl) ?_
  repeat still_step
  refine wpStill_nil ?_
  change Exit.then _ _ _ _ w.drew
  go_wp2
  go_ret
  exact ⟨rfl, rfl⟩
end Go.Proofs.YtmimffbjghhdhaaDoor
