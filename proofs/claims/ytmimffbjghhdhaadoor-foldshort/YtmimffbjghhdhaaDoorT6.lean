import Derived.Test.YtmimffbjghhdhaaDoorT5
namespace Go.Proofs.YtmimffbjghhdhaaDoor.B2x
open Go.RowKit Go.Bs

theorem value16_any (c : UInt8) (w : World) :
    Calls Tryd.prog 54 #[B c, .string ⟨#[48, 49, 50, 51, 52, 53, 54, 55, 56, 57, 97, 98, 99, 100, 101, 102]⟩] w fun e w' => e = .returned (.int .i64 (v16 c)) ∧ w = w' := value_any _ c w (by decide)
theorem value32_any (c : UInt8) (w : World) :
    Calls Tryd.prog 54 #[B c, .string ⟨#[48, 49, 50, 51, 52, 53, 54, 55, 56, 57, 97, 98, 99, 100, 102, 103, 104, 105, 106, 107, 108, 109, 110, 112, 113, 114, 115, 118, 119, 120, 121, 122]⟩] w fun e w' => e = .returned (.int .i64 (v32 c)) ∧ w = w' := value_any _ c w (by decide)

set_option maxHeartbeats 400000 in
theorem rUnhex_any (s : ByteArray) (l : List UInt8) (w : World) (hsl : s.data.toList = l) (hs : s.size ≤ 17592186044416) :
    Calls Tryd.prog 52 #[.string s] w fun e w' => Below w.heap.size w w' ∧ ((good16 l ∧ ∃ v, e = .returned (.tuple #[v, .bool true]) ∧ Own w' w.heap.size 5 v (unhexL l)) ∨ (¬ good16 l ∧ e = .returned (.tuple #[.slice none 0 0, .bool false]))) := by
  have hlen : l.length = s.size := by rw [← hsl]; simp
  have HLEN := Lib.hid hlen
  have HSL := Lib.hid hsl
  clear hlen hsl
  by_cases h2 : s.size % 2 = 0
  · obtain ⟨n, hn⟩ : ∃ n, s.size = 2 * n := ⟨s.size / 2, by omega⟩
    have hev : ((s.size : Int) % 2 != 0) = false := by rw [bne_eq_false_iff_eq]; omega
    have HUL : Hid ((unhexL l).length = n) := by show _ = n; rw [unhexL_length, HLEN.out]; omega
    go_enter Tryd.func52, Tryd.ntmps52
    go_wp2
    go_loopw [4, 5] (fun v i wr => ∃ k : Nat, k ≤ n ∧ i = .int .i64 (2 * k : Nat) ∧ (∀ j, j < 2 * k → 0 ≤ v16 (l.getD j 0)) ∧ Own wr w.heap.size 5 v ((unhexL l).take k) ∧ Below w.heap.size w wr) (fun _ i _ => 2 * n - (intOf i).toNat)
    case atStart => exact ⟨0, Nat.zero_le _, rfl, fun j hj => absurd hj (by omega), Own.nil _ _ _, Below.refl _ _⟩
    case round =>
      obtain ⟨k, hk, rfl, hval, hO, hG⟩ := hrel
      have HVAL := Lib.hid hval
      clear hval
      by_cases hlt : k < n
      · obtain ⟨x, hx⟩ : ∃ x, l.getD (2 * k) 0 = x := ⟨_, rfl⟩
        obtain ⟨y, hy⟩ : ∃ x, l.getD (2 * k + 1) 0 = x := ⟨_, rfl⟩
        have hsx : s[2 * k] = x := by
          rw [← hx, ← HSL.out, getD_get _ _ (by simp; omega)]
          rfl
        have hsy : s[2 * k + 1] = y := by
          rw [← hy, ← HSL.out, getD_get _ _ (by simp; omega)]
          rfl
        have HX := Lib.hid hx
        have HY := Lib.hid hy
        have HIX := Lib.hid (value16_any x wr)
        have HIY := Lib.hid (value16_any y wr)
        obtain ⟨a, ha⟩ : ∃ v, v16 x = v := ⟨_, rfl⟩
        obtain ⟨b, hb⟩ : ∃ v, v16 y = v := ⟨_, rfl⟩
        rw [ha] at HIX
        rw [hb] at HIY
        have HA := Lib.hid ha
        have HBB := Lib.hid hb
        have ha16 : a < 16 := by rw [← ha]; exact v16_lt x
        have hb16 : b < 16 := by rw [← hb]; exact v16_lt y
        clear hx hy ha hb
        by_cases ha0 : a < 0
        · go_wp2_with fail
          refine HIX.out.mono ?_
          rintro e w' ⟨rfl, rfl⟩
          go_wp2_with fail
          refine HIY.out.mono ?_
          rintro e w' ⟨rfl, rfl⟩
          go_wp2
          go_ret2
          refine ⟨hG, .inr ⟨fun hgd => ?_, rfl⟩⟩
          have h3 := hgd.2 (2 * k) (by rw [HLEN.out]; omega)
          rw [HX.out, HA.out] at h3
          omega
        · obtain ⟨a, rfl⟩ := Int.eq_ofNat_of_zero_le (show 0 ≤ a by omega)
          by_cases hb0 : b < 0
          · go_wp2_with fail
            refine HIX.out.mono ?_
            rintro e w' ⟨rfl, rfl⟩
            go_wp2_with fail
            refine HIY.out.mono ?_
            rintro e w' ⟨rfl, rfl⟩
            go_wp2
            go_ret2
            refine ⟨hG, .inr ⟨fun hgd => ?_, rfl⟩⟩
            have h3 := hgd.2 (2 * k + 1) (by rw [HLEN.out]; omega)
            rw [HY.out, HBB.out] at h3
            omega
          · obtain ⟨b, rfl⟩ := Int.eq_ofNat_of_zero_le (show 0 ≤ b by omega)
            have hv : Value.int .u8 (16 * (a : Int) + (b : Int)) = B (pairB l k) := by
              rw [← pairB_val l k a b (by rw [HX.out]; exact HA.out) (by rw [HY.out]; exact HBB.out) (by omega) (by omega)]
              congr 1
              omega
            have HV := Lib.hid hv
            clear hv
            have hlen : ((unhexL l).take k).length + 1 ≤ 70368744177664 := by rw [List.length_take]; omega
            have hsz : w.heap.size ≤ wr.heap.size + 1 := by have := hG.size; omega
            go_wp2_with fail
            refine HIX.out.mono ?_
            rintro e w' ⟨rfl, rfl⟩
            go_wp2_with fail
            refine HIY.out.mono ?_
            rintro e w' ⟨rfl, rfl⟩
            go_wp2_with (at_builtin; refine wpList_app _ rfl (.tmp 33) (.tmp 39) _ rfl w.heap.size 5 Tryd.underlying22 u8_info u4 ((unhexL l).take k) rfl (hO.alloc _) _ 1 1 [pairB l k] rfl (one_rd _ _ _ _ HV.out) hlen (by simpa using hsz) ?_; intro v1 w1 ho1 hb1)
            go_roundw
            case rel =>
              refine ⟨k + 1, by omega, by go_num, ?_, ?_, (hG.alloc hG.size _).trans hb1⟩
              · intro j hj
                by_cases hj2 : j < 2 * k
                · exact HVAL.out j hj2
                · by_cases hj3 : j = 2 * k
                  · subst hj3; rw [HX.out, HA.out]; omega
                  · obtain rfl : j = 2 * k + 1 := by omega
                    rw [HY.out, HBB.out]; omega
              · rw [take_snoc (unhexL l) k (by rw [HUL.out]; exact hlt), unhexL_getD l k (by rw [HLEN.out]; omega)]; exact ho1
            case measure => simp [intOf]; omega
      · obtain rfl : k = n := by omega
        have HO := Lib.hid hO
        clear hO
        go_wp2
        go_ret2
        refine ⟨hG, .inl ⟨⟨by rw [HLEN.out]; exact h2, fun j hj => HVAL.out j (by rw [HLEN.out] at hj; omega)⟩, _, rfl, ?_⟩⟩
        have := HO.out
        rwa [List.take_of_length_le (by rw [HUL.out]; exact Nat.le_refl _)] at this
  · have hev : ((s.size : Int) % 2 != 0) = true := by rw [bne_iff_ne]; omega
    go_enter Tryd.func52, Tryd.ntmps52
    go_wp2
    go_ret2
    exact ⟨Below.refl _ _, .inr ⟨fun hgd => h2 (by have := hgd.1; rwa [HLEN.out] at this), rfl⟩⟩

theorem slice32 (a : Nat) (ha : a < 32) (W : World) : (Instr.slice 9 (.string ⟨#[48, 49, 50, 51, 52, 53, 54, 55, 56, 57, 97, 98, 99, 100, 102, 103, 104, 105, 106, 107, 108, 109, 110, 112, 113, 114, 115, 118, 119, 120, 121, 122]⟩) (some (.int .i64 (a : Int))) (some (.int .i64 ((a : Int) + 1))) none).run Tryd.prog W = .ok (.string ⟨#[dig a]⟩) W := by
  have e := run_slice_string (P := Tryd.prog) W 9 ⟨#[48, 49, 50, 51, 52, 53, 54, 55, 56, 57, 97, 98, 99, 100, 102, 103, 104, 105, 106, 107, 108, 109, 110, 112, 113, 114, 115, 118, 119, 120, 121, 122]⟩ .i64 .i64 (a : Int) ((a : Int) + 1) Tryd.underlying9 (by omega) (by omega) (by
    rw [show (⟨#[48, 49, 50, 51, 52, 53, 54, 55, 56, 57, 97, 98, 99, 100, 102, 103, 104, 105, 106, 107, 108, 109, 110, 112, 113, 114, 115, 118, 119, 120, 121, 122]⟩ : ByteArray).size = 32 from rfl]; omega)
  rw [e, ← ext32 a ha]
  rfl

set_option maxHeartbeats 800000 in
theorem rEncode_any (A : Option Addr) (n c : Nat) (bs : List UInt8) (w : World) (h : Rd w A n c bs) (hn : n ≤ 17592186044416) :
    Calls Tryd.prog 27 #[.slice A n c] w fun e w' => e = .returned (.string ⟨(encL bs).toArray⟩) ∧ w = w' := by
  have HR := Lib.hid h
  have HE : Hid (encL bs = encD (nDig n) (leN bs)) := by show encL bs = _; unfold encL; rw [h.len]
  have HSZ := Lib.hid (rSize_any n w (by omega))
  obtain ⟨m, hm⟩ : ∃ m, nDig n = m := ⟨_, rfl⟩
  have hmb : 5 * m ≤ 8 * n + 4 := by rw [← hm]; unfold nDig; omega
  rw [hm] at HE HSZ
  obtain ⟨N, hN⟩ : ∃ N, leN bs = N := ⟨_, rfl⟩
  have HN := Lib.hid hN
  clear hm hN h
  go_enter Tryd.func27, Tryd.ntmps27
  go_wp2
  go_loop [3, 4] (fun s i => ∃ k : Nat, k ≤ m ∧ i = .int .i64 k ∧ s = .string ⟨(encD k N).toArray⟩) (fun _ i => m - (intOf i).toNat)
  case atStart => exact ⟨0, Nat.zero_le _, rfl, by simp [encD]⟩
  case round =>
    obtain ⟨k, hk, rfl, rfl⟩ := hrel
    obtain ⟨S, hS⟩ : ∃ S : ByteArray, ⟨(encD k N).toArray⟩ = S := ⟨_, rfl⟩
    rw [hS]
    have HS := Lib.hid hS
    clear hS
    by_cases hlt : k < m
    · go_wp2_with fail
      refine HSZ.out.mono ?_
      rintro e w' ⟨rfl, rfl⟩
      go_wp2
      go_loop [5, 6] (fun v j => ∃ t : Nat, t ≤ 5 ∧ j = .int .i64 (4 - t) ∧ v = .int .i64 (N / 2 ^ (5 * k + (5 - t)) % 2 ^ t : Nat)) (fun _ j => (intOf j + 1).toNat)
      case atStart => exact ⟨0, by omega, rfl, by simp [Nat.mod_one]⟩
      case round =>
        obtain ⟨t, ht, rfl, rfl⟩ := hrel
        obtain ⟨y, hy⟩ : ∃ y, N / 2 ^ (5 * k + (5 - t)) % 2 ^ t = y := ⟨_, rfl⟩
        have hyt : y < 2 ^ t := by rw [← hy]; exact Nat.mod_lt _ (Nat.pow_pos (by omega))
        have h32 : 2 ^ t ≤ 2 ^ 5 := Nat.pow_le_pow_right (by omega) ht
        have hy32 : y < 32 := by omega
        rw [hy]
        have HY := Lib.hid hy
        clear hy hyt h32
        by_cases ht5 : t < 5
        · have HBIT := Lib.hid (bit_any A n c (5 * k + (4 - t)) bs w HR.out (by omega) (by omega))
          rw [HN.out] at HBIT
          obtain ⟨z, hz⟩ : ∃ z, N / 2 ^ (5 * k + (4 - t)) % 2 = z := ⟨_, rfl⟩
          have hz2 : z < 2 := by rw [← hz]; exact Nat.mod_lt _ (by omega)
          rw [hz] at HBIT
          have HNX : Hid (N / 2 ^ (5 * k + (5 - (t + 1))) % 2 ^ (t + 1) = 2 * y + z) := by
            show _ = _
            rw [← bits_step, half, show 5 * k + (5 - (t + 1)) + 1 = 5 * k + (5 - t) by omega, HY.out, show 5 * k + (5 - (t + 1)) = 5 * k + (4 - t) by omega, hz]
          clear hz
          go_wp2_with fail
          rw [show (5 * (k : Int) + (4 - (t : Int))) = ((5 * k + (4 - t) : Nat) : Int) by omega]
          refine HBIT.out.mono ?_
          rintro e w' ⟨rfl, rfl⟩
          go_wp2
          go_round
          case rel => exact ⟨t + 1, by omega, by congr 1; omega, by rw [HNX.out]; go_num⟩
          case measure => simp [intOf]; omega
        · obtain rfl : t = 5 := by omega
          have HD : Hid (N / 32 ^ k % 32 = y) := by
            show _ = y
            rw [← HY.out, pow32]
            rfl
          obtain ⟨S1, hS1⟩ : ∃ S : ByteArray, ⟨([dig y] ++ encD k N).toArray⟩ = S := ⟨_, rfl⟩
          have hsl := slice32 y hy32
          have hadd := add_str [dig y] (encD k N) ⟨#[dig y]⟩ S S1 rfl HS.out hS1 (by rw [encD_length]; simp only [List.length_cons, List.length_nil]; omega)
          have HS1 := Lib.hid hS1
          clear hS1
          go_wp2
          go_round
          case rel =>
            refine ⟨k + 1, by omega, by go_num, ?_⟩
            rw [← HS1.out, encD, HD.out]
            rfl
          case measure => simp [intOf]; omega
    · obtain rfl : k = m := by omega
      go_wp2_with fail
      refine HSZ.out.mono ?_
      rintro e w' ⟨rfl, rfl⟩
      go_wp2
      go_ret
      exact ⟨by rw [HE.out, HN.out, HS.out]; rfl, rfl⟩
end Go.Proofs.YtmimffbjghhdhaaDoor.B2x
