/- The document's Xor, Fold, Crc. Conditions: none. -/
import Derived.Test.YtmimffbjghhdhaaDoorF1
import Derived.Test.YtmimffbjghhdhaaDoorS12
import Derived.Deep.RegionLaw
namespace Go.Proofs.YtmimffbjghhdhaaDoor
open Go.RowKit Go.Bs Go.FoldW

theorem xor_bit (p q : Nat) : p ^^^ q = 2 * (p / 2 ^^^ q / 2) + (p % 2 + q % 2) % 2 := by
  have h1 : (p ^^^ q) / 2 = p / 2 ^^^ q / 2 := Nat.xor_div_two
  have h2 : (p ^^^ q) % 2 = (p % 2 + q % 2) % 2 := by
    have := @Nat.xor_mod_two_pow p q 1
    rw [Nat.pow_one] at this
    rw [this]
    have h3 : p % 2 = 0 ∨ p % 2 = 1 := by omega
    have h4 : q % 2 = 0 ∨ q % 2 = 1 := by omega
    rcases h3 with h3 | h3 <;> rcases h4 with h4 | h4 <;> rw [h3, h4] <;> decide
  omega
/-- a round of the document's Xor. -/
theorem xor_step (A x y p q d : Nat) (hd : (p % 2 + q % 2) % 2 = d) (h : y * (p ^^^ q) + x = A) : 2 * y * (p / 2 ^^^ q / 2) + (x + d * y) = A := by
  rw [← h, xor_bit p q, hd, Nat.mul_add, ← Nat.mul_assoc, Nat.mul_comm y 2, Nat.mul_comm y d]
  omega
theorem half_le (y p A : Nat) (h : y * p ≤ A) : 2 * y * (p / 2) ≤ A := by
  have h1 : 2 * (p / 2) ≤ p := by omega
  have h2 := Nat.mul_le_mul_left y h1
  rw [Nat.mul_comm 2 y, Nat.mul_assoc]
  omega
theorem le_of_pos (y p A : Nat) (h : y * p ≤ A) (hp : 0 < p) : y ≤ A := Nat.le_trans (Nat.le_mul_of_pos_right y hp) h

set_option maxHeartbeats 1000000 in
theorem Xor_any (a b : Nat) (w : World) (ha : a < 4294967296) (hb : b < 4294967296) :
    Calls Tryd.prog 17 #[.int .i64 (a : Int), .int .i64 (b : Int)] w fun e w' => e = .returned (.int .i64 ((a ^^^ b : Nat) : Int)) ∧ w = w' := by
  obtain ⟨A, hA⟩ : ∃ A, a ^^^ b = A := ⟨_, rfl⟩
  rw [hA]
  have HA := Lib.hid hA
  clear hA
  go_enter Tryd.func17, Tryd.ntmps17
  go_wp2
  go_loop [0, 1, 5, 6] (fun s t o v => ∃ p q x y : Nat, s = .int .i64 p ∧ t = .int .i64 q ∧ o = .int .i64 x ∧ v = .int .i64 y ∧ p < 4294967296 ∧ q < 4294967296 ∧ x < y ∧ Hid (y * (p ^^^ q) + x = A) ∧ Hid (y * p ≤ 4294967295) ∧ Hid (y * q ≤ 4294967295)) (fun s t _ _ => (intOf s).toNat + (intOf t).toNat)
  case atStart => exact ⟨a, b, 0, 1, rfl, rfl, rfl, rfl, ha, hb, by omega, by show _ = _; rw [← HA.out]; omega, by show _ ≤ _; omega, by show _ ≤ _; omega⟩
  case round =>
    obtain ⟨p, q, x, y, rfl, rfl, rfl, rfl, hp, hq, hxy, HE, HP, HQ⟩ := hrel
    by_cases h0 : 0 < p ∨ 0 < q
    · have hy : y ≤ 4294967295 := by
        rcases h0 with h | h
        · exact le_of_pos y p _ HP.out h
        · exact le_of_pos y q _ HQ.out h
      have HP2 : Hid (2 * y * (p / 2) ≤ 4294967295) := half_le y p _ HP.out
      have HQ2 : Hid (2 * y * (q / 2) ≤ 4294967295) := half_le y q _ HQ.out
      by_cases hbit : p % 2 = q % 2
      · have HE2 : Hid (2 * y * (p / 2 ^^^ q / 2) + (x + 0 * y) = A) := xor_step A x y p q 0 (by omega) HE.out
        have hbb : ((p : Int) % 2 != (q : Int) % 2) = false := by rw [bne_eq_false_iff_eq]; omega
        by_cases hp0 : 0 < p
        · go_wp2
          go_round
          case rel =>
            exact ⟨p / 2, q / 2, x, 2 * y, rfl, rfl, rfl, by go_num, by omega, by omega, by omega, by show _ = _; have := HE2.out; simpa using this, HP2, HQ2⟩
          case measure => simp [intOf]; omega
        · have hq0 : 0 < q := by omega
          go_wp2
          go_round
          case rel =>
            exact ⟨p / 2, q / 2, x, 2 * y, rfl, rfl, rfl, by go_num, by omega, by omega, by omega, by show _ = _; have := HE2.out; simpa using this, HP2, HQ2⟩
          case measure => simp [intOf]; omega
      · have HE2 : Hid (2 * y * (p / 2 ^^^ q / 2) + (x + 1 * y) = A) := xor_step A x y p q 1 (by omega) HE.out
        have hbb : ((p : Int) % 2 != (q : Int) % 2) = true := by rw [bne_iff_ne]; omega
        by_cases hp0 : 0 < p
        · go_wp2
          go_round
          case rel =>
            exact ⟨p / 2, q / 2, (x + y), 2 * y, rfl, rfl, by go_num, by go_num, by omega, by omega, by omega, by show _ = _; have := HE2.out; simpa using this, HP2, HQ2⟩
          case measure => simp [intOf]; omega
        · have hq0 : 0 < q := by omega
          go_wp2
          go_round
          case rel =>
            exact ⟨p / 2, q / 2, (x + y), 2 * y, rfl, rfl, by go_num, by go_num, by omega, by omega, by omega, by show _ = _; have := HE2.out; simpa using this, HP2, HQ2⟩
          case measure => simp [intOf]; omega
    · have hp0 : ¬ 0 < p := by omega
      have hq0 : ¬ 0 < q := by omega
      obtain rfl : p = 0 := by omega
      obtain rfl : q = 0 := by omega
      go_wp2
      go_ret
      have := HE.out
      refine ⟨?_, rfl⟩
      obtain rfl : x = A := by simpa using this
      rfl

theorem Xor_bytes (x y : UInt8) (w : World) : Calls Tryd.prog 17 #[.int .i64 (x.toNat : Int), .int .i64 (y.toNat : Int)] w fun e w' => e = .returned (.int .i64 ((x ^^^ y).toNat : Int)) ∧ w = w' := by
  have := Xor_any x.toNat y.toNat w (by have := x.toNat_lt; omega) (by have := y.toNat_lt; omega)
  rwa [← UInt8.toNat_xor] at this
theorem col_jump (bs : List UInt8) (size k j : Nat) (hk : k < size) (hj : j % size = k) : col bs size k (j + size) = col bs size k j ^^^ bs.getD j 0 := by
  have h := Nat.div_add_mod j size
  obtain ⟨t, ht⟩ : ∃ t, j = k + size * t := ⟨j / size, by omega⟩
  have h1 := col_next bs size k t hk
  rw [Nat.mul_succ, ← Nat.add_assoc, ← ht] at h1
  exact h1
set_option maxHeartbeats 1000000 in
theorem rFold_any (A : Option Addr) (n c size : Nat) (bs : List UInt8) (w : World) (h : Rd w A n c bs) (hn : n ≤ 17592186044416) (hs0 : 1 ≤ size) (hs : size ≤ 64) :
    Calls Tryd.prog 10 #[.slice A n c, .int .i64 (size : Int)] w fun e w' => ∃ v, e = .returned v ∧ Own w' w.heap.size 5 v (foldL bs size) ∧ Below w.heap.size w w' := by
  have HR := Lib.hid h
  have HLEN := Lib.hid h.len
  obtain ⟨g, hg⟩ : ∃ g, w.heap.size = g := ⟨_, rfl⟩
  rw [hg]
  have HG := Lib.hid hg
  clear h
  go_enter Tryd.func10, Tryd.ntmps10
  go_wp2
  go_loopw [5, 6] (fun v i wr => ∃ k : Nat, k ≤ size ∧ i = .int .i64 k ∧ Own wr g 5 v ((foldL bs size).take k) ∧ Below g w wr) (fun _ i _ => size - (intOf i).toNat)
  case atStart => exact ⟨0, Nat.zero_le _, rfl, by simpa using Own.nil w g 5, Below.refl _ _⟩
  case round =>
    obtain ⟨k, hk, rfl, hO, hB⟩ := hrel
    have HO := Lib.hid hO
    have HB := Lib.hid hB
    clear hO hB
    by_cases hlt : k < size
    · go_wp2
      go_loop [7, 8] (fun x i => ∃ j : Nat, i = .int .i64 j ∧ x = .int .i64 ((col bs size k j).toNat : Int) ∧ j ≤ n + size ∧ Hid (j % size = k)) (fun _ i => n + size - (intOf i).toNat)
      case atStart => exact ⟨k, rfl, by rw [col_first bs size k hlt]; rfl, by omega, Nat.mod_eq_of_lt hlt⟩
      case round =>
        obtain ⟨j, rfl, rfl, hj, HJ⟩ := hrel
        obtain ⟨x, hx⟩ : ∃ x, col bs size k j = x := ⟨_, rfl⟩
        rw [hx]
        have HX := Lib.hid hx
        have hx8 := x.toNat_lt
        clear hx
        by_cases hjn : j < n
        · obtain ⟨ga, oa, rfl, hga, hca⟩ := (HR.out.keep (w' := wr) (by rw [HG.out]; exact HB.out)).cells (by omega)
          have hc1 := hca j hjn
          have HN : Hid (col bs size k (j + size) = x ^^^ bs.getD j 0) := by
            show _ = _
            rw [col_jump bs size k j hlt HJ.out, HX.out]
          obtain ⟨y, hy⟩ : ∃ y, bs.getD j 0 = y := ⟨_, rfl⟩
          rw [hy] at hc1 HN
          have hy8 := y.toNat_lt
          have HXO := Lib.hid (Xor_bytes x y wr)
          clear hy hca hga
          go_wp2_with fail
          refine HXO.out.mono ?_
          rintro e w' ⟨rfl, rfl⟩
          go_wp2
          go_round
          case rel => exact ⟨j + size, by go_num, by rw [HN.out, UInt8.toNat_xor], by omega, by show _ = k; rw [Nat.add_mod_right]; exact HJ.out⟩
          case measure => simp [intOf]; omega
        · have hsz : g ≤ wr.heap.size + 1 := by have := HB.out.size; rw [HG.out] at this; omega
          have HF : Hid ((foldL bs size).take (k + 1) = (foldL bs size).take k ++ [x]) := by
            show _ = _
            rw [take_snoc _ _ (by rw [foldL_length]; exact hlt), foldL_getD bs size k hlt, ← HX.out, col_past bs size k j (by rw [HLEN.out]; omega)]
          have hl : ((foldL bs size).take k).length = k := by rw [List.length_take, foldL_length]; omega
          clear hg
          go_wp2_with (at_builtin; go_loud (refine wpList_app _ rfl (.tmp 29) (.tmp 32) _ rfl g 5 Tryd.underlying22 u8_info u5 ((foldL bs size).take k) rfl (HO.out.alloc _) _ 1 1 [x] rfl (one_rd _ _ _ _ rfl) (by rw [hl]; omega) (by simpa using hsz) ?_); intro v4 w4 ho4 hb4)
          go_roundw
          case rel =>
            refine ⟨k + 1, by omega, by go_num, ?_, (HB.out.alloc (by have := HB.out.size; rw [HG.out] at this; omega) _).trans hb4⟩
            rw [HF.out]
            exact ho4
          case measure => simp [intOf]; omega
    · obtain rfl : k = size := by omega
      go_wp2
      go_ret
      have := HO.out
      rw [List.take_of_length_le (by rw [foldL_length]; exact Nat.le_refl _)] at this
      exact ⟨_, rfl, this, HB.out⟩

set_option maxHeartbeats 1000000 in
theorem rCrc_any (A : Option Addr) (n c : Nat) (bs : List UInt8) (w : World) (h : Rd w A n c bs) (hn : n ≤ 17592186044416) :
    Calls Tryd.prog 16 #[.slice A n c] w fun e w' => e = .returned (.int .i64 (Crc.crc bs : Nat)) ∧ w = w' := by
  have HR := Lib.hid h
  have HLEN := Lib.hid h.len
  clear h
  go_enter Tryd.func16, Tryd.ntmps16
  go_wp2
  go_loop [3, 4] (fun v i => ∃ k : Nat, k ≤ n ∧ i = .int .i64 k ∧ v = .int .i64 (Crc.run 4294967295 (bs.take k) : Nat)) (fun _ i => n - (intOf i).toNat)
  case atStart => exact ⟨0, Nat.zero_le _, rfl, by simp [Crc.run]⟩
  case round =>
    obtain ⟨k, hk, rfl, rfl⟩ := hrel
    obtain ⟨s, hs⟩ : ∃ s, Crc.run 4294967295 (bs.take k) = s := ⟨_, rfl⟩
    have hsl : s < 4294967296 := by rw [← hs]; exact Crc.run_lt _ (by omega)
    have HS := Lib.hid hs
    rw [hs]
    clear hs
    by_cases hlt : k < n
    · obtain ⟨ga, oa, rfl, hga, hca⟩ := HR.out.cells (by omega)
      have hc1 := hca k hlt
      have HN : Hid (Crc.run 4294967295 (bs.take (k + 1)) = Crc.byte s (bs.getD k 0)) := by
        show _ = _
        rw [run_snoc bs k _ (by rw [HLEN.out]; exact hlt), HS.out]
      obtain ⟨x, hx⟩ : ∃ x, bs.getD k 0 = x := ⟨_, rfl⟩
      rw [hx] at hc1 HN
      have hxl := x.toNat_lt
      have HXO := Lib.hid (Xor_any s x.toNat w hsl (by omega))
      obtain ⟨y, hy⟩ : ∃ y, s ^^^ x.toNat = y := ⟨_, rfl⟩
      have hyl : y < 4294967296 := by rw [← hy]; exact Crc.xor_lt hsl (by omega)
      rw [hy] at HXO
      have HY : Hid (Crc.byte s x = Crc.steps 8 y) := by show Crc.steps 8 (s ^^^ x.toNat) = _; rw [hy]
      clear hx hy hca
      go_wp2_with fail
      refine HXO.out.mono ?_
      rintro e w' ⟨rfl, rfl⟩
      go_wp2
      go_loop [3, 5] (fun v i => ∃ t : Nat, t ≤ 8 ∧ i = .int .i64 t ∧ v = .int .i64 (Crc.steps t y : Nat)) (fun _ i => 8 - (intOf i).toNat)
      case atStart => exact ⟨0, Nat.zero_le _, rfl, by simp [Crc.steps]⟩
      case round =>
        obtain ⟨t, ht, rfl, rfl⟩ := hrel
        obtain ⟨z, hz⟩ : ∃ z, Crc.steps t y = z := ⟨_, rfl⟩
        have hzl : z < 4294967296 := by rw [← hz]; exact Crc.steps_lt hyl t
        have HZ := Lib.hid hz
        have HST : Hid (Crc.steps (t + 1) y = Crc.step z) := by show Crc.step (Crc.steps t y) = _; rw [hz]
        rw [hz]
        clear hz
        by_cases h8 : t < 8
        · rcases Nat.mod_two_eq_zero_or_one z with h2 | h2
          · have hzb : ((z : Int) % 2 == 1) = false := by rw [beq_eq_false_iff_ne]; omega
            have HH := Lib.hid (half z h2)
            clear h2
            go_wp2
            go_round
            case rel => exact ⟨t + 1, by omega, by go_num, by rw [HST.out, ← HH.out]⟩
            case measure => simp [intOf]; omega
          · have hzb : ((z : Int) % 2 == 1) = true := by rw [beq_iff_eq]; omega
            have HX2 := Lib.hid (Xor_any (z / 2) 3988292384 w (by omega) (by omega))
            have HH := Lib.hid (halfp z h2)
            clear h2
            go_wp2_with fail
            refine HX2.out.mono ?_
            rintro e w' ⟨rfl, rfl⟩
            go_wp2
            go_round
            case rel => exact ⟨t + 1, by omega, by go_num, by rw [HST.out, ← HH.out]; rfl⟩
            case measure => simp [intOf]; omega
        · obtain rfl : t = 8 := by omega
          go_wp2
          go_round
          case rel => exact ⟨k + 1, by omega, by go_num, by rw [HN.out, HY.out, HZ.out]⟩
          case measure => simp [intOf]; omega
    · obtain rfl : k = n := by omega
      have HC : Hid (Crc.crc bs = 4294967295 - s) := by
        show _ = _
        unfold Crc.crc
        rw [← HS.out, List.take_of_length_le (by rw [HLEN.out]; exact Nat.le_refl _)]
      go_wp2
      go_ret
      rw [HC.out, show ((4294967295 - s : Nat) : Int) = 4294967295 - (s : Int) by omega]
      exact ⟨rfl, rfl⟩
end Go.Proofs.YtmimffbjghhdhaaDoor
