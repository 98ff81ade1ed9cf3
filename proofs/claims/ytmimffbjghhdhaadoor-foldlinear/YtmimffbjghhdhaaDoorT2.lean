import Derived.Test.YtmimffbjghhdhaaDoorT1
import Derived.IntWalk
namespace Go.Proofs.YtmimffbjghhdhaaDoor.B2x
open Go.RowKit Go.Bs

set_option maxHeartbeats 400000 in
theorem fiveBits_any (A : Option Addr) (n c k : Nat) (bs : List UInt8) (w : World) (h : Rd w A n c bs) (hn : n ≤ 70368744177664) (hk : 5 * k / 8 < n) :
    Calls Tryd.prog 30 #[.slice A n c, .int .i64 k] w fun e w' => e = .returned (.int .i64 (leN bs / 32 ^ k % 32 : Nat)) ∧ w = w' := by
  have HF := Lib.hid (five bs k)
  have HL := Lib.hid h.len
  obtain ⟨g, o, rfl, hg, hc⟩ := h.cells (by omega)
  have hk2 : k ≤ 281474976710656 := by omega
  obtain ⟨a, ha⟩ : ∃ a, 5 * k / 8 = a := ⟨_, rfl⟩
  obtain ⟨u, hu⟩ : ∃ u, 5 * k % 8 = u := ⟨_, rfl⟩
  have hu8 : u < 8 := by omega
  rw [ha, hu] at HF
  have hplace := place_any k w
  rw [ha, hu] at hplace
  rw [ha] at hk
  obtain ⟨x, hx⟩ : ∃ x, bs.getD a 0 = x := ⟨_, rfl⟩
  have hcell := hc a hk
  rw [hx] at hcell HF
  have hx8 : x.toNat < 256 := x.toNat_lt
  clear ha hu hx
  by_cases h1 : a + 1 < n
  · obtain ⟨y, hy⟩ : ∃ y, bs.getD (a + 1) 0 = y := ⟨_, rfl⟩
    have hcell2 := hc (a + 1) h1
    rw [hy] at hcell2 HF
    have hy8 : y.toNat < 256 := y.toNat_lt
    clear hc hy
    go_enter Tryd.func30, Tryd.ntmps30
    go_wp2_with fail
    refine (hplace hk2).mono ?_
    rintro e w' ⟨rfl, rfl⟩
    go_wp2
    go_ret
    exact ⟨by rw [← HF.out, ← five_val2 _ _ _ hx8 hy8]; rfl, rfl⟩
  · have hy : bs.getD (a + 1) 0 = 0 := by
      have := HL.out
      simp [List.getD, List.getElem?_eq_none (show bs.length ≤ a + 1 by omega)]
    rw [hy] at HF
    clear hc hy
    go_enter Tryd.func30, Tryd.ntmps30
    go_wp2_with fail
    refine (hplace hk2).mono ?_
    rintro e w' ⟨rfl, rfl⟩
    go_wp2
    go_ret
    exact ⟨by rw [← HF.out, UInt8.toNat_zero, Nat.mul_zero, Nat.add_zero, ← five_val1 _ _ hx8]; rfl, rfl⟩

theorem put_arith (X k v : Nat) (hX : X < 32 ^ k) : X / 256 ^ (5 * k / 8) < 2 ^ (5 * k % 8) := by
  rw [Nat.div_lt_iff_lt_mul (pos256 _), Nat.mul_comm, ← pow_at]
  exact hX

theorem orB (x : UInt8) (q y : Nat) (hx : x.toNat = q % 256) (h : q % 256 ||| y % 256 = (q + y) % 256) : Value.int .u8 (bits .or .u8 (x.toNat : Int) ((y : Int) % 256)) = B (UInt8.ofNat (q + y)) := by
  have e : ((y : Int) % 256) = ((y % 256 : Nat) : Int) := by omega
  rw [hx, e, u8_or_nat _ _ (Nat.mod_lt _ (by omega)) (Nat.mod_lt _ (by omega)), h]
  show Value.int .u8 _ = Value.int .u8 ((UInt8.ofNat (q + y)).toNat : Int)
  simp

theorem fit1 (X y a n q : Nat) (hq : X / 256 ^ a = q) (h : q + y < 256) (ha : a < n) : X + y * 256 ^ a < 256 ^ n := by
  have h4 : 256 ^ (a + 1) ≤ 256 ^ n := Nat.pow_le_pow_right (by omega) ha
  rw [Nat.pow_succ, Nat.mul_comm] at h4
  have h5 := Nat.lt_div_mul_add (pos256 a) (a := X)
  rw [hq] at h5
  refine Nat.lt_of_lt_of_le ?_ h4
  refine Nat.lt_of_lt_of_le (Nat.add_lt_add_right h5 _) ?_
  have h3 : (q + 1 + y) * 256 ^ a ≤ 256 * 256 ^ a := Nat.mul_le_mul_right _ (by omega)
  rw [Nat.add_mul, Nat.add_mul, Nat.one_mul] at h3
  exact h3
theorem fit2 (X y a n q : Nat) (hq : X / 256 ^ a = q) (h : q + y < 65536) (ha : a + 1 < n) : X + y * 256 ^ a < 256 ^ n := by
  have h4 : 256 ^ (a + 2) ≤ 256 ^ n := Nat.pow_le_pow_right (by omega) ha
  rw [Nat.pow_add, Nat.mul_comm] at h4
  have h5 := Nat.lt_div_mul_add (pos256 a) (a := X)
  rw [hq] at h5
  refine Nat.lt_of_lt_of_le ?_ h4
  refine Nat.lt_of_lt_of_le (Nat.add_lt_add_right h5 _) ?_
  have h3 : (q + 1 + y) * 256 ^ a ≤ 65536 * 256 ^ a := Nat.mul_le_mul_right _ (by omega)
  rw [Nat.add_mul, Nat.add_mul, Nat.one_mul] at h3
  exact h3
theorem fit3 (y a n : Nat) (h : 256 ≤ y) (ha : a + 1 = n) : 256 ^ n ≤ y * 256 ^ a := by
  rw [← ha, Nat.pow_succ, Nat.mul_comm]
  exact Nat.mul_le_mul_right _ h
theorem pow_small (u : Nat) (hu : u < 8) : 2 ^ u ≤ 128 := by
  have : u = 0 ∨ u = 1 ∨ u = 2 ∨ u = 3 ∨ u = 4 ∨ u = 5 ∨ u = 6 ∨ u = 7 := by omega
  rcases this with h | h | h | h | h | h | h | h <;> subst h <;> decide

/-- all that is plain of one digit that is set. -/
theorem five_plain (n k v X a u y q : Nat) (ha : 5 * k / 8 = a) (hu : 5 * k % 8 = u) (hX : X < 32 ^ k) (hv : v < 32) (hy : v * 2 ^ u = y) (hq : X / 256 ^ a = q) :
    v * 32 ^ k = y * 256 ^ a ∧ q ≤ 127 ∧ y ≤ 3968 ∧ (q + y) / 256 = y / 256 ∧ (q % 256 ||| y % 256) = (q + y) % 256 ∧ (byteAt X a).toNat = q % 256 ∧ (byteAt X (a + 1)).toNat = 0 := by
  have hlt := put_arith X k v hX
  have e32 := pow_at k
  have hu8 : u < 8 := by omega
  have hs := pow_small u hu8
  rw [ha, hu] at hlt e32
  obtain ⟨h1, h2⟩ := low_add (X / 256 ^ a) v u hu8 hlt
  have h3 : v * 2 ^ u ≤ 31 * 128 := Nat.mul_le_mul (by omega) hs
  have h4 : (byteAt X a).toNat = X / 256 ^ a % 256 := byteAt_toNat X a
  have h5 : (byteAt X (a + 1)).toNat = X / 256 ^ a / 256 % 256 := by rw [byteAt_toNat, Nat.pow_succ, ← Nat.div_div_eq_div_mul]
  have h6 : v * 32 ^ k = v * 2 ^ u * 256 ^ a := by rw [e32, Nat.mul_comm (256 ^ a), Nat.mul_assoc]
  rw [hy] at h1 h2 h3 h6
  rw [hq] at h1 h2 hlt h4 h5
  refine ⟨h6, by omega, h3, h1, h2, h4, ?_⟩
  rw [h5, Nat.div_eq_of_lt (by omega)]

set_option maxHeartbeats 400000 in
theorem setFive_any (g n c k v X : Nat) (w : World) (h : Blk w g 5 (byteL n X)) (hX : X < 32 ^ k) (hv : v < 32) (hn : n ≤ 70368744177664) (hk : 5 * k / 8 < n) :
    Calls Tryd.prog 24 #[.slice (some ⟨g, 0, none⟩) n c, .int .i64 k, .int .i64 v] w fun e w' => (X + v * 32 ^ k < 256 ^ n ∧ e = .returned (.bool true) ∧ Blk w' g 5 (byteL n (X + v * 32 ^ k)) ∧ w.grownBy w' (some g)) ∨ (256 ^ n ≤ v * 32 ^ k ∧ e = .returned (.bool false) ∧ w.grownBy w' (some g)) := by
  have hk2 : k ≤ 281474976710656 := by omega
  obtain ⟨a, ha⟩ : ∃ a, 5 * k / 8 = a := ⟨_, rfl⟩
  obtain ⟨u, hu⟩ : ∃ u, 5 * k % 8 = u := ⟨_, rfl⟩
  obtain ⟨y, hy⟩ : ∃ y, v * 2 ^ u = y := ⟨_, rfl⟩
  obtain ⟨q, hq⟩ : ∃ q, X / 256 ^ a = q := ⟨_, rfl⟩
  obtain ⟨ex, hq7, hy3, h1, h2, hbx, hbz⟩ := five_plain n k v X a u y q ha hu hX hv hy hq
  have hu8 : u < 8 := by omega
  have HP := Lib.hid (place_any k w hk2)
  rw [ha, hu] at HP
  rw [ha] at hk
  have HEX := Lib.hid ex
  have HW : Hid (wrap64 ((v : Int) * 2 ^ u) = (y : Int)) := by
    rw [show ((v : Int) * 2 ^ u) = ((v * 2 ^ u : Nat) : Int) by simp, hy]
    exact IntWalk.wrap64_in _ (by omega)
  have hput := byteL_put n X y a (by rw [hq]; exact h1) (by omega)
  have hput0 := byteL_put0 n X y a
  rw [hq] at hput hput0
  have hcell := h.cell a (by rw [byteL_length]; exact hk)
  have hfz := h.frozen a
  rw [byteL_getD _ _ _ hk] at hcell
  obtain ⟨x, hx⟩ : ∃ x, byteAt X a = x := ⟨_, rfl⟩
  rw [hx] at hcell hbx
  have HST := Lib.hid (orB x _ y hbx h2)
  clear hbx hx h2 hy ha hu hX ex
  have HPUT := Lib.hid hput
  have HPUT0 := Lib.hid hput0
  have HQ := Lib.hid hq
  have HBZ := Lib.hid hbz
  have HB := Lib.hid h
  have HY := Lib.hid (show q ≤ 127 ∧ y ≤ 3968 ∧ (q + y) / 256 = y / 256 from ⟨hq7, hy3, h1⟩)
  clear hput hput0 hq hbz hq7 hy3 h1 h
  by_cases h9 : a + 1 = n
  · have hn0 : (((a : Int) + 1) == (n : Int)) = true := by rw [beq_iff_eq]; omega
    go_enter Tryd.func24, Tryd.ntmps24
    go_wp2_with fail
    refine HP.out.mono ?_
    rintro e w' ⟨rfl, rfl⟩
    go_wp2
    · have ht : (wrap64 ((v : Int) * 2 ^ u) / 256 == 0) = true := by assumption
      have hy := HY.out
      rw [HW.out, beq_iff_eq] at ht
      have hz : q + y < 256 := by omega
      go_ret
      rw [HEX.out, HW.out]
      refine .inl ⟨fit1 X y a n q HQ.out hz hk, rfl, ?_, ?_⟩
      · rw [HST.out, HPUT0.out (by omega)]; exact HB.out.set _ _
      · exact grown_set (World.grownBy.refl _ _) _ _
    · have ht : (wrap64 ((v : Int) * 2 ^ u) / 256 == 0) = false := by assumption
      rw [HW.out, beq_eq_false_iff_ne] at ht
      go_ret
      rw [HEX.out, HW.out]
      exact .inr ⟨fit3 y a n (by omega) h9, rfl, grown_set (World.grownBy.refl _ _) _ _⟩
  · have hn0 : (((a : Int) + 1) == (n : Int)) = false := by rw [beq_eq_false_iff_ne]; omega
    have hcell2 := HB.out.cell (a + 1) (by rw [byteL_length]; omega)
    have hfz2 := HB.out.frozen (a + 1)
    rw [byteL_getD _ _ _ (by omega)] at hcell2
    obtain ⟨x2, hx2⟩ : ∃ x, byteAt X (a + 1) = x := ⟨_, rfl⟩
    rw [hx2] at hcell2
    have HX2 := Lib.hid hx2
    clear hx2
    go_enter Tryd.func24, Tryd.ntmps24
    go_wp2_with fail
    refine HP.out.mono ?_
    rintro e w' ⟨rfl, rfl⟩
    go_wp2
    · have ht : (wrap64 ((v : Int) * 2 ^ u) / 256 == 0) = true := by assumption
      have hy := HY.out
      rw [HW.out, beq_iff_eq] at ht
      have hz : q + y < 256 := by omega
      go_ret
      rw [HEX.out, HW.out]
      refine .inl ⟨fit1 X y a n q HQ.out hz hk, rfl, ?_, ?_⟩
      · rw [HST.out, HPUT0.out (by omega)]; exact HB.out.set _ _
      · exact grown_set (World.grownBy.refl _ _) _ _
    · have ht : (wrap64 ((v : Int) * 2 ^ u) / 256 == 0) = false := by assumption
      have hy := HY.out
      rw [HW.out, beq_eq_false_iff_ne] at ht
      go_ret
      rw [HEX.out, HW.out]
      refine .inl ⟨fit2 X y a n q HQ.out (by omega) (by omega), rfl, ?_, ?_⟩
      · rw [HST.out, HPUT.out, show ((y : Int) / 256) = ((y / 256 : Nat) : Int) by omega, orB x2 0 (y / 256) (by rw [← HX2.out, HBZ.out]) (by simp), Nat.zero_add]
        exact (HB.out.set _ _).set _ _
      · exact grown_set (grown_set (World.grownBy.refl _ _) _ _) _ _
end Go.Proofs.YtmimffbjghhdhaaDoor.B2x
