/- The closure that reads a number. Conditions: none. -/
import Derived.Test.YtlnghdldecnmgaaK5
import Derived.StillTailTactics
set_option maxRecDepth 100000
set_option linter.unusedSimpArgs false
set_option linter.unusedVariables false
namespace Go.Proofs.Ytlnghdldecnmgaa
open Go.RowKit Go.Bs Go.Kx

theorem at31_st (w : World) (z : Nat) : Calls Try.prog 31 #[.pointer (some ⟨z, 0, none⟩)] w fun e w' => e = .returned (.pointer (some ⟨z, 3, none⟩)) ∧ w' = w := (at31_any w z).mono fun _ _ ⟨a, b⟩ => ⟨a, b.symm⟩
theorem at32_st (w : World) (z : Nat) : Calls Try.prog 32 #[.pointer (some ⟨z, 0, none⟩)] w fun e w' => e = .returned (.pointer (some ⟨z, 4, none⟩)) ∧ w' = w := (at32_any w z).mono fun _ _ ⟨a, b⟩ => ⟨a, b.symm⟩
theorem len_st (l : List UInt8) (n : Nat) (h : l.length = n) (W : World) : (Builtin.len_ #[9] 3 #[st l]).run Try.prog W = .ok (.int .i64 (n : Int)) W := by
  have hsz : (⟨l.toArray⟩ : ByteArray).size = l.length := size_list l
  rw [h] at hsz
  unfold st
  go_simp
theorem or_be (v x : Nat) (hv : v < 65536) (hx : x < 256) : bits .or .i64 ((v : Int) * 256) (x : Int) = ((v * 256 + x : Nat) : Int) := by
  have h1 := i64_or_nat (2 ^ 8 * v) x (by omega) (by omega)
  rw [← Nat.two_pow_add_eq_or_of_lt (by omega : x < 2 ^ 8)] at h1
  rw [show ((v : Int) * 256) = ((2 ^ 8 * v : Nat) : Int) by omega, h1]
  omega
theorem idx_st (l : List UInt8) (j : Nat) (x : UInt8) (hj : j < l.length) (hx : l.getD j 0 = x) (W : World) : (Instr.index 9 (st l) (.int .i64 (j : Int))).run Try.prog W = .ok (B x) W := by
  have h1 : j < (⟨l.toArray⟩ : ByteArray).size := by simpa [ByteArray.size] using hj
  unfold st
  rw [run_index_string W 9 _ .i64 (j : Int) Try.underlying9, dif_pos ⟨by omega, by omega⟩]
  have h2 : ((⟨l.toArray⟩ : ByteArray)[j]) = x := by
    rw [← hx, getD_get l j hj]
    rfl
  simp [h2, B]
set_option maxHeartbeats 2000000 in
theorem numRead_any (w : World) (z q : Nat) (k : Ky) (ism : Bool) (size : Nat) (l : List UInt8) (hk : KyAt w z k) (h0 : w.cell? ⟨q, 0, none⟩ = some (fnN ism))
    (h3 : w.cell? ⟨q + 3, 0, none⟩ = some (.int .i64 (size : Int))) (hq : z < q) (hs : 1 ≤ size ∧ size ≤ 3) (hl : l.length ≤ 140737488351232) (hn : k.num ism = 0) :
    Calls Try.prog 39 #[.pointer (some ⟨z, 0, none⟩), st l, .pointer (some ⟨q + 3, 0, none⟩), .pointer (some ⟨q, 0, none⟩)] w fun e w' =>
      e = .returned (st (l.drop size)) ∧ KyAt w' z (k.setN ism (beN (l.take size) : Nat)) ∧ Fr (· = z) w w' := by
  have hsz : (⟨l.toArray⟩ : ByteArray).size = l.length := size_list l
  obtain ⟨own, hown⟩ : ∃ own, min size l.length = own := ⟨_, rfl⟩
  have hdr : l.drop size = l.drop own := by
    rcases Nat.le_total size l.length with h | h
    · rw [← hown, Nat.min_eq_left h]
    · rw [← hown, Nat.min_eq_right h, List.drop_eq_nil_of_le h, List.drop_eq_nil_of_le (Nat.le_refl _)]
  have htk : l.take size = l.take own := by
    rcases Nat.le_total size l.length with h | h
    · rw [← hown, Nat.min_eq_left h]
    · rw [← hown, Nat.min_eq_right h, List.take_of_length_le h, List.take_of_length_le (Nat.le_refl _)]
  have hown1 : own ≤ 3 := by omega
  have hown2 : own ≤ l.length := by omega
  have hsl := slice_from l own hown2
  rw [hdr, htk]
  have hmin : ((own : Nat) : Int) = min (size : Int) (l.length : Int) := by omega
  obtain ⟨g, hg⟩ : ∃ g, w.heap.size = g := ⟨_, rfl⟩
  have hzg : z < g := by rw [← hg]; exact hk.lt
  have hqg : q + 3 < g := by rw [← hg]; exact blt_of_cell h3
  have hk0 : KyAt w z (k.setN ism (beN (l.take 0) : Nat)) := by
    have : k.setN ism (beN (l.take 0) : Nat) = k := by
      cases ism <;> simp [Ky.setN, Ky.num, beN] at hn ⊢ <;> cases k <;> simp_all
    rw [this]; exact hk
  have HK0 := Lib.hid hk0
  obtain ⟨n, hnn⟩ : ∃ n, l.length = n := ⟨_, rfl⟩
  have HL := Lib.hid hnn
  rw [hnn] at hl hsz hmin hown2
  have HG := Lib.hid hg
  have H0 := Lib.hid h0
  clear hown hdr htk hk hn hk0 hnn hg
  cases ism
  · simp only [fnN, Bool.false_eq_true, if_false] at h0
    by_cases hns : n < size
    · obtain rfl : own = n := by omega
      clear hmin
      have hln : ∀ W, (Builtin.len_ #[9] 3 #[st l]).run Try.prog W = .ok (.int .i64 (own : Int)) W := len_st l _ HL.out
      go_enter Try.func39, Try.ntmps39
      go_wp2
      go_loopw [14] (fun i wr => ∃ j : Nat, j ≤ own ∧ i = .int .i64 j ∧ KyAt wr z (k.setN false (beN (l.take j) : Nat)) ∧ Fr (· = z) w wr) (fun i _ => own - (intOf i).toNat)
      case atStart => exact ⟨0, Nat.zero_le _, rfl, HK0.out, Fr.refl _ _⟩
      case round =>
        obtain ⟨j, hj, rfl, hK, hF⟩ := hrel
        have g0 : wr.cell? ⟨q, 0, none⟩ = some (.func (.func 31) #[] #[]) := hF.cell h0 (by show ¬ q = z; omega)
        obtain ⟨v, hv⟩ : ∃ v, beN (l.take j) = v := ⟨_, rfl⟩
        by_cases hlt : j < own
        · have hvb : v < 65536 := by
            have h1 := beN_lt (l.take j)
            rw [hv, List.length_take, Nat.min_eq_left (by rw [HL.out]; omega)] at h1
            have h2 : 256 ^ j ≤ 256 ^ 2 := Nat.pow_le_pow_right (by omega) (by omega)
            omega
          obtain ⟨x, hx⟩ : ∃ x, l.getD j 0 = x := ⟨_, rfl⟩
          have hxi : ∀ W, (Instr.index 9 (st l) (.int .i64 (j : Int))).run Try.prog W = .ok (B x) W := fun W => idx_st l j x (by rw [HL.out]; omega) hx W
          have hv2 : Hid (beN (l.take (j + 1)) = v * 256 + x.toNat) := by
            show beN (l.take (j + 1)) = _
            rw [take_snoc l j (by rw [HL.out]; omega), beN_snoc, hv, hx]
          have hxlt : x.toNat < 256 := x.toNat_lt
          rw [hv] at hK
          obtain ⟨c0, c1, c2, c3, c4, fz⟩ := hK.at
          have fzc := fz 3
          have cc : wr.cell? ⟨z, 3, none⟩ = some (.int .i64 (v : Int)) := c3
          have hor : bits .or .i64 ((v : Int) * 256) (x.toNat : Int) = ((v * 256 + x.toNat : Nat) : Int) := or_be v x.toNat hvb hxlt
          have hKS : Hid (KyAt ((wr.setCell ⟨z, 3, none⟩ (.int .i64 ((v : Int) * 256 + (x.toNat : Int)))).drew) z (k.setN false (beN (l.take (j + 1)) : Nat))) := by
            show KyAt _ _ _
            rw [hv2.out]
            have h5 := (hK.keep (Below.refl _ _).drew).setN false ((v : Int) * 256 + (x.toNat : Int))
            have h6 : ((v * 256 + x.toNat : Nat) : Int) = (v : Int) * 256 + (x.toNat : Int) := by omega
            rw [h6]
            simp only [Ky.setN, if_true, if_false, Bool.false_eq_true] at h5 ⊢
            exact h5
          have hFS : Hid (Fr (· = z) w ((wr.setCell ⟨z, 3, none⟩ (.int .i64 ((v : Int) * 256 + (x.toNat : Int)))).drew)) := (hF.setCell (.inl rfl) _).drew
          clear hK hF c0 c1 c2 c3 c4 fz hv hx hv2
          have mixed : Try.prog.follows .mixedOrders = true := by kernel_rfl
          go_wp2_with fail
          refine wp_region_still_tail 15 mixed (by kernel_rfl) ?_
          simp only [List.take_succ_cons, List.take_zero, List.drop_succ_cons, List.drop_zero]
          repeat still_step
          still_call (at31_st _ z)
          repeat still_step
          still_call (at31_st _ z)
          repeat still_step
          try refine wpStill_nil ?_
          go_wp2
          exact ⟨⟨j + 1, by omega, by go_num, hKS.out, hFS.out⟩, by simp [intOf]; omega⟩
        · obtain rfl : j = own := by omega
          have HE : Hid (KyAt wr z (k.setN false (beN (l.take j) : Nat)) ∧ Fr (· = z) w wr) := ⟨hK, hF⟩
          clear hK hF hv
          go_wp2
          go_ret
          exact ⟨rfl, HE.out⟩
    · obtain rfl : own = size := by omega
      clear hmin
      have hln : ∀ W, (Builtin.len_ #[9] 3 #[st l]).run Try.prog W = .ok (.int .i64 (n : Int)) W := len_st l _ HL.out
      go_enter Try.func39, Try.ntmps39
      go_wp2
      go_loopw [14] (fun i wr => ∃ j : Nat, j ≤ own ∧ i = .int .i64 j ∧ KyAt wr z (k.setN false (beN (l.take j) : Nat)) ∧ Fr (· = z) w wr) (fun i _ => own - (intOf i).toNat)
      case atStart => exact ⟨0, Nat.zero_le _, rfl, HK0.out, Fr.refl _ _⟩
      case round =>
        obtain ⟨j, hj, rfl, hK, hF⟩ := hrel
        have g0 : wr.cell? ⟨q, 0, none⟩ = some (.func (.func 31) #[] #[]) := hF.cell h0 (by show ¬ q = z; omega)
        obtain ⟨v, hv⟩ : ∃ v, beN (l.take j) = v := ⟨_, rfl⟩
        by_cases hlt : j < own
        · have hvb : v < 65536 := by
            have h1 := beN_lt (l.take j)
            rw [hv, List.length_take, Nat.min_eq_left (by rw [HL.out]; omega)] at h1
            have h2 : 256 ^ j ≤ 256 ^ 2 := Nat.pow_le_pow_right (by omega) (by omega)
            omega
          obtain ⟨x, hx⟩ : ∃ x, l.getD j 0 = x := ⟨_, rfl⟩
          have hxi : ∀ W, (Instr.index 9 (st l) (.int .i64 (j : Int))).run Try.prog W = .ok (B x) W := fun W => idx_st l j x (by rw [HL.out]; omega) hx W
          have hv2 : Hid (beN (l.take (j + 1)) = v * 256 + x.toNat) := by
            show beN (l.take (j + 1)) = _
            rw [take_snoc l j (by rw [HL.out]; omega), beN_snoc, hv, hx]
          have hxlt : x.toNat < 256 := x.toNat_lt
          rw [hv] at hK
          obtain ⟨c0, c1, c2, c3, c4, fz⟩ := hK.at
          have fzc := fz 3
          have cc : wr.cell? ⟨z, 3, none⟩ = some (.int .i64 (v : Int)) := c3
          have hor : bits .or .i64 ((v : Int) * 256) (x.toNat : Int) = ((v * 256 + x.toNat : Nat) : Int) := or_be v x.toNat hvb hxlt
          have hKS : Hid (KyAt ((wr.setCell ⟨z, 3, none⟩ (.int .i64 ((v : Int) * 256 + (x.toNat : Int)))).drew) z (k.setN false (beN (l.take (j + 1)) : Nat))) := by
            show KyAt _ _ _
            rw [hv2.out]
            have h5 := (hK.keep (Below.refl _ _).drew).setN false ((v : Int) * 256 + (x.toNat : Int))
            have h6 : ((v * 256 + x.toNat : Nat) : Int) = (v : Int) * 256 + (x.toNat : Int) := by omega
            rw [h6]
            simp only [Ky.setN, if_true, if_false, Bool.false_eq_true] at h5 ⊢
            exact h5
          have hFS : Hid (Fr (· = z) w ((wr.setCell ⟨z, 3, none⟩ (.int .i64 ((v : Int) * 256 + (x.toNat : Int)))).drew)) := (hF.setCell (.inl rfl) _).drew
          clear hK hF c0 c1 c2 c3 c4 fz hv hx hv2
          have mixed : Try.prog.follows .mixedOrders = true := by kernel_rfl
          go_wp2_with fail
          refine wp_region_still_tail 15 mixed (by kernel_rfl) ?_
          simp only [List.take_succ_cons, List.take_zero, List.drop_succ_cons, List.drop_zero]
          repeat still_step
          still_call (at31_st _ z)
          repeat still_step
          still_call (at31_st _ z)
          repeat still_step
          try refine wpStill_nil ?_
          go_wp2
          exact ⟨⟨j + 1, by omega, by go_num, hKS.out, hFS.out⟩, by simp [intOf]; omega⟩
        · obtain rfl : j = own := by omega
          have HE : Hid (KyAt wr z (k.setN false (beN (l.take j) : Nat)) ∧ Fr (· = z) w wr) := ⟨hK, hF⟩
          clear hK hF hv
          go_wp2
          go_ret
          exact ⟨rfl, HE.out⟩
  · simp only [fnN, if_true] at h0
    by_cases hns : n < size
    · obtain rfl : own = n := by omega
      clear hmin
      have hln : ∀ W, (Builtin.len_ #[9] 3 #[st l]).run Try.prog W = .ok (.int .i64 (own : Int)) W := len_st l _ HL.out
      go_enter Try.func39, Try.ntmps39
      go_wp2
      go_loopw [14] (fun i wr => ∃ j : Nat, j ≤ own ∧ i = .int .i64 j ∧ KyAt wr z (k.setN true (beN (l.take j) : Nat)) ∧ Fr (· = z) w wr) (fun i _ => own - (intOf i).toNat)
      case atStart => exact ⟨0, Nat.zero_le _, rfl, HK0.out, Fr.refl _ _⟩
      case round =>
        obtain ⟨j, hj, rfl, hK, hF⟩ := hrel
        have g0 : wr.cell? ⟨q, 0, none⟩ = some (.func (.func 32) #[] #[]) := hF.cell h0 (by show ¬ q = z; omega)
        obtain ⟨v, hv⟩ : ∃ v, beN (l.take j) = v := ⟨_, rfl⟩
        by_cases hlt : j < own
        · have hvb : v < 65536 := by
            have h1 := beN_lt (l.take j)
            rw [hv, List.length_take, Nat.min_eq_left (by rw [HL.out]; omega)] at h1
            have h2 : 256 ^ j ≤ 256 ^ 2 := Nat.pow_le_pow_right (by omega) (by omega)
            omega
          obtain ⟨x, hx⟩ : ∃ x, l.getD j 0 = x := ⟨_, rfl⟩
          have hxi : ∀ W, (Instr.index 9 (st l) (.int .i64 (j : Int))).run Try.prog W = .ok (B x) W := fun W => idx_st l j x (by rw [HL.out]; omega) hx W
          have hv2 : Hid (beN (l.take (j + 1)) = v * 256 + x.toNat) := by
            show beN (l.take (j + 1)) = _
            rw [take_snoc l j (by rw [HL.out]; omega), beN_snoc, hv, hx]
          have hxlt : x.toNat < 256 := x.toNat_lt
          rw [hv] at hK
          obtain ⟨c0, c1, c2, c3, c4, fz⟩ := hK.at
          have fzc := fz 4
          have cc : wr.cell? ⟨z, 4, none⟩ = some (.int .i64 (v : Int)) := c4
          have hor : bits .or .i64 ((v : Int) * 256) (x.toNat : Int) = ((v * 256 + x.toNat : Nat) : Int) := or_be v x.toNat hvb hxlt
          have hKS : Hid (KyAt ((wr.setCell ⟨z, 4, none⟩ (.int .i64 ((v : Int) * 256 + (x.toNat : Int)))).drew) z (k.setN true (beN (l.take (j + 1)) : Nat))) := by
            show KyAt _ _ _
            rw [hv2.out]
            have h5 := (hK.keep (Below.refl _ _).drew).setN true ((v : Int) * 256 + (x.toNat : Int))
            have h6 : ((v * 256 + x.toNat : Nat) : Int) = (v : Int) * 256 + (x.toNat : Int) := by omega
            rw [h6]
            simp only [Ky.setN, if_true, if_false, Bool.false_eq_true] at h5 ⊢
            exact h5
          have hFS : Hid (Fr (· = z) w ((wr.setCell ⟨z, 4, none⟩ (.int .i64 ((v : Int) * 256 + (x.toNat : Int)))).drew)) := (hF.setCell (.inl rfl) _).drew
          clear hK hF c0 c1 c2 c3 c4 fz hv hx hv2
          have mixed : Try.prog.follows .mixedOrders = true := by kernel_rfl
          go_wp2_with fail
          refine wp_region_still_tail 15 mixed (by kernel_rfl) ?_
          simp only [List.take_succ_cons, List.take_zero, List.drop_succ_cons, List.drop_zero]
          repeat still_step
          still_call (at32_st _ z)
          repeat still_step
          still_call (at32_st _ z)
          repeat still_step
          try refine wpStill_nil ?_
          go_wp2
          exact ⟨⟨j + 1, by omega, by go_num, hKS.out, hFS.out⟩, by simp [intOf]; omega⟩
        · obtain rfl : j = own := by omega
          have HE : Hid (KyAt wr z (k.setN true (beN (l.take j) : Nat)) ∧ Fr (· = z) w wr) := ⟨hK, hF⟩
          clear hK hF hv
          go_wp2
          go_ret
          exact ⟨rfl, HE.out⟩
    · obtain rfl : own = size := by omega
      clear hmin
      have hln : ∀ W, (Builtin.len_ #[9] 3 #[st l]).run Try.prog W = .ok (.int .i64 (n : Int)) W := len_st l _ HL.out
      go_enter Try.func39, Try.ntmps39
      go_wp2
      go_loopw [14] (fun i wr => ∃ j : Nat, j ≤ own ∧ i = .int .i64 j ∧ KyAt wr z (k.setN true (beN (l.take j) : Nat)) ∧ Fr (· = z) w wr) (fun i _ => own - (intOf i).toNat)
      case atStart => exact ⟨0, Nat.zero_le _, rfl, HK0.out, Fr.refl _ _⟩
      case round =>
        obtain ⟨j, hj, rfl, hK, hF⟩ := hrel
        have g0 : wr.cell? ⟨q, 0, none⟩ = some (.func (.func 32) #[] #[]) := hF.cell h0 (by show ¬ q = z; omega)
        obtain ⟨v, hv⟩ : ∃ v, beN (l.take j) = v := ⟨_, rfl⟩
        by_cases hlt : j < own
        · have hvb : v < 65536 := by
            have h1 := beN_lt (l.take j)
            rw [hv, List.length_take, Nat.min_eq_left (by rw [HL.out]; omega)] at h1
            have h2 : 256 ^ j ≤ 256 ^ 2 := Nat.pow_le_pow_right (by omega) (by omega)
            omega
          obtain ⟨x, hx⟩ : ∃ x, l.getD j 0 = x := ⟨_, rfl⟩
          have hxi : ∀ W, (Instr.index 9 (st l) (.int .i64 (j : Int))).run Try.prog W = .ok (B x) W := fun W => idx_st l j x (by rw [HL.out]; omega) hx W
          have hv2 : Hid (beN (l.take (j + 1)) = v * 256 + x.toNat) := by
            show beN (l.take (j + 1)) = _
            rw [take_snoc l j (by rw [HL.out]; omega), beN_snoc, hv, hx]
          have hxlt : x.toNat < 256 := x.toNat_lt
          rw [hv] at hK
          obtain ⟨c0, c1, c2, c3, c4, fz⟩ := hK.at
          have fzc := fz 4
          have cc : wr.cell? ⟨z, 4, none⟩ = some (.int .i64 (v : Int)) := c4
          have hor : bits .or .i64 ((v : Int) * 256) (x.toNat : Int) = ((v * 256 + x.toNat : Nat) : Int) := or_be v x.toNat hvb hxlt
          have hKS : Hid (KyAt ((wr.setCell ⟨z, 4, none⟩ (.int .i64 ((v : Int) * 256 + (x.toNat : Int)))).drew) z (k.setN true (beN (l.take (j + 1)) : Nat))) := by
            show KyAt _ _ _
            rw [hv2.out]
            have h5 := (hK.keep (Below.refl _ _).drew).setN true ((v : Int) * 256 + (x.toNat : Int))
            have h6 : ((v * 256 + x.toNat : Nat) : Int) = (v : Int) * 256 + (x.toNat : Int) := by omega
            rw [h6]
            simp only [Ky.setN, if_true, if_false, Bool.false_eq_true] at h5 ⊢
            exact h5
          have hFS : Hid (Fr (· = z) w ((wr.setCell ⟨z, 4, none⟩ (.int .i64 ((v : Int) * 256 + (x.toNat : Int)))).drew)) := (hF.setCell (.inl rfl) _).drew
          clear hK hF c0 c1 c2 c3 c4 fz hv hx hv2
          have mixed : Try.prog.follows .mixedOrders = true := by kernel_rfl
          go_wp2_with fail
          refine wp_region_still_tail 15 mixed (by kernel_rfl) ?_
          simp only [List.take_succ_cons, List.take_zero, List.drop_succ_cons, List.drop_zero]
          repeat still_step
          still_call (at32_st _ z)
          repeat still_step
          still_call (at32_st _ z)
          repeat still_step
          try refine wpStill_nil ?_
          go_wp2
          exact ⟨⟨j + 1, by omega, by go_num, hKS.out, hFS.out⟩, by simp [intOf]; omega⟩
        · obtain rfl : j = own := by omega
          have HE : Hid (KyAt wr z (k.setN true (beN (l.take j) : Nat)) ∧ Fr (· = z) w wr) := ⟨hK, hF⟩
          clear hK hF hv
          go_wp2
          go_ret
          exact ⟨rfl, HE.out⟩
end Go.Proofs.Ytlnghdldecnmgaa
