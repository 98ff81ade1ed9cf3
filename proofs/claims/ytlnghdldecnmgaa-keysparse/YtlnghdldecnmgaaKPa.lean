/- The document's reading, by kind. Conditions: none. -/
import Derived.Test.YtlnghdldecnmgaaKP
import Derived.StillTailTactics
set_option maxRecDepth 8000
set_option linter.unusedSimpArgs false
set_option linter.unusedVariables false
namespace Go.Proofs.Ytlnghdldecnmgaa
open Go.RowKit Go.Bs Go.Kx
set_option maxHeartbeats 1000000 in
theorem rParse_1 (x : UInt8) (l : List UInt8) (w : World) (hl : l.length ≤ 1000) (hkd : ix letters x + 1 = 1) : Calls Try.prog 18 #[st (x :: l)] w fun e w' => RParE (x :: l) e ∧ Below w.heap.size w w' := by
  obtain ⟨g, hg⟩ : ∃ g, w.heap.size = g := ⟨_, rfl⟩
  rw [hg]
  obtain ⟨W0, hW0⟩ : ∃ W0, (w.alloc (.cells (noneK 0).cells 23)).alloc (.cells (noneK 0).cells 23) = W0 := ⟨_, rfl⟩
  have hk0 : KyAt W0 g (noneK 0) := by
    rw [← hW0, ← hg]; exact (KyAt.new w _).keep ((Below.refl _ _).alloc (Nat.le_refl _) _)
  have hk1 : KyAt W0 (g + 1) (noneK 0) := by
    have := KyAt.new (w.alloc (.cells (noneK 0).cells 23)) (noneK 0)
    rw [hW0] at this
    simpa [hg] using this
  have hb0 : Below g w W0 := by rw [← hW0, ← hg]; exact ((Below.refl _ _).alloc (Nat.le_refl _) _).alloc (by simp) _
  have hs0 : W0.heap.size = g + 2 := by rw [← hW0]; simp [hg]
  have HK0 := Lib.hid (And.intro hk0 (And.intro hk1 (And.intro hb0 hs0)))
  have hW0' : (w.alloc (.cells #[.int .i64 0, .string ⟨#[]⟩, .string ⟨#[]⟩, .int .i64 0, .int .i64 0] 23)).alloc (.cells #[.int .i64 0, .string ⟨#[]⟩, .string ⟨#[]⟩, .int .i64 0, .int .i64 0] 23) = W0 := hW0
  have HW0 := Lib.hid hW0'
  have hix : ∀ W, (Instr.index 9 (.string ⟨(x :: l).toArray⟩) (.int .i64 0)).run Try.prog W = .ok (B x) W := idx_st (x :: l) 0 x (by simp) rfl
  have hsl : ∀ W, (Instr.slice 9 (.string ⟨(x :: l).toArray⟩) (some (.int .i64 (1 : Int))) none none).run Try.prog W = .ok (st l) W := slice_from (x :: l) 1 (by simp)
  have hne : (([] : List UInt8) == x :: l) = false := rfl
  have hne2 : ((x :: l) == ([] : List UInt8)) = false := rfl
  have hsz : (⟨(x :: l).toArray⟩ : ByteArray).size = l.length + 1 := by rw [size_list]; simp
  have HPF := Lib.hid (refR_parse x l)
  have HPN := Lib.hid (parse_noletter x l)
  have HKA := Lib.hid (kdTo_all x)
  have HK1Z : Hid (KyAt W0 (g + 1) (noneK (kdTo x 1))) := by
    show KyAt W0 (g + 1) (noneK (kdTo x 1))
    have e : kdTo x 1 = 0 := by unfold kdTo; rw [if_neg (by omega)]
    rw [e]; exact hk1
  show Calls Try.prog 18 #[.string ⟨(x :: l).toArray⟩] w _
  have HKD := Lib.hid hkd
  clear hk0 hk1 hb0 hs0 hW0 hW0' hkd
  go_enter Try.func18, Try.ntmps18
  go_wp2_with fail
  rw [HW0.out]
  go_loopw [5] (fun i wr => ∃ i' : Nat, 1 ≤ i' ∧ i' ≤ 11 ∧ i = .int .i64 i' ∧ KyAt wr (g + 1) (noneK (kdTo x i')) ∧ KyAt wr g (noneK 0) ∧ Below g w wr) (fun i _ => 11 - (intOf i).toNat)
  case atStart => exact ⟨1, Nat.le_refl _, by omega, rfl, HK1Z.out, HK0.out.1, HK0.out.2.2.1⟩
  case round =>
    obtain ⟨i, hi1, hi2, rfl, hk1, hk0, hbl⟩ := hrel
    by_cases hlt : i ≤ 10
    · have hl1 : ∀ W, (Instr.index 9 (.string ⟨#[32, 110, 105, 99, 100, 112, 114, 117, 102, 103, 116]⟩) (.int .i64 (i : Int))).run Try.prog W = .ok (B (letters.getD (i - 1) 0)) W := fun W => by
        have := idx_st [32, 110, 105, 99, 100, 112, 114, 117, 102, 103, 116] i _ (by simp; omega) rfl W
        have e : ([32, 110, 105, 99, 100, 112, 114, 117, 102, 103, 116] : List UInt8).getD i 0 = letters.getD (i - 1) 0 := by
          obtain ⟨j, rfl⟩ : ∃ j, i = j + 1 := ⟨i - 1, by omega⟩
          rfl
        rw [e] at this
        exact this
      have HY := Lib.hid (kdTo_yes x i hi1 hlt)
      have HN := Lib.hid (kdTo_no x i hi1 hlt)
      obtain ⟨y, hy⟩ : ∃ y, letters.getD (i - 1) 0 = y := ⟨_, rfl⟩
      rw [hy] at hl1 HY HN
      obtain ⟨c0, _, _, _, _, fz⟩ := hk1.at
      have fz0 := fz 0
      have HK1 := Lib.hid hk1
      have HB1 : Hid (KyAt wr g (noneK 0) ∧ Below g w wr) := ⟨hk0, hbl⟩
      clear hk1 hk0 hbl hy fz
      by_cases hxy : y = x
      · have hE : ((y.toNat : Int) == (x.toNat : Int)) = true := by rw [hxy]; simp
        have HS : Hid (∀ c, KyAt ((wr.drewN c).setCell ⟨g + 1, 0, none⟩ (.int .i64 (i : Int))) (g + 1) (noneK (kdTo x (i + 1))) ∧ KyAt ((wr.drewN c).setCell ⟨g + 1, 0, none⟩ (.int .i64 (i : Int))) g (noneK 0) ∧ Below g w ((wr.drewN c).setCell ⟨g + 1, 0, none⟩ (.int .i64 (i : Int)))) := fun c => by
          rw [HY.out hxy]
          refine ⟨?_, ?_, (below_drewN HB1.out.2 c).setCell (by show g ≤ g + 1; omega) _⟩
          · have := row_setT (i := 0) (show (wr.drewN c).heap[g + 1]? = _ from HK1.out) (.int .i64 (i : Int))
            simpa [KyAt, Ky.cells, noneK] using this
          · exact (Below.heap_setCell (wr.drewN c) ⟨g + 1, 0, none⟩ _ g (by show g ≠ g + 1; omega)).trans HB1.out.1
        clear HY HN hxy
        go_wp2
        go_quiet (fail)
        go_wp2
        exact ⟨⟨i + 1, by omega, by omega, by go_num, (HS.out _).1, (HS.out _).2.1, (HS.out _).2.2⟩, by simp [intOf]; omega⟩
      · have hE : ((y.toNat : Int) == (x.toNat : Int)) = false := by
          rw [beq_eq_false_iff_ne]
          intro h
          exact hxy (UInt8.toNat_inj.1 (by omega))
        have HS : Hid (∀ c, KyAt (wr.drewN c) (g + 1) (noneK (kdTo x (i + 1))) ∧ KyAt (wr.drewN c) g (noneK 0) ∧ Below g w (wr.drewN c)) := fun c => by
          rw [HN.out hxy]
          exact ⟨HK1.out, HB1.out.1, below_drewN HB1.out.2 c⟩
        clear HY HN hxy
        go_wp2
        go_quiet (fail)
        go_wp2
        exact ⟨⟨i + 1, by omega, by omega, by go_num, (HS.out _).1, (HS.out _).2.1, (HS.out _).2.2⟩, by simp [intOf]; omega⟩
    · obtain rfl : i = 11 := by omega
      rw [HKA.out] at hk1
      have HB1 : Hid (KyAt wr g (noneK 0) ∧ Below g w wr) := ⟨hk0, hbl⟩
      rw [HKD.out] at hk1 HPF
      have HK1 := Lib.hid hk1
      obtain ⟨c0, c1, c2, c3, c4⟩ := hk1.cs
      simp only [noneK] at c0 c1 c2 c3 c4
      obtain ⟨z0, z1, z2, z3, z4⟩ := hk0.cs
      simp only [noneK] at z0 z1 z2 z3 z4
      have fz := hk1.at.2.2.2.2.2
      have fz0 := fz 0
      have fz1 := fz 1
      have fz2 := fz 2
      have fz3 := fz 3
      have fz4 := fz 4
      have gz := hk0.at.2.2.2.2.2
      have gz0 := gz 0
      have gz1 := gz 1
      have gz2 := gz 2
      have gz3 := gz 3
      have gz4 := gz 4
      clear hk1 hk0 hbl fz gz HKA HK1Z HK0
      obtain ⟨n, hn⟩ : ∃ n, l.length = n := ⟨_, rfl⟩
      have HN := Lib.hid hn
      obtain ⟨SL, hSL⟩ : ∃ S, st l = .string S := ⟨_, rfl⟩
      have HSL := Lib.hid hSL
      have hln : ∀ W, (Builtin.len_ #[9] 3 #[.string SL]).run Try.prog W = .ok (.int .i64 (n : Int)) W := by rw [← hSL]; exact len_st l n hn
      rw [hSL] at hsl
      have HZC := Lib.hid (zat_cases l)
      obtain ⟨zt, hzt⟩ : ∃ z, zat l = z := ⟨_, rfl⟩
      have HZT := Lib.hid hzt
      rw [hzt, hn] at HZC
      have hzn : zt ≤ n := by rw [← hzt, ← hn]; exact zat_le l
      have hszl : SL.size = n := by
        unfold st at hSL
        simp only [Value.string.injEq] at hSL
        rw [← hSL, size_list, hn]
      have hn1 : n ≤ 1000 := by omega
      clear hn hSL hzt
      go_wp2
      go_loop [7] (fun i => ∃ j : Nat, j ≤ zt ∧ i = .int .i64 j) (fun i => zt - (intOf i).toNat)
      case atStart => exact ⟨0, Nat.zero_le _, rfl⟩
      case round =>
        obtain ⟨j, hj, rfl⟩ := hrel
        by_cases hjz : j < zt
        · have hjn : j < n := by omega
          obtain ⟨y, hy⟩ : ∃ y, l.getD j 0 = y := ⟨_, rfl⟩
          have hxi : ∀ W, (Instr.index 9 (.string SL) (.int .i64 (j : Int))).run Try.prog W = .ok (B y) W := by rw [← HSL.out]; exact idx_st l j y (by rw [HN.out]; exact hjn) hy
          have hy0 : ((y.toNat : Int) == 0) = false := by
            have hne : y ≠ 0 := by
              rw [← hy]
              rcases HZC.out with ⟨_, h⟩ | ⟨_, _, h⟩
              · exact h j hjn
              · exact h j hjz
            rw [beq_eq_false_iff_ne]
            intro h
            exact hne (UInt8.toNat_inj.1 (by simp; omega))
          clear hy
          go_wp2
          go_round
          case rel => exact ⟨j + 1, by omega, by go_num⟩
          case measure => simp [intOf]; omega
        · obtain rfl : j = zt := by omega
          clear hjz hj
          by_cases hjn : j = n
          · have hjn' : n = j := hjn.symm
            subst hjn'
            have HRF : Hid (refR 1 l = some ⟨1, l, [], 0, 0⟩) := rfl
            have HVV : Hid ((⟨1, l, [], 0, 0⟩ : Ky).val = .agg #[.int .i64 1, .string SL, .string ⟨#[]⟩, .int .i64 0, .int .i64 0]) := by
              show Value.agg #[.int .i64 1, st l, st [], .int .i64 0, .int .i64 0] = _
              rw [HSL.out]; rfl
            have HBDK : Hid (Bd ⟨1, l, [], 0, 0⟩) := ⟨hl, by simp, by simp, by simp⟩
            have H2 : Hid (KyAt (wr.setCell ⟨g + 1, 1, none⟩ (.string SL)) g (noneK 0) ∧ Below g w (wr.setCell ⟨g + 1, 1, none⟩ (.string SL)) ∧ g + 2 ≤ (wr.setCell ⟨g + 1, 1, none⟩ (.string SL)).heap.size ∧ (wr.setCell ⟨g + 1, 1, none⟩ (.string SL)).heap[g + 1]? = some (.cells #[.int .i64 1, .string SL, .string ⟨#[]⟩, .int .i64 0, .int .i64 0] 23 (0, 0))) :=
              ⟨set_far HB1.out.1 _ (by omega), HB1.out.2.setCell (by show g ≤ g + 1; omega) _, by rw [set_size]; exact HK1.out.lt, row_setT (i := 1) HK1.out _⟩
            have hvv : (⟨1, l, [], 0, 0⟩ : Ky).val = .agg #[.int .i64 1, .string SL, .string ⟨#[]⟩, .int .i64 0, .int .i64 0] := HVV.out
            have HM : Hid (∀ W, Calls Try.prog 14 #[.agg #[.int .i64 1, .string SL, .string ⟨#[]⟩, .int .i64 0, .int .i64 0]] W fun e w' => e = .returned (.bool (mayR (⟨1, l, [], 0, 0⟩ : Ky))) ∧ Below W.heap.size W w') := fun W => by
              have := rMay_any (⟨1, l, [], 0, 0⟩ : Ky) W HBDK.out
              rwa [hvv] at this
            have HBY : Hid (∀ s, bytesF (⟨1, l, [], 0, 0⟩ : Ky) = some s → ∀ W, Calls Try.prog 16 #[.agg #[.int .i64 1, .string SL, .string ⟨#[]⟩, .int .i64 0, .int .i64 0]] W fun e w' => e = .returned (st s) ∧ Below W.heap.size W w') := fun s h W => by
              have := rBytes_any (⟨1, l, [], 0, 0⟩ : Ky) s (bytesF_is h) W
              rwa [hvv] at this
            have HPK : Hid (parseF (x :: l) = if bytesF (⟨1, l, [], 0, 0⟩ : Ky) = some (x :: l) then some (⟨1, l, [], 0, 0⟩ : Ky) else none) := by
              have := HPF.out
              rw [HRF.out] at this
              exact this
            obtain ⟨mk, hmk⟩ : ∃ mk, mayR (⟨1, l, [], 0, 0⟩ : Ky) = mk := ⟨_, rfl⟩
            have HMK := Lib.hid hmk
            rw [hmk] at HM
            clear hvv hmk z0 z1 z2 z3 z4 gz0 gz1 gz2 gz3 gz4
            go_wp2_with fail
            refine (HM.out _).mono ?_
            rintro e w3 ⟨rfl, hb3⟩
            have H3 : Hid (KyAt w3 g (noneK 0) ∧ Below g w w3 ∧ g + 2 ≤ w3.heap.size ∧ w3.heap[g + 1]? = some (.cells #[.int .i64 1, .string SL, .string ⟨#[]⟩, .int .i64 0, .int .i64 0] 23 (0, 0))) :=
              ⟨H2.out.1.keep hb3, H2.out.2.1.trans (hb3.mono (by have := H2.out.2.2.1; omega)), Nat.le_trans H2.out.2.2.1 hb3.size, (hb3.block (g + 1) (by have := H2.out.2.2.1; omega)).trans H2.out.2.2.2⟩
            clear hb3 c0 c1 c2 c3 c4
            obtain ⟨c0, c1, c2, c3, c4⟩ := five_cells H3.out.2.2.2
            have hg1 := H3.out.1
            obtain ⟨z0, z1, z2, z3, z4⟩ := hg1.cs
            simp only [noneK] at z0 z1 z2 z3 z4
            have gz := hg1.at.2.2.2.2.2
            have gz0 := gz 0
            have gz1 := gz 1
            have gz2 := gz 2
            have gz3 := gz 3
            have gz4 := gz 4
            clear gz
            clear hg1
            cases mk with
            | false =>
              have HPZ : Hid (parseF (x :: l) = none) := by show parseF (x :: l) = none; rw [HPK.out, if_neg]; intro h; have h1 := HMK.out; rw [mayR_isSome, h] at h1; cases h1
              go_wp2
              have HE : Below g w (((((w3.setCell ⟨g, 0, none⟩ (.int .i64 (noneK 0).kind)).setCell ⟨g, 1, none⟩ (st (noneK 0).a)).setCell ⟨g, 2, none⟩ (st (noneK 0).b)).setCell ⟨g, 3, none⟩ (.int .i64 (noneK 0).n)).setCell ⟨g, 4, none⟩ (.int .i64 (noneK 0).m)) :=
                ((((H3.out.2.1.setCell (Nat.le_refl _) _).setCell (Nat.le_refl _) _).setCell (Nat.le_refl _) _).setCell (Nat.le_refl _) _).setCell (Nat.le_refl _) _
              have HR5 := H3.out.1.set5 (noneK 0)
              simp only [noneK, st] at HE HR5
              refine bodyPost_ret (results_cell2 (P := Try.prog) (fn := Try.f18) rfl _ _ rfl (run_loadVar_row _ g 23 23 _ (0, 0) _ HR5 Try.underlying23 rfl (by kernel_rfl))) rfl ⟨?_, HE⟩
              unfold RParE
              rw [HPZ.out]
              rfl
            | true =>
              obtain ⟨s, hs⟩ : ∃ s, bytesF (⟨1, l, [], 0, 0⟩ : Ky) = some s := by
                have h1 := HMK.out
                rw [mayR_isSome] at h1
                exact Option.isSome_iff_exists.1 h1
              have HB5 := Lib.hid (HBY.out s hs)
              have HSS := Lib.hid hs
              clear hs z0 z1 z2 z3 z4 gz0 gz1 gz2 gz3 gz4
              go_wp2_with fail
              refine (HB5.out _).mono ?_
              rintro e w4 ⟨rfl, hb4⟩
              have H4 : Hid (KyAt w4 g (noneK 0) ∧ Below g w w4 ∧ g + 2 ≤ w4.heap.size ∧ w4.heap[g + 1]? = some (.cells #[.int .i64 1, .string SL, .string ⟨#[]⟩, .int .i64 0, .int .i64 0] 23 (0, 0))) :=
                ⟨H3.out.1.keep hb4, H3.out.2.1.trans (hb4.mono (by have := H3.out.2.2.1; omega)), Nat.le_trans H3.out.2.2.1 hb4.size, (hb4.block (g + 1) (by have := H3.out.2.2.1; omega)).trans H3.out.2.2.2⟩
              clear hb4 c0 c1 c2 c3 c4
              obtain ⟨c0, c1, c2, c3, c4⟩ := five_cells H4.out.2.2.2
              have hg1 := H4.out.1
              obtain ⟨z0, z1, z2, z3, z4⟩ := hg1.cs
              simp only [noneK] at z0 z1 z2 z3 z4
              have gz := hg1.at.2.2.2.2.2
              have gz0 := gz 0
              have gz1 := gz 1
              have gz2 := gz 2
              have gz3 := gz 3
              have gz4 := gz 4
              clear gz
              clear hg1
              unfold st
              by_cases hsx : s = x :: l
              · subst hsx
                have HPS : Hid (parseF (x :: l) = some (⟨1, l, [], 0, 0⟩ : Ky)) := by
                  show parseF (x :: l) = some (⟨1, l, [], 0, 0⟩ : Ky)
                  rw [HPK.out, if_pos HSS.out]
                go_wp2
                have HE : (Below g w (((((w4.setCell ⟨g, 0, none⟩ (.int .i64 1)).setCell ⟨g, 1, none⟩ (.string SL)).setCell ⟨g, 2, none⟩ (.string ⟨#[]⟩)).setCell ⟨g, 3, none⟩ (.int .i64 0)).setCell ⟨g, 4, none⟩ (.int .i64 0))) :=
                  ((((H4.out.2.1.setCell (Nat.le_refl _) _).setCell (Nat.le_refl _) _).setCell (Nat.le_refl _) _).setCell (Nat.le_refl _) _).setCell (Nat.le_refl _) _
                have HR5 : ((((((w4.setCell ⟨g, 0, none⟩ (.int .i64 1)).setCell ⟨g, 1, none⟩ (.string SL)).setCell ⟨g, 2, none⟩ (.string ⟨#[]⟩)).setCell ⟨g, 3, none⟩ (.int .i64 0)).setCell ⟨g, 4, none⟩ (.int .i64 0)).heap[g]? = some (.cells #[.int .i64 1, .string SL, .string ⟨#[]⟩, .int .i64 0, .int .i64 0] 23 (0, 0))) := set5_row H4.out.1 _ _ _ _ _
                refine bodyPost_ret (results_cell2 (P := Try.prog) (fn := Try.f18) rfl _ _ rfl (run_loadVar_row _ g 23 23 _ (0, 0) _ HR5 Try.underlying23 rfl (by kernel_rfl))) rfl ⟨?_, HE⟩
                unfold RParE
                rw [HPS.out]
                show _ = Ending.returned (.tuple #[(⟨1, l, [], 0, 0⟩ : Ky).val, .bool true])
                rw [HVV.out]
                rfl
              · have hne5 : (s == x :: l) = false := by rw [beq_eq_false_iff_ne]; exact hsx
                have HPZ : Hid (parseF (x :: l) = none) := by show parseF (x :: l) = none; rw [HPK.out, if_neg]; intro h; rw [HSS.out] at h; exact hsx (Option.some.inj h)
                go_wp2
                have HE : Below g w (((((w4.setCell ⟨g, 0, none⟩ (.int .i64 (noneK 0).kind)).setCell ⟨g, 1, none⟩ (st (noneK 0).a)).setCell ⟨g, 2, none⟩ (st (noneK 0).b)).setCell ⟨g, 3, none⟩ (.int .i64 (noneK 0).n)).setCell ⟨g, 4, none⟩ (.int .i64 (noneK 0).m)) :=
                  ((((H4.out.2.1.setCell (Nat.le_refl _) _).setCell (Nat.le_refl _) _).setCell (Nat.le_refl _) _).setCell (Nat.le_refl _) _).setCell (Nat.le_refl _) _
                have HR5 := H4.out.1.set5 (noneK 0)
                simp only [noneK, st] at HE HR5
                refine bodyPost_ret (results_cell2 (P := Try.prog) (fn := Try.f18) rfl _ _ rfl (run_loadVar_row _ g 23 23 _ (0, 0) _ HR5 Try.underlying23 rfl (by kernel_rfl))) rfl ⟨?_, HE⟩
                unfold RParE
                rw [HPZ.out]
                rfl
          · have hlt : j < n := by omega
            have hxi : ∀ W, (Instr.index 9 (.string SL) (.int .i64 (j : Int))).run Try.prog W = .ok (B 0) W := by
              rw [← HSL.out]
              refine idx_st l j 0 (by rw [HN.out]; exact hlt) ?_
              rcases HZC.out with ⟨h, _⟩ | ⟨_, h, _⟩
              · exact absurd h hjn
              · exact h
            clear hjn
            have HRF : Hid (refR 1 l = some ⟨1, l, [], 0, 0⟩) := rfl
            have HVV : Hid ((⟨1, l, [], 0, 0⟩ : Ky).val = .agg #[.int .i64 1, .string SL, .string ⟨#[]⟩, .int .i64 0, .int .i64 0]) := by
              show Value.agg #[.int .i64 1, st l, st [], .int .i64 0, .int .i64 0] = _
              rw [HSL.out]; rfl
            have HBDK : Hid (Bd ⟨1, l, [], 0, 0⟩) := ⟨hl, by simp, by simp, by simp⟩
            have H2 : Hid (KyAt (wr.setCell ⟨g + 1, 1, none⟩ (.string SL)) g (noneK 0) ∧ Below g w (wr.setCell ⟨g + 1, 1, none⟩ (.string SL)) ∧ g + 2 ≤ (wr.setCell ⟨g + 1, 1, none⟩ (.string SL)).heap.size ∧ (wr.setCell ⟨g + 1, 1, none⟩ (.string SL)).heap[g + 1]? = some (.cells #[.int .i64 1, .string SL, .string ⟨#[]⟩, .int .i64 0, .int .i64 0] 23 (0, 0))) :=
              ⟨set_far HB1.out.1 _ (by omega), HB1.out.2.setCell (by show g ≤ g + 1; omega) _, by rw [set_size]; exact HK1.out.lt, row_setT (i := 1) HK1.out _⟩
            have hvv : (⟨1, l, [], 0, 0⟩ : Ky).val = .agg #[.int .i64 1, .string SL, .string ⟨#[]⟩, .int .i64 0, .int .i64 0] := HVV.out
            have HM : Hid (∀ W, Calls Try.prog 14 #[.agg #[.int .i64 1, .string SL, .string ⟨#[]⟩, .int .i64 0, .int .i64 0]] W fun e w' => e = .returned (.bool (mayR (⟨1, l, [], 0, 0⟩ : Ky))) ∧ Below W.heap.size W w') := fun W => by
              have := rMay_any (⟨1, l, [], 0, 0⟩ : Ky) W HBDK.out
              rwa [hvv] at this
            have HBY : Hid (∀ s, bytesF (⟨1, l, [], 0, 0⟩ : Ky) = some s → ∀ W, Calls Try.prog 16 #[.agg #[.int .i64 1, .string SL, .string ⟨#[]⟩, .int .i64 0, .int .i64 0]] W fun e w' => e = .returned (st s) ∧ Below W.heap.size W w') := fun s h W => by
              have := rBytes_any (⟨1, l, [], 0, 0⟩ : Ky) s (bytesF_is h) W
              rwa [hvv] at this
            have HPK : Hid (parseF (x :: l) = if bytesF (⟨1, l, [], 0, 0⟩ : Ky) = some (x :: l) then some (⟨1, l, [], 0, 0⟩ : Ky) else none) := by
              have := HPF.out
              rw [HRF.out] at this
              exact this
            obtain ⟨mk, hmk⟩ : ∃ mk, mayR (⟨1, l, [], 0, 0⟩ : Ky) = mk := ⟨_, rfl⟩
            have HMK := Lib.hid hmk
            rw [hmk] at HM
            clear hvv hmk z0 z1 z2 z3 z4 gz0 gz1 gz2 gz3 gz4
            go_wp2_with fail
            refine (HM.out _).mono ?_
            rintro e w3 ⟨rfl, hb3⟩
            have H3 : Hid (KyAt w3 g (noneK 0) ∧ Below g w w3 ∧ g + 2 ≤ w3.heap.size ∧ w3.heap[g + 1]? = some (.cells #[.int .i64 1, .string SL, .string ⟨#[]⟩, .int .i64 0, .int .i64 0] 23 (0, 0))) :=
              ⟨H2.out.1.keep hb3, H2.out.2.1.trans (hb3.mono (by have := H2.out.2.2.1; omega)), Nat.le_trans H2.out.2.2.1 hb3.size, (hb3.block (g + 1) (by have := H2.out.2.2.1; omega)).trans H2.out.2.2.2⟩
            clear hb3 c0 c1 c2 c3 c4
            obtain ⟨c0, c1, c2, c3, c4⟩ := five_cells H3.out.2.2.2
            have hg1 := H3.out.1
            obtain ⟨z0, z1, z2, z3, z4⟩ := hg1.cs
            simp only [noneK] at z0 z1 z2 z3 z4
            have gz := hg1.at.2.2.2.2.2
            have gz0 := gz 0
            have gz1 := gz 1
            have gz2 := gz 2
            have gz3 := gz 3
            have gz4 := gz 4
            clear gz
            clear hg1
            cases mk with
            | false =>
              have HPZ : Hid (parseF (x :: l) = none) := by show parseF (x :: l) = none; rw [HPK.out, if_neg]; intro h; have h1 := HMK.out; rw [mayR_isSome, h] at h1; cases h1
              go_wp2
              have HE : Below g w (((((w3.setCell ⟨g, 0, none⟩ (.int .i64 (noneK 0).kind)).setCell ⟨g, 1, none⟩ (st (noneK 0).a)).setCell ⟨g, 2, none⟩ (st (noneK 0).b)).setCell ⟨g, 3, none⟩ (.int .i64 (noneK 0).n)).setCell ⟨g, 4, none⟩ (.int .i64 (noneK 0).m)) :=
                ((((H3.out.2.1.setCell (Nat.le_refl _) _).setCell (Nat.le_refl _) _).setCell (Nat.le_refl _) _).setCell (Nat.le_refl _) _).setCell (Nat.le_refl _) _
              have HR5 := H3.out.1.set5 (noneK 0)
              simp only [noneK, st] at HE HR5
              refine bodyPost_ret (results_cell2 (P := Try.prog) (fn := Try.f18) rfl _ _ rfl (run_loadVar_row _ g 23 23 _ (0, 0) _ HR5 Try.underlying23 rfl (by kernel_rfl))) rfl ⟨?_, HE⟩
              unfold RParE
              rw [HPZ.out]
              rfl
            | true =>
              obtain ⟨s, hs⟩ : ∃ s, bytesF (⟨1, l, [], 0, 0⟩ : Ky) = some s := by
                have h1 := HMK.out
                rw [mayR_isSome] at h1
                exact Option.isSome_iff_exists.1 h1
              have HB5 := Lib.hid (HBY.out s hs)
              have HSS := Lib.hid hs
              clear hs z0 z1 z2 z3 z4 gz0 gz1 gz2 gz3 gz4
              go_wp2_with fail
              refine (HB5.out _).mono ?_
              rintro e w4 ⟨rfl, hb4⟩
              have H4 : Hid (KyAt w4 g (noneK 0) ∧ Below g w w4 ∧ g + 2 ≤ w4.heap.size ∧ w4.heap[g + 1]? = some (.cells #[.int .i64 1, .string SL, .string ⟨#[]⟩, .int .i64 0, .int .i64 0] 23 (0, 0))) :=
                ⟨H3.out.1.keep hb4, H3.out.2.1.trans (hb4.mono (by have := H3.out.2.2.1; omega)), Nat.le_trans H3.out.2.2.1 hb4.size, (hb4.block (g + 1) (by have := H3.out.2.2.1; omega)).trans H3.out.2.2.2⟩
              clear hb4 c0 c1 c2 c3 c4
              obtain ⟨c0, c1, c2, c3, c4⟩ := five_cells H4.out.2.2.2
              have hg1 := H4.out.1
              obtain ⟨z0, z1, z2, z3, z4⟩ := hg1.cs
              simp only [noneK] at z0 z1 z2 z3 z4
              have gz := hg1.at.2.2.2.2.2
              have gz0 := gz 0
              have gz1 := gz 1
              have gz2 := gz 2
              have gz3 := gz 3
              have gz4 := gz 4
              clear gz
              clear hg1
              unfold st
              by_cases hsx : s = x :: l
              · subst hsx
                have HPS : Hid (parseF (x :: l) = some (⟨1, l, [], 0, 0⟩ : Ky)) := by
                  show parseF (x :: l) = some (⟨1, l, [], 0, 0⟩ : Ky)
                  rw [HPK.out, if_pos HSS.out]
                go_wp2
                have HE : (Below g w (((((w4.setCell ⟨g, 0, none⟩ (.int .i64 1)).setCell ⟨g, 1, none⟩ (.string SL)).setCell ⟨g, 2, none⟩ (.string ⟨#[]⟩)).setCell ⟨g, 3, none⟩ (.int .i64 0)).setCell ⟨g, 4, none⟩ (.int .i64 0))) :=
                  ((((H4.out.2.1.setCell (Nat.le_refl _) _).setCell (Nat.le_refl _) _).setCell (Nat.le_refl _) _).setCell (Nat.le_refl _) _).setCell (Nat.le_refl _) _
                have HR5 : ((((((w4.setCell ⟨g, 0, none⟩ (.int .i64 1)).setCell ⟨g, 1, none⟩ (.string SL)).setCell ⟨g, 2, none⟩ (.string ⟨#[]⟩)).setCell ⟨g, 3, none⟩ (.int .i64 0)).setCell ⟨g, 4, none⟩ (.int .i64 0)).heap[g]? = some (.cells #[.int .i64 1, .string SL, .string ⟨#[]⟩, .int .i64 0, .int .i64 0] 23 (0, 0))) := set5_row H4.out.1 _ _ _ _ _
                refine bodyPost_ret (results_cell2 (P := Try.prog) (fn := Try.f18) rfl _ _ rfl (run_loadVar_row _ g 23 23 _ (0, 0) _ HR5 Try.underlying23 rfl (by kernel_rfl))) rfl ⟨?_, HE⟩
                unfold RParE
                rw [HPS.out]
                show _ = Ending.returned (.tuple #[(⟨1, l, [], 0, 0⟩ : Ky).val, .bool true])
                rw [HVV.out]
                rfl
              · have hne5 : (s == x :: l) = false := by rw [beq_eq_false_iff_ne]; exact hsx
                have HPZ : Hid (parseF (x :: l) = none) := by show parseF (x :: l) = none; rw [HPK.out, if_neg]; intro h; rw [HSS.out] at h; exact hsx (Option.some.inj h)
                go_wp2
                have HE : Below g w (((((w4.setCell ⟨g, 0, none⟩ (.int .i64 (noneK 0).kind)).setCell ⟨g, 1, none⟩ (st (noneK 0).a)).setCell ⟨g, 2, none⟩ (st (noneK 0).b)).setCell ⟨g, 3, none⟩ (.int .i64 (noneK 0).n)).setCell ⟨g, 4, none⟩ (.int .i64 (noneK 0).m)) :=
                  ((((H4.out.2.1.setCell (Nat.le_refl _) _).setCell (Nat.le_refl _) _).setCell (Nat.le_refl _) _).setCell (Nat.le_refl _) _).setCell (Nat.le_refl _) _
                have HR5 := H4.out.1.set5 (noneK 0)
                simp only [noneK, st] at HE HR5
                refine bodyPost_ret (results_cell2 (P := Try.prog) (fn := Try.f18) rfl _ _ rfl (run_loadVar_row _ g 23 23 _ (0, 0) _ HR5 Try.underlying23 rfl (by kernel_rfl))) rfl ⟨?_, HE⟩
                unfold RParE
                rw [HPZ.out]
                rfl
set_option maxHeartbeats 1000000 in
theorem rParse_5 (x : UInt8) (l : List UInt8) (w : World) (hl : l.length ≤ 1000) (hkd : ix letters x + 1 = 5) : Calls Try.prog 18 #[st (x :: l)] w fun e w' => RParE (x :: l) e ∧ Below w.heap.size w w' := by
  obtain ⟨g, hg⟩ : ∃ g, w.heap.size = g := ⟨_, rfl⟩
  rw [hg]
  obtain ⟨W0, hW0⟩ : ∃ W0, (w.alloc (.cells (noneK 0).cells 23)).alloc (.cells (noneK 0).cells 23) = W0 := ⟨_, rfl⟩
  have hk0 : KyAt W0 g (noneK 0) := by
    rw [← hW0, ← hg]; exact (KyAt.new w _).keep ((Below.refl _ _).alloc (Nat.le_refl _) _)
  have hk1 : KyAt W0 (g + 1) (noneK 0) := by
    have := KyAt.new (w.alloc (.cells (noneK 0).cells 23)) (noneK 0)
    rw [hW0] at this
    simpa [hg] using this
  have hb0 : Below g w W0 := by rw [← hW0, ← hg]; exact ((Below.refl _ _).alloc (Nat.le_refl _) _).alloc (by simp) _
  have hs0 : W0.heap.size = g + 2 := by rw [← hW0]; simp [hg]
  have HK0 := Lib.hid (And.intro hk0 (And.intro hk1 (And.intro hb0 hs0)))
  have hW0' : (w.alloc (.cells #[.int .i64 0, .string ⟨#[]⟩, .string ⟨#[]⟩, .int .i64 0, .int .i64 0] 23)).alloc (.cells #[.int .i64 0, .string ⟨#[]⟩, .string ⟨#[]⟩, .int .i64 0, .int .i64 0] 23) = W0 := hW0
  have HW0 := Lib.hid hW0'
  have hix : ∀ W, (Instr.index 9 (.string ⟨(x :: l).toArray⟩) (.int .i64 0)).run Try.prog W = .ok (B x) W := idx_st (x :: l) 0 x (by simp) rfl
  have hsl : ∀ W, (Instr.slice 9 (.string ⟨(x :: l).toArray⟩) (some (.int .i64 (1 : Int))) none none).run Try.prog W = .ok (st l) W := slice_from (x :: l) 1 (by simp)
  have hne : (([] : List UInt8) == x :: l) = false := rfl
  have hne2 : ((x :: l) == ([] : List UInt8)) = false := rfl
  have hsz : (⟨(x :: l).toArray⟩ : ByteArray).size = l.length + 1 := by rw [size_list]; simp
  have HPF := Lib.hid (refR_parse x l)
  have HPN := Lib.hid (parse_noletter x l)
  have HKA := Lib.hid (kdTo_all x)
  have HK1Z : Hid (KyAt W0 (g + 1) (noneK (kdTo x 1))) := by
    show KyAt W0 (g + 1) (noneK (kdTo x 1))
    have e : kdTo x 1 = 0 := by unfold kdTo; rw [if_neg (by omega)]
    rw [e]; exact hk1
  show Calls Try.prog 18 #[.string ⟨(x :: l).toArray⟩] w _
  have HKD := Lib.hid hkd
  clear hk0 hk1 hb0 hs0 hW0 hW0' hkd
  go_enter Try.func18, Try.ntmps18
  go_wp2_with fail
  rw [HW0.out]
  go_loopw [5] (fun i wr => ∃ i' : Nat, 1 ≤ i' ∧ i' ≤ 11 ∧ i = .int .i64 i' ∧ KyAt wr (g + 1) (noneK (kdTo x i')) ∧ KyAt wr g (noneK 0) ∧ Below g w wr) (fun i _ => 11 - (intOf i).toNat)
  case atStart => exact ⟨1, Nat.le_refl _, by omega, rfl, HK1Z.out, HK0.out.1, HK0.out.2.2.1⟩
  case round =>
    obtain ⟨i, hi1, hi2, rfl, hk1, hk0, hbl⟩ := hrel
    by_cases hlt : i ≤ 10
    · have hl1 : ∀ W, (Instr.index 9 (.string ⟨#[32, 110, 105, 99, 100, 112, 114, 117, 102, 103, 116]⟩) (.int .i64 (i : Int))).run Try.prog W = .ok (B (letters.getD (i - 1) 0)) W := fun W => by
        have := idx_st [32, 110, 105, 99, 100, 112, 114, 117, 102, 103, 116] i _ (by simp; omega) rfl W
        have e : ([32, 110, 105, 99, 100, 112, 114, 117, 102, 103, 116] : List UInt8).getD i 0 = letters.getD (i - 1) 0 := by
          obtain ⟨j, rfl⟩ : ∃ j, i = j + 1 := ⟨i - 1, by omega⟩
          rfl
        rw [e] at this
        exact this
      have HY := Lib.hid (kdTo_yes x i hi1 hlt)
      have HN := Lib.hid (kdTo_no x i hi1 hlt)
      obtain ⟨y, hy⟩ : ∃ y, letters.getD (i - 1) 0 = y := ⟨_, rfl⟩
      rw [hy] at hl1 HY HN
      obtain ⟨c0, _, _, _, _, fz⟩ := hk1.at
      have fz0 := fz 0
      have HK1 := Lib.hid hk1
      have HB1 : Hid (KyAt wr g (noneK 0) ∧ Below g w wr) := ⟨hk0, hbl⟩
      clear hk1 hk0 hbl hy fz
      by_cases hxy : y = x
      · have hE : ((y.toNat : Int) == (x.toNat : Int)) = true := by rw [hxy]; simp
        have HS : Hid (∀ c, KyAt ((wr.drewN c).setCell ⟨g + 1, 0, none⟩ (.int .i64 (i : Int))) (g + 1) (noneK (kdTo x (i + 1))) ∧ KyAt ((wr.drewN c).setCell ⟨g + 1, 0, none⟩ (.int .i64 (i : Int))) g (noneK 0) ∧ Below g w ((wr.drewN c).setCell ⟨g + 1, 0, none⟩ (.int .i64 (i : Int)))) := fun c => by
          rw [HY.out hxy]
          refine ⟨?_, ?_, (below_drewN HB1.out.2 c).setCell (by show g ≤ g + 1; omega) _⟩
          · have := row_setT (i := 0) (show (wr.drewN c).heap[g + 1]? = _ from HK1.out) (.int .i64 (i : Int))
            simpa [KyAt, Ky.cells, noneK] using this
          · exact (Below.heap_setCell (wr.drewN c) ⟨g + 1, 0, none⟩ _ g (by show g ≠ g + 1; omega)).trans HB1.out.1
        clear HY HN hxy
        go_wp2
        go_quiet (fail)
        go_wp2
        exact ⟨⟨i + 1, by omega, by omega, by go_num, (HS.out _).1, (HS.out _).2.1, (HS.out _).2.2⟩, by simp [intOf]; omega⟩
      · have hE : ((y.toNat : Int) == (x.toNat : Int)) = false := by
          rw [beq_eq_false_iff_ne]
          intro h
          exact hxy (UInt8.toNat_inj.1 (by omega))
        have HS : Hid (∀ c, KyAt (wr.drewN c) (g + 1) (noneK (kdTo x (i + 1))) ∧ KyAt (wr.drewN c) g (noneK 0) ∧ Below g w (wr.drewN c)) := fun c => by
          rw [HN.out hxy]
          exact ⟨HK1.out, HB1.out.1, below_drewN HB1.out.2 c⟩
        clear HY HN hxy
        go_wp2
        go_quiet (fail)
        go_wp2
        exact ⟨⟨i + 1, by omega, by omega, by go_num, (HS.out _).1, (HS.out _).2.1, (HS.out _).2.2⟩, by simp [intOf]; omega⟩
    · obtain rfl : i = 11 := by omega
      rw [HKA.out] at hk1
      have HB1 : Hid (KyAt wr g (noneK 0) ∧ Below g w wr) := ⟨hk0, hbl⟩
      rw [HKD.out] at hk1 HPF
      have HK1 := Lib.hid hk1
      obtain ⟨c0, c1, c2, c3, c4⟩ := hk1.cs
      simp only [noneK] at c0 c1 c2 c3 c4
      obtain ⟨z0, z1, z2, z3, z4⟩ := hk0.cs
      simp only [noneK] at z0 z1 z2 z3 z4
      have fz := hk1.at.2.2.2.2.2
      have fz0 := fz 0
      have fz1 := fz 1
      have fz2 := fz 2
      have fz3 := fz 3
      have fz4 := fz 4
      have gz := hk0.at.2.2.2.2.2
      have gz0 := gz 0
      have gz1 := gz 1
      have gz2 := gz 2
      have gz3 := gz 3
      have gz4 := gz 4
      clear hk1 hk0 hbl fz gz HKA HK1Z HK0
      obtain ⟨n, hn⟩ : ∃ n, l.length = n := ⟨_, rfl⟩
      have HN := Lib.hid hn
      obtain ⟨SL, hSL⟩ : ∃ S, st l = .string S := ⟨_, rfl⟩
      have HSL := Lib.hid hSL
      have hln : ∀ W, (Builtin.len_ #[9] 3 #[.string SL]).run Try.prog W = .ok (.int .i64 (n : Int)) W := by rw [← hSL]; exact len_st l n hn
      rw [hSL] at hsl
      have HZC := Lib.hid (zat_cases l)
      obtain ⟨zt, hzt⟩ : ∃ z, zat l = z := ⟨_, rfl⟩
      have HZT := Lib.hid hzt
      rw [hzt, hn] at HZC
      have hzn : zt ≤ n := by rw [← hzt, ← hn]; exact zat_le l
      have hszl : SL.size = n := by
        unfold st at hSL
        simp only [Value.string.injEq] at hSL
        rw [← hSL, size_list, hn]
      have hn1 : n ≤ 1000 := by omega
      clear hn hSL hzt
      go_wp2
      go_loop [7] (fun i => ∃ j : Nat, j ≤ zt ∧ i = .int .i64 j) (fun i => zt - (intOf i).toNat)
      case atStart => exact ⟨0, Nat.zero_le _, rfl⟩
      case round =>
        obtain ⟨j, hj, rfl⟩ := hrel
        by_cases hjz : j < zt
        · have hjn : j < n := by omega
          obtain ⟨y, hy⟩ : ∃ y, l.getD j 0 = y := ⟨_, rfl⟩
          have hxi : ∀ W, (Instr.index 9 (.string SL) (.int .i64 (j : Int))).run Try.prog W = .ok (B y) W := by rw [← HSL.out]; exact idx_st l j y (by rw [HN.out]; exact hjn) hy
          have hy0 : ((y.toNat : Int) == 0) = false := by
            have hne : y ≠ 0 := by
              rw [← hy]
              rcases HZC.out with ⟨_, h⟩ | ⟨_, _, h⟩
              · exact h j hjn
              · exact h j hjz
            rw [beq_eq_false_iff_ne]
            intro h
            exact hne (UInt8.toNat_inj.1 (by simp; omega))
          clear hy
          go_wp2
          go_round
          case rel => exact ⟨j + 1, by omega, by go_num⟩
          case measure => simp [intOf]; omega
        · obtain rfl : j = zt := by omega
          clear hjz hj
          by_cases hjn : j = n
          · have hjn' : n = j := hjn.symm
            subst hjn'
            have HRF : Hid (refR 5 l = some ⟨5, l, [], 0, 0⟩) := rfl
            have HVV : Hid ((⟨5, l, [], 0, 0⟩ : Ky).val = .agg #[.int .i64 5, .string SL, .string ⟨#[]⟩, .int .i64 0, .int .i64 0]) := by
              show Value.agg #[.int .i64 5, st l, st [], .int .i64 0, .int .i64 0] = _
              rw [HSL.out]; rfl
            have HBDK : Hid (Bd ⟨5, l, [], 0, 0⟩) := ⟨hl, by simp, by simp, by simp⟩
            have H2 : Hid (KyAt (wr.setCell ⟨g + 1, 1, none⟩ (.string SL)) g (noneK 0) ∧ Below g w (wr.setCell ⟨g + 1, 1, none⟩ (.string SL)) ∧ g + 2 ≤ (wr.setCell ⟨g + 1, 1, none⟩ (.string SL)).heap.size ∧ (wr.setCell ⟨g + 1, 1, none⟩ (.string SL)).heap[g + 1]? = some (.cells #[.int .i64 5, .string SL, .string ⟨#[]⟩, .int .i64 0, .int .i64 0] 23 (0, 0))) :=
              ⟨set_far HB1.out.1 _ (by omega), HB1.out.2.setCell (by show g ≤ g + 1; omega) _, by rw [set_size]; exact HK1.out.lt, row_setT (i := 1) HK1.out _⟩
            have hvv : (⟨5, l, [], 0, 0⟩ : Ky).val = .agg #[.int .i64 5, .string SL, .string ⟨#[]⟩, .int .i64 0, .int .i64 0] := HVV.out
            have HM : Hid (∀ W, Calls Try.prog 14 #[.agg #[.int .i64 5, .string SL, .string ⟨#[]⟩, .int .i64 0, .int .i64 0]] W fun e w' => e = .returned (.bool (mayR (⟨5, l, [], 0, 0⟩ : Ky))) ∧ Below W.heap.size W w') := fun W => by
              have := rMay_any (⟨5, l, [], 0, 0⟩ : Ky) W HBDK.out
              rwa [hvv] at this
            have HBY : Hid (∀ s, bytesF (⟨5, l, [], 0, 0⟩ : Ky) = some s → ∀ W, Calls Try.prog 16 #[.agg #[.int .i64 5, .string SL, .string ⟨#[]⟩, .int .i64 0, .int .i64 0]] W fun e w' => e = .returned (st s) ∧ Below W.heap.size W w') := fun s h W => by
              have := rBytes_any (⟨5, l, [], 0, 0⟩ : Ky) s (bytesF_is h) W
              rwa [hvv] at this
            have HPK : Hid (parseF (x :: l) = if bytesF (⟨5, l, [], 0, 0⟩ : Ky) = some (x :: l) then some (⟨5, l, [], 0, 0⟩ : Ky) else none) := by
              have := HPF.out
              rw [HRF.out] at this
              exact this
            obtain ⟨mk, hmk⟩ : ∃ mk, mayR (⟨5, l, [], 0, 0⟩ : Ky) = mk := ⟨_, rfl⟩
            have HMK := Lib.hid hmk
            rw [hmk] at HM
            clear hvv hmk z0 z1 z2 z3 z4 gz0 gz1 gz2 gz3 gz4
            go_wp2_with fail
            refine (HM.out _).mono ?_
            rintro e w3 ⟨rfl, hb3⟩
            have H3 : Hid (KyAt w3 g (noneK 0) ∧ Below g w w3 ∧ g + 2 ≤ w3.heap.size ∧ w3.heap[g + 1]? = some (.cells #[.int .i64 5, .string SL, .string ⟨#[]⟩, .int .i64 0, .int .i64 0] 23 (0, 0))) :=
              ⟨H2.out.1.keep hb3, H2.out.2.1.trans (hb3.mono (by have := H2.out.2.2.1; omega)), Nat.le_trans H2.out.2.2.1 hb3.size, (hb3.block (g + 1) (by have := H2.out.2.2.1; omega)).trans H2.out.2.2.2⟩
            clear hb3 c0 c1 c2 c3 c4
            obtain ⟨c0, c1, c2, c3, c4⟩ := five_cells H3.out.2.2.2
            have hg1 := H3.out.1
            obtain ⟨z0, z1, z2, z3, z4⟩ := hg1.cs
            simp only [noneK] at z0 z1 z2 z3 z4
            have gz := hg1.at.2.2.2.2.2
            have gz0 := gz 0
            have gz1 := gz 1
            have gz2 := gz 2
            have gz3 := gz 3
            have gz4 := gz 4
            clear gz
            clear hg1
            cases mk with
            | false =>
              have HPZ : Hid (parseF (x :: l) = none) := by show parseF (x :: l) = none; rw [HPK.out, if_neg]; intro h; have h1 := HMK.out; rw [mayR_isSome, h] at h1; cases h1
              go_wp2
              have HE : Below g w (((((w3.setCell ⟨g, 0, none⟩ (.int .i64 (noneK 0).kind)).setCell ⟨g, 1, none⟩ (st (noneK 0).a)).setCell ⟨g, 2, none⟩ (st (noneK 0).b)).setCell ⟨g, 3, none⟩ (.int .i64 (noneK 0).n)).setCell ⟨g, 4, none⟩ (.int .i64 (noneK 0).m)) :=
                ((((H3.out.2.1.setCell (Nat.le_refl _) _).setCell (Nat.le_refl _) _).setCell (Nat.le_refl _) _).setCell (Nat.le_refl _) _).setCell (Nat.le_refl _) _
              have HR5 := H3.out.1.set5 (noneK 0)
              simp only [noneK, st] at HE HR5
              refine bodyPost_ret (results_cell2 (P := Try.prog) (fn := Try.f18) rfl _ _ rfl (run_loadVar_row _ g 23 23 _ (0, 0) _ HR5 Try.underlying23 rfl (by kernel_rfl))) rfl ⟨?_, HE⟩
              unfold RParE
              rw [HPZ.out]
              rfl
            | true =>
              obtain ⟨s, hs⟩ : ∃ s, bytesF (⟨5, l, [], 0, 0⟩ : Ky) = some s := by
                have h1 := HMK.out
                rw [mayR_isSome] at h1
                exact Option.isSome_iff_exists.1 h1
              have HB5 := Lib.hid (HBY.out s hs)
              have HSS := Lib.hid hs
              clear hs z0 z1 z2 z3 z4 gz0 gz1 gz2 gz3 gz4
              go_wp2_with fail
              refine (HB5.out _).mono ?_
              rintro e w4 ⟨rfl, hb4⟩
              have H4 : Hid (KyAt w4 g (noneK 0) ∧ Below g w w4 ∧ g + 2 ≤ w4.heap.size ∧ w4.heap[g + 1]? = some (.cells #[.int .i64 5, .string SL, .string ⟨#[]⟩, .int .i64 0, .int .i64 0] 23 (0, 0))) :=
                ⟨H3.out.1.keep hb4, H3.out.2.1.trans (hb4.mono (by have := H3.out.2.2.1; omega)), Nat.le_trans H3.out.2.2.1 hb4.size, (hb4.block (g + 1) (by have := H3.out.2.2.1; omega)).trans H3.out.2.2.2⟩
              clear hb4 c0 c1 c2 c3 c4
              obtain ⟨c0, c1, c2, c3, c4⟩ := five_cells H4.out.2.2.2
              have hg1 := H4.out.1
              obtain ⟨z0, z1, z2, z3, z4⟩ := hg1.cs
              simp only [noneK] at z0 z1 z2 z3 z4
              have gz := hg1.at.2.2.2.2.2
              have gz0 := gz 0
              have gz1 := gz 1
              have gz2 := gz 2
              have gz3 := gz 3
              have gz4 := gz 4
              clear gz
              clear hg1
              unfold st
              by_cases hsx : s = x :: l
              · subst hsx
                have HPS : Hid (parseF (x :: l) = some (⟨5, l, [], 0, 0⟩ : Ky)) := by
                  show parseF (x :: l) = some (⟨5, l, [], 0, 0⟩ : Ky)
                  rw [HPK.out, if_pos HSS.out]
                go_wp2
                have HE : (Below g w (((((w4.setCell ⟨g, 0, none⟩ (.int .i64 5)).setCell ⟨g, 1, none⟩ (.string SL)).setCell ⟨g, 2, none⟩ (.string ⟨#[]⟩)).setCell ⟨g, 3, none⟩ (.int .i64 0)).setCell ⟨g, 4, none⟩ (.int .i64 0))) :=
                  ((((H4.out.2.1.setCell (Nat.le_refl _) _).setCell (Nat.le_refl _) _).setCell (Nat.le_refl _) _).setCell (Nat.le_refl _) _).setCell (Nat.le_refl _) _
                have HR5 : ((((((w4.setCell ⟨g, 0, none⟩ (.int .i64 5)).setCell ⟨g, 1, none⟩ (.string SL)).setCell ⟨g, 2, none⟩ (.string ⟨#[]⟩)).setCell ⟨g, 3, none⟩ (.int .i64 0)).setCell ⟨g, 4, none⟩ (.int .i64 0)).heap[g]? = some (.cells #[.int .i64 5, .string SL, .string ⟨#[]⟩, .int .i64 0, .int .i64 0] 23 (0, 0))) := set5_row H4.out.1 _ _ _ _ _
                refine bodyPost_ret (results_cell2 (P := Try.prog) (fn := Try.f18) rfl _ _ rfl (run_loadVar_row _ g 23 23 _ (0, 0) _ HR5 Try.underlying23 rfl (by kernel_rfl))) rfl ⟨?_, HE⟩
                unfold RParE
                rw [HPS.out]
                show _ = Ending.returned (.tuple #[(⟨5, l, [], 0, 0⟩ : Ky).val, .bool true])
                rw [HVV.out]
                rfl
              · have hne5 : (s == x :: l) = false := by rw [beq_eq_false_iff_ne]; exact hsx
                have HPZ : Hid (parseF (x :: l) = none) := by show parseF (x :: l) = none; rw [HPK.out, if_neg]; intro h; rw [HSS.out] at h; exact hsx (Option.some.inj h)
                go_wp2
                have HE : Below g w (((((w4.setCell ⟨g, 0, none⟩ (.int .i64 (noneK 0).kind)).setCell ⟨g, 1, none⟩ (st (noneK 0).a)).setCell ⟨g, 2, none⟩ (st (noneK 0).b)).setCell ⟨g, 3, none⟩ (.int .i64 (noneK 0).n)).setCell ⟨g, 4, none⟩ (.int .i64 (noneK 0).m)) :=
                  ((((H4.out.2.1.setCell (Nat.le_refl _) _).setCell (Nat.le_refl _) _).setCell (Nat.le_refl _) _).setCell (Nat.le_refl _) _).setCell (Nat.le_refl _) _
                have HR5 := H4.out.1.set5 (noneK 0)
                simp only [noneK, st] at HE HR5
                refine bodyPost_ret (results_cell2 (P := Try.prog) (fn := Try.f18) rfl _ _ rfl (run_loadVar_row _ g 23 23 _ (0, 0) _ HR5 Try.underlying23 rfl (by kernel_rfl))) rfl ⟨?_, HE⟩
                unfold RParE
                rw [HPZ.out]
                rfl
          · have hlt : j < n := by omega
            have hxi : ∀ W, (Instr.index 9 (.string SL) (.int .i64 (j : Int))).run Try.prog W = .ok (B 0) W := by
              rw [← HSL.out]
              refine idx_st l j 0 (by rw [HN.out]; exact hlt) ?_
              rcases HZC.out with ⟨h, _⟩ | ⟨_, h, _⟩
              · exact absurd h hjn
              · exact h
            clear hjn
            have HRF : Hid (refR 5 l = some ⟨5, l, [], 0, 0⟩) := rfl
            have HVV : Hid ((⟨5, l, [], 0, 0⟩ : Ky).val = .agg #[.int .i64 5, .string SL, .string ⟨#[]⟩, .int .i64 0, .int .i64 0]) := by
              show Value.agg #[.int .i64 5, st l, st [], .int .i64 0, .int .i64 0] = _
              rw [HSL.out]; rfl
            have HBDK : Hid (Bd ⟨5, l, [], 0, 0⟩) := ⟨hl, by simp, by simp, by simp⟩
            have H2 : Hid (KyAt (wr.setCell ⟨g + 1, 1, none⟩ (.string SL)) g (noneK 0) ∧ Below g w (wr.setCell ⟨g + 1, 1, none⟩ (.string SL)) ∧ g + 2 ≤ (wr.setCell ⟨g + 1, 1, none⟩ (.string SL)).heap.size ∧ (wr.setCell ⟨g + 1, 1, none⟩ (.string SL)).heap[g + 1]? = some (.cells #[.int .i64 5, .string SL, .string ⟨#[]⟩, .int .i64 0, .int .i64 0] 23 (0, 0))) :=
              ⟨set_far HB1.out.1 _ (by omega), HB1.out.2.setCell (by show g ≤ g + 1; omega) _, by rw [set_size]; exact HK1.out.lt, row_setT (i := 1) HK1.out _⟩
            have hvv : (⟨5, l, [], 0, 0⟩ : Ky).val = .agg #[.int .i64 5, .string SL, .string ⟨#[]⟩, .int .i64 0, .int .i64 0] := HVV.out
            have HM : Hid (∀ W, Calls Try.prog 14 #[.agg #[.int .i64 5, .string SL, .string ⟨#[]⟩, .int .i64 0, .int .i64 0]] W fun e w' => e = .returned (.bool (mayR (⟨5, l, [], 0, 0⟩ : Ky))) ∧ Below W.heap.size W w') := fun W => by
              have := rMay_any (⟨5, l, [], 0, 0⟩ : Ky) W HBDK.out
              rwa [hvv] at this
            have HBY : Hid (∀ s, bytesF (⟨5, l, [], 0, 0⟩ : Ky) = some s → ∀ W, Calls Try.prog 16 #[.agg #[.int .i64 5, .string SL, .string ⟨#[]⟩, .int .i64 0, .int .i64 0]] W fun e w' => e = .returned (st s) ∧ Below W.heap.size W w') := fun s h W => by
              have := rBytes_any (⟨5, l, [], 0, 0⟩ : Ky) s (bytesF_is h) W
              rwa [hvv] at this
            have HPK : Hid (parseF (x :: l) = if bytesF (⟨5, l, [], 0, 0⟩ : Ky) = some (x :: l) then some (⟨5, l, [], 0, 0⟩ : Ky) else none) := by
              have := HPF.out
              rw [HRF.out] at this
              exact this
            obtain ⟨mk, hmk⟩ : ∃ mk, mayR (⟨5, l, [], 0, 0⟩ : Ky) = mk := ⟨_, rfl⟩
            have HMK := Lib.hid hmk
            rw [hmk] at HM
            clear hvv hmk z0 z1 z2 z3 z4 gz0 gz1 gz2 gz3 gz4
            go_wp2_with fail
            refine (HM.out _).mono ?_
            rintro e w3 ⟨rfl, hb3⟩
            have H3 : Hid (KyAt w3 g (noneK 0) ∧ Below g w w3 ∧ g + 2 ≤ w3.heap.size ∧ w3.heap[g + 1]? = some (.cells #[.int .i64 5, .string SL, .string ⟨#[]⟩, .int .i64 0, .int .i64 0] 23 (0, 0))) :=
              ⟨H2.out.1.keep hb3, H2.out.2.1.trans (hb3.mono (by have := H2.out.2.2.1; omega)), Nat.le_trans H2.out.2.2.1 hb3.size, (hb3.block (g + 1) (by have := H2.out.2.2.1; omega)).trans H2.out.2.2.2⟩
            clear hb3 c0 c1 c2 c3 c4
            obtain ⟨c0, c1, c2, c3, c4⟩ := five_cells H3.out.2.2.2
            have hg1 := H3.out.1
            obtain ⟨z0, z1, z2, z3, z4⟩ := hg1.cs
            simp only [noneK] at z0 z1 z2 z3 z4
            have gz := hg1.at.2.2.2.2.2
            have gz0 := gz 0
            have gz1 := gz 1
            have gz2 := gz 2
            have gz3 := gz 3
            have gz4 := gz 4
            clear gz
            clear hg1
            cases mk with
            | false =>
              have HPZ : Hid (parseF (x :: l) = none) := by show parseF (x :: l) = none; rw [HPK.out, if_neg]; intro h; have h1 := HMK.out; rw [mayR_isSome, h] at h1; cases h1
              go_wp2
              have HE : Below g w (((((w3.setCell ⟨g, 0, none⟩ (.int .i64 (noneK 0).kind)).setCell ⟨g, 1, none⟩ (st (noneK 0).a)).setCell ⟨g, 2, none⟩ (st (noneK 0).b)).setCell ⟨g, 3, none⟩ (.int .i64 (noneK 0).n)).setCell ⟨g, 4, none⟩ (.int .i64 (noneK 0).m)) :=
                ((((H3.out.2.1.setCell (Nat.le_refl _) _).setCell (Nat.le_refl _) _).setCell (Nat.le_refl _) _).setCell (Nat.le_refl _) _).setCell (Nat.le_refl _) _
              have HR5 := H3.out.1.set5 (noneK 0)
              simp only [noneK, st] at HE HR5
              refine bodyPost_ret (results_cell2 (P := Try.prog) (fn := Try.f18) rfl _ _ rfl (run_loadVar_row _ g 23 23 _ (0, 0) _ HR5 Try.underlying23 rfl (by kernel_rfl))) rfl ⟨?_, HE⟩
              unfold RParE
              rw [HPZ.out]
              rfl
            | true =>
              obtain ⟨s, hs⟩ : ∃ s, bytesF (⟨5, l, [], 0, 0⟩ : Ky) = some s := by
                have h1 := HMK.out
                rw [mayR_isSome] at h1
                exact Option.isSome_iff_exists.1 h1
              have HB5 := Lib.hid (HBY.out s hs)
              have HSS := Lib.hid hs
              clear hs z0 z1 z2 z3 z4 gz0 gz1 gz2 gz3 gz4
              go_wp2_with fail
              refine (HB5.out _).mono ?_
              rintro e w4 ⟨rfl, hb4⟩
              have H4 : Hid (KyAt w4 g (noneK 0) ∧ Below g w w4 ∧ g + 2 ≤ w4.heap.size ∧ w4.heap[g + 1]? = some (.cells #[.int .i64 5, .string SL, .string ⟨#[]⟩, .int .i64 0, .int .i64 0] 23 (0, 0))) :=
                ⟨H3.out.1.keep hb4, H3.out.2.1.trans (hb4.mono (by have := H3.out.2.2.1; omega)), Nat.le_trans H3.out.2.2.1 hb4.size, (hb4.block (g + 1) (by have := H3.out.2.2.1; omega)).trans H3.out.2.2.2⟩
              clear hb4 c0 c1 c2 c3 c4
              obtain ⟨c0, c1, c2, c3, c4⟩ := five_cells H4.out.2.2.2
              have hg1 := H4.out.1
              obtain ⟨z0, z1, z2, z3, z4⟩ := hg1.cs
              simp only [noneK] at z0 z1 z2 z3 z4
              have gz := hg1.at.2.2.2.2.2
              have gz0 := gz 0
              have gz1 := gz 1
              have gz2 := gz 2
              have gz3 := gz 3
              have gz4 := gz 4
              clear gz
              clear hg1
              unfold st
              by_cases hsx : s = x :: l
              · subst hsx
                have HPS : Hid (parseF (x :: l) = some (⟨5, l, [], 0, 0⟩ : Ky)) := by
                  show parseF (x :: l) = some (⟨5, l, [], 0, 0⟩ : Ky)
                  rw [HPK.out, if_pos HSS.out]
                go_wp2
                have HE : (Below g w (((((w4.setCell ⟨g, 0, none⟩ (.int .i64 5)).setCell ⟨g, 1, none⟩ (.string SL)).setCell ⟨g, 2, none⟩ (.string ⟨#[]⟩)).setCell ⟨g, 3, none⟩ (.int .i64 0)).setCell ⟨g, 4, none⟩ (.int .i64 0))) :=
                  ((((H4.out.2.1.setCell (Nat.le_refl _) _).setCell (Nat.le_refl _) _).setCell (Nat.le_refl _) _).setCell (Nat.le_refl _) _).setCell (Nat.le_refl _) _
                have HR5 : ((((((w4.setCell ⟨g, 0, none⟩ (.int .i64 5)).setCell ⟨g, 1, none⟩ (.string SL)).setCell ⟨g, 2, none⟩ (.string ⟨#[]⟩)).setCell ⟨g, 3, none⟩ (.int .i64 0)).setCell ⟨g, 4, none⟩ (.int .i64 0)).heap[g]? = some (.cells #[.int .i64 5, .string SL, .string ⟨#[]⟩, .int .i64 0, .int .i64 0] 23 (0, 0))) := set5_row H4.out.1 _ _ _ _ _
                refine bodyPost_ret (results_cell2 (P := Try.prog) (fn := Try.f18) rfl _ _ rfl (run_loadVar_row _ g 23 23 _ (0, 0) _ HR5 Try.underlying23 rfl (by kernel_rfl))) rfl ⟨?_, HE⟩
                unfold RParE
                rw [HPS.out]
                show _ = Ending.returned (.tuple #[(⟨5, l, [], 0, 0⟩ : Ky).val, .bool true])
                rw [HVV.out]
                rfl
              · have hne5 : (s == x :: l) = false := by rw [beq_eq_false_iff_ne]; exact hsx
                have HPZ : Hid (parseF (x :: l) = none) := by show parseF (x :: l) = none; rw [HPK.out, if_neg]; intro h; rw [HSS.out] at h; exact hsx (Option.some.inj h)
                go_wp2
                have HE : Below g w (((((w4.setCell ⟨g, 0, none⟩ (.int .i64 (noneK 0).kind)).setCell ⟨g, 1, none⟩ (st (noneK 0).a)).setCell ⟨g, 2, none⟩ (st (noneK 0).b)).setCell ⟨g, 3, none⟩ (.int .i64 (noneK 0).n)).setCell ⟨g, 4, none⟩ (.int .i64 (noneK 0).m)) :=
                  ((((H4.out.2.1.setCell (Nat.le_refl _) _).setCell (Nat.le_refl _) _).setCell (Nat.le_refl _) _).setCell (Nat.le_refl _) _).setCell (Nat.le_refl _) _
                have HR5 := H4.out.1.set5 (noneK 0)
                simp only [noneK, st] at HE HR5
                refine bodyPost_ret (results_cell2 (P := Try.prog) (fn := Try.f18) rfl _ _ rfl (run_loadVar_row _ g 23 23 _ (0, 0) _ HR5 Try.underlying23 rfl (by kernel_rfl))) rfl ⟨?_, HE⟩
                unfold RParE
                rw [HPZ.out]
                rfl
set_option maxHeartbeats 1000000 in
theorem rParse_8 (x : UInt8) (l : List UInt8) (w : World) (hl : l.length ≤ 1000) (hkd : ix letters x + 1 = 8) : Calls Try.prog 18 #[st (x :: l)] w fun e w' => RParE (x :: l) e ∧ Below w.heap.size w w' := by
  obtain ⟨g, hg⟩ : ∃ g, w.heap.size = g := ⟨_, rfl⟩
  rw [hg]
  obtain ⟨W0, hW0⟩ : ∃ W0, (w.alloc (.cells (noneK 0).cells 23)).alloc (.cells (noneK 0).cells 23) = W0 := ⟨_, rfl⟩
  have hk0 : KyAt W0 g (noneK 0) := by
    rw [← hW0, ← hg]; exact (KyAt.new w _).keep ((Below.refl _ _).alloc (Nat.le_refl _) _)
  have hk1 : KyAt W0 (g + 1) (noneK 0) := by
    have := KyAt.new (w.alloc (.cells (noneK 0).cells 23)) (noneK 0)
    rw [hW0] at this
    simpa [hg] using this
  have hb0 : Below g w W0 := by rw [← hW0, ← hg]; exact ((Below.refl _ _).alloc (Nat.le_refl _) _).alloc (by simp) _
  have hs0 : W0.heap.size = g + 2 := by rw [← hW0]; simp [hg]
  have HK0 := Lib.hid (And.intro hk0 (And.intro hk1 (And.intro hb0 hs0)))
  have hW0' : (w.alloc (.cells #[.int .i64 0, .string ⟨#[]⟩, .string ⟨#[]⟩, .int .i64 0, .int .i64 0] 23)).alloc (.cells #[.int .i64 0, .string ⟨#[]⟩, .string ⟨#[]⟩, .int .i64 0, .int .i64 0] 23) = W0 := hW0
  have HW0 := Lib.hid hW0'
  have hix : ∀ W, (Instr.index 9 (.string ⟨(x :: l).toArray⟩) (.int .i64 0)).run Try.prog W = .ok (B x) W := idx_st (x :: l) 0 x (by simp) rfl
  have hsl : ∀ W, (Instr.slice 9 (.string ⟨(x :: l).toArray⟩) (some (.int .i64 (1 : Int))) none none).run Try.prog W = .ok (st l) W := slice_from (x :: l) 1 (by simp)
  have hne : (([] : List UInt8) == x :: l) = false := rfl
  have hne2 : ((x :: l) == ([] : List UInt8)) = false := rfl
  have hsz : (⟨(x :: l).toArray⟩ : ByteArray).size = l.length + 1 := by rw [size_list]; simp
  have HPF := Lib.hid (refR_parse x l)
  have HPN := Lib.hid (parse_noletter x l)
  have HKA := Lib.hid (kdTo_all x)
  have HK1Z : Hid (KyAt W0 (g + 1) (noneK (kdTo x 1))) := by
    show KyAt W0 (g + 1) (noneK (kdTo x 1))
    have e : kdTo x 1 = 0 := by unfold kdTo; rw [if_neg (by omega)]
    rw [e]; exact hk1
  show Calls Try.prog 18 #[.string ⟨(x :: l).toArray⟩] w _
  have HKD := Lib.hid hkd
  clear hk0 hk1 hb0 hs0 hW0 hW0' hkd
  go_enter Try.func18, Try.ntmps18
  go_wp2_with fail
  rw [HW0.out]
  go_loopw [5] (fun i wr => ∃ i' : Nat, 1 ≤ i' ∧ i' ≤ 11 ∧ i = .int .i64 i' ∧ KyAt wr (g + 1) (noneK (kdTo x i')) ∧ KyAt wr g (noneK 0) ∧ Below g w wr) (fun i _ => 11 - (intOf i).toNat)
  case atStart => exact ⟨1, Nat.le_refl _, by omega, rfl, HK1Z.out, HK0.out.1, HK0.out.2.2.1⟩
  case round =>
    obtain ⟨i, hi1, hi2, rfl, hk1, hk0, hbl⟩ := hrel
    by_cases hlt : i ≤ 10
    · have hl1 : ∀ W, (Instr.index 9 (.string ⟨#[32, 110, 105, 99, 100, 112, 114, 117, 102, 103, 116]⟩) (.int .i64 (i : Int))).run Try.prog W = .ok (B (letters.getD (i - 1) 0)) W := fun W => by
        have := idx_st [32, 110, 105, 99, 100, 112, 114, 117, 102, 103, 116] i _ (by simp; omega) rfl W
        have e : ([32, 110, 105, 99, 100, 112, 114, 117, 102, 103, 116] : List UInt8).getD i 0 = letters.getD (i - 1) 0 := by
          obtain ⟨j, rfl⟩ : ∃ j, i = j + 1 := ⟨i - 1, by omega⟩
          rfl
        rw [e] at this
        exact this
      have HY := Lib.hid (kdTo_yes x i hi1 hlt)
      have HN := Lib.hid (kdTo_no x i hi1 hlt)
      obtain ⟨y, hy⟩ : ∃ y, letters.getD (i - 1) 0 = y := ⟨_, rfl⟩
      rw [hy] at hl1 HY HN
      obtain ⟨c0, _, _, _, _, fz⟩ := hk1.at
      have fz0 := fz 0
      have HK1 := Lib.hid hk1
      have HB1 : Hid (KyAt wr g (noneK 0) ∧ Below g w wr) := ⟨hk0, hbl⟩
      clear hk1 hk0 hbl hy fz
      by_cases hxy : y = x
      · have hE : ((y.toNat : Int) == (x.toNat : Int)) = true := by rw [hxy]; simp
        have HS : Hid (∀ c, KyAt ((wr.drewN c).setCell ⟨g + 1, 0, none⟩ (.int .i64 (i : Int))) (g + 1) (noneK (kdTo x (i + 1))) ∧ KyAt ((wr.drewN c).setCell ⟨g + 1, 0, none⟩ (.int .i64 (i : Int))) g (noneK 0) ∧ Below g w ((wr.drewN c).setCell ⟨g + 1, 0, none⟩ (.int .i64 (i : Int)))) := fun c => by
          rw [HY.out hxy]
          refine ⟨?_, ?_, (below_drewN HB1.out.2 c).setCell (by show g ≤ g + 1; omega) _⟩
          · have := row_setT (i := 0) (show (wr.drewN c).heap[g + 1]? = _ from HK1.out) (.int .i64 (i : Int))
            simpa [KyAt, Ky.cells, noneK] using this
          · exact (Below.heap_setCell (wr.drewN c) ⟨g + 1, 0, none⟩ _ g (by show g ≠ g + 1; omega)).trans HB1.out.1
        clear HY HN hxy
        go_wp2
        go_quiet (fail)
        go_wp2
        exact ⟨⟨i + 1, by omega, by omega, by go_num, (HS.out _).1, (HS.out _).2.1, (HS.out _).2.2⟩, by simp [intOf]; omega⟩
      · have hE : ((y.toNat : Int) == (x.toNat : Int)) = false := by
          rw [beq_eq_false_iff_ne]
          intro h
          exact hxy (UInt8.toNat_inj.1 (by omega))
        have HS : Hid (∀ c, KyAt (wr.drewN c) (g + 1) (noneK (kdTo x (i + 1))) ∧ KyAt (wr.drewN c) g (noneK 0) ∧ Below g w (wr.drewN c)) := fun c => by
          rw [HN.out hxy]
          exact ⟨HK1.out, HB1.out.1, below_drewN HB1.out.2 c⟩
        clear HY HN hxy
        go_wp2
        go_quiet (fail)
        go_wp2
        exact ⟨⟨i + 1, by omega, by omega, by go_num, (HS.out _).1, (HS.out _).2.1, (HS.out _).2.2⟩, by simp [intOf]; omega⟩
    · obtain rfl : i = 11 := by omega
      rw [HKA.out] at hk1
      have HB1 : Hid (KyAt wr g (noneK 0) ∧ Below g w wr) := ⟨hk0, hbl⟩
      rw [HKD.out] at hk1 HPF
      have HK1 := Lib.hid hk1
      obtain ⟨c0, c1, c2, c3, c4⟩ := hk1.cs
      simp only [noneK] at c0 c1 c2 c3 c4
      obtain ⟨z0, z1, z2, z3, z4⟩ := hk0.cs
      simp only [noneK] at z0 z1 z2 z3 z4
      have fz := hk1.at.2.2.2.2.2
      have fz0 := fz 0
      have fz1 := fz 1
      have fz2 := fz 2
      have fz3 := fz 3
      have fz4 := fz 4
      have gz := hk0.at.2.2.2.2.2
      have gz0 := gz 0
      have gz1 := gz 1
      have gz2 := gz 2
      have gz3 := gz 3
      have gz4 := gz 4
      clear hk1 hk0 hbl fz gz HKA HK1Z HK0
      obtain ⟨n, hn⟩ : ∃ n, l.length = n := ⟨_, rfl⟩
      have HN := Lib.hid hn
      obtain ⟨SL, hSL⟩ : ∃ S, st l = .string S := ⟨_, rfl⟩
      have HSL := Lib.hid hSL
      have hln : ∀ W, (Builtin.len_ #[9] 3 #[.string SL]).run Try.prog W = .ok (.int .i64 (n : Int)) W := by rw [← hSL]; exact len_st l n hn
      rw [hSL] at hsl
      have HZC := Lib.hid (zat_cases l)
      obtain ⟨zt, hzt⟩ : ∃ z, zat l = z := ⟨_, rfl⟩
      have HZT := Lib.hid hzt
      rw [hzt, hn] at HZC
      have hzn : zt ≤ n := by rw [← hzt, ← hn]; exact zat_le l
      have hszl : SL.size = n := by
        unfold st at hSL
        simp only [Value.string.injEq] at hSL
        rw [← hSL, size_list, hn]
      have hn1 : n ≤ 1000 := by omega
      clear hn hSL hzt
      go_wp2
      go_loop [7] (fun i => ∃ j : Nat, j ≤ zt ∧ i = .int .i64 j) (fun i => zt - (intOf i).toNat)
      case atStart => exact ⟨0, Nat.zero_le _, rfl⟩
      case round =>
        obtain ⟨j, hj, rfl⟩ := hrel
        by_cases hjz : j < zt
        · have hjn : j < n := by omega
          obtain ⟨y, hy⟩ : ∃ y, l.getD j 0 = y := ⟨_, rfl⟩
          have hxi : ∀ W, (Instr.index 9 (.string SL) (.int .i64 (j : Int))).run Try.prog W = .ok (B y) W := by rw [← HSL.out]; exact idx_st l j y (by rw [HN.out]; exact hjn) hy
          have hy0 : ((y.toNat : Int) == 0) = false := by
            have hne : y ≠ 0 := by
              rw [← hy]
              rcases HZC.out with ⟨_, h⟩ | ⟨_, _, h⟩
              · exact h j hjn
              · exact h j hjz
            rw [beq_eq_false_iff_ne]
            intro h
            exact hne (UInt8.toNat_inj.1 (by simp; omega))
          clear hy
          go_wp2
          go_round
          case rel => exact ⟨j + 1, by omega, by go_num⟩
          case measure => simp [intOf]; omega
        · obtain rfl : j = zt := by omega
          clear hjz hj
          by_cases hjn : j = n
          · have hjn' : n = j := hjn.symm
            subst hjn'
            have HRF : Hid (refR 8 l = some ⟨8, l, [], 0, 0⟩) := rfl
            have HVV : Hid ((⟨8, l, [], 0, 0⟩ : Ky).val = .agg #[.int .i64 8, .string SL, .string ⟨#[]⟩, .int .i64 0, .int .i64 0]) := by
              show Value.agg #[.int .i64 8, st l, st [], .int .i64 0, .int .i64 0] = _
              rw [HSL.out]; rfl
            have HBDK : Hid (Bd ⟨8, l, [], 0, 0⟩) := ⟨hl, by simp, by simp, by simp⟩
            have H2 : Hid (KyAt (wr.setCell ⟨g + 1, 1, none⟩ (.string SL)) g (noneK 0) ∧ Below g w (wr.setCell ⟨g + 1, 1, none⟩ (.string SL)) ∧ g + 2 ≤ (wr.setCell ⟨g + 1, 1, none⟩ (.string SL)).heap.size ∧ (wr.setCell ⟨g + 1, 1, none⟩ (.string SL)).heap[g + 1]? = some (.cells #[.int .i64 8, .string SL, .string ⟨#[]⟩, .int .i64 0, .int .i64 0] 23 (0, 0))) :=
              ⟨set_far HB1.out.1 _ (by omega), HB1.out.2.setCell (by show g ≤ g + 1; omega) _, by rw [set_size]; exact HK1.out.lt, row_setT (i := 1) HK1.out _⟩
            have hvv : (⟨8, l, [], 0, 0⟩ : Ky).val = .agg #[.int .i64 8, .string SL, .string ⟨#[]⟩, .int .i64 0, .int .i64 0] := HVV.out
            have HM : Hid (∀ W, Calls Try.prog 14 #[.agg #[.int .i64 8, .string SL, .string ⟨#[]⟩, .int .i64 0, .int .i64 0]] W fun e w' => e = .returned (.bool (mayR (⟨8, l, [], 0, 0⟩ : Ky))) ∧ Below W.heap.size W w') := fun W => by
              have := rMay_any (⟨8, l, [], 0, 0⟩ : Ky) W HBDK.out
              rwa [hvv] at this
            have HBY : Hid (∀ s, bytesF (⟨8, l, [], 0, 0⟩ : Ky) = some s → ∀ W, Calls Try.prog 16 #[.agg #[.int .i64 8, .string SL, .string ⟨#[]⟩, .int .i64 0, .int .i64 0]] W fun e w' => e = .returned (st s) ∧ Below W.heap.size W w') := fun s h W => by
              have := rBytes_any (⟨8, l, [], 0, 0⟩ : Ky) s (bytesF_is h) W
              rwa [hvv] at this
            have HPK : Hid (parseF (x :: l) = if bytesF (⟨8, l, [], 0, 0⟩ : Ky) = some (x :: l) then some (⟨8, l, [], 0, 0⟩ : Ky) else none) := by
              have := HPF.out
              rw [HRF.out] at this
              exact this
            obtain ⟨mk, hmk⟩ : ∃ mk, mayR (⟨8, l, [], 0, 0⟩ : Ky) = mk := ⟨_, rfl⟩
            have HMK := Lib.hid hmk
            rw [hmk] at HM
            clear hvv hmk z0 z1 z2 z3 z4 gz0 gz1 gz2 gz3 gz4
            go_wp2_with fail
            refine (HM.out _).mono ?_
            rintro e w3 ⟨rfl, hb3⟩
            have H3 : Hid (KyAt w3 g (noneK 0) ∧ Below g w w3 ∧ g + 2 ≤ w3.heap.size ∧ w3.heap[g + 1]? = some (.cells #[.int .i64 8, .string SL, .string ⟨#[]⟩, .int .i64 0, .int .i64 0] 23 (0, 0))) :=
              ⟨H2.out.1.keep hb3, H2.out.2.1.trans (hb3.mono (by have := H2.out.2.2.1; omega)), Nat.le_trans H2.out.2.2.1 hb3.size, (hb3.block (g + 1) (by have := H2.out.2.2.1; omega)).trans H2.out.2.2.2⟩
            clear hb3 c0 c1 c2 c3 c4
            obtain ⟨c0, c1, c2, c3, c4⟩ := five_cells H3.out.2.2.2
            have hg1 := H3.out.1
            obtain ⟨z0, z1, z2, z3, z4⟩ := hg1.cs
            simp only [noneK] at z0 z1 z2 z3 z4
            have gz := hg1.at.2.2.2.2.2
            have gz0 := gz 0
            have gz1 := gz 1
            have gz2 := gz 2
            have gz3 := gz 3
            have gz4 := gz 4
            clear gz
            clear hg1
            cases mk with
            | false =>
              have HPZ : Hid (parseF (x :: l) = none) := by show parseF (x :: l) = none; rw [HPK.out, if_neg]; intro h; have h1 := HMK.out; rw [mayR_isSome, h] at h1; cases h1
              go_wp2
              have HE : Below g w (((((w3.setCell ⟨g, 0, none⟩ (.int .i64 (noneK 0).kind)).setCell ⟨g, 1, none⟩ (st (noneK 0).a)).setCell ⟨g, 2, none⟩ (st (noneK 0).b)).setCell ⟨g, 3, none⟩ (.int .i64 (noneK 0).n)).setCell ⟨g, 4, none⟩ (.int .i64 (noneK 0).m)) :=
                ((((H3.out.2.1.setCell (Nat.le_refl _) _).setCell (Nat.le_refl _) _).setCell (Nat.le_refl _) _).setCell (Nat.le_refl _) _).setCell (Nat.le_refl _) _
              have HR5 := H3.out.1.set5 (noneK 0)
              simp only [noneK, st] at HE HR5
              refine bodyPost_ret (results_cell2 (P := Try.prog) (fn := Try.f18) rfl _ _ rfl (run_loadVar_row _ g 23 23 _ (0, 0) _ HR5 Try.underlying23 rfl (by kernel_rfl))) rfl ⟨?_, HE⟩
              unfold RParE
              rw [HPZ.out]
              rfl
            | true =>
              obtain ⟨s, hs⟩ : ∃ s, bytesF (⟨8, l, [], 0, 0⟩ : Ky) = some s := by
                have h1 := HMK.out
                rw [mayR_isSome] at h1
                exact Option.isSome_iff_exists.1 h1
              have HB5 := Lib.hid (HBY.out s hs)
              have HSS := Lib.hid hs
              clear hs z0 z1 z2 z3 z4 gz0 gz1 gz2 gz3 gz4
              go_wp2_with fail
              refine (HB5.out _).mono ?_
              rintro e w4 ⟨rfl, hb4⟩
              have H4 : Hid (KyAt w4 g (noneK 0) ∧ Below g w w4 ∧ g + 2 ≤ w4.heap.size ∧ w4.heap[g + 1]? = some (.cells #[.int .i64 8, .string SL, .string ⟨#[]⟩, .int .i64 0, .int .i64 0] 23 (0, 0))) :=
                ⟨H3.out.1.keep hb4, H3.out.2.1.trans (hb4.mono (by have := H3.out.2.2.1; omega)), Nat.le_trans H3.out.2.2.1 hb4.size, (hb4.block (g + 1) (by have := H3.out.2.2.1; omega)).trans H3.out.2.2.2⟩
              clear hb4 c0 c1 c2 c3 c4
              obtain ⟨c0, c1, c2, c3, c4⟩ := five_cells H4.out.2.2.2
              have hg1 := H4.out.1
              obtain ⟨z0, z1, z2, z3, z4⟩ := hg1.cs
              simp only [noneK] at z0 z1 z2 z3 z4
              have gz := hg1.at.2.2.2.2.2
              have gz0 := gz 0
              have gz1 := gz 1
              have gz2 := gz 2
              have gz3 := gz 3
              have gz4 := gz 4
              clear gz
              clear hg1
              unfold st
              by_cases hsx : s = x :: l
              · subst hsx
                have HPS : Hid (parseF (x :: l) = some (⟨8, l, [], 0, 0⟩ : Ky)) := by
                  show parseF (x :: l) = some (⟨8, l, [], 0, 0⟩ : Ky)
                  rw [HPK.out, if_pos HSS.out]
                go_wp2
                have HE : (Below g w (((((w4.setCell ⟨g, 0, none⟩ (.int .i64 8)).setCell ⟨g, 1, none⟩ (.string SL)).setCell ⟨g, 2, none⟩ (.string ⟨#[]⟩)).setCell ⟨g, 3, none⟩ (.int .i64 0)).setCell ⟨g, 4, none⟩ (.int .i64 0))) :=
                  ((((H4.out.2.1.setCell (Nat.le_refl _) _).setCell (Nat.le_refl _) _).setCell (Nat.le_refl _) _).setCell (Nat.le_refl _) _).setCell (Nat.le_refl _) _
                have HR5 : ((((((w4.setCell ⟨g, 0, none⟩ (.int .i64 8)).setCell ⟨g, 1, none⟩ (.string SL)).setCell ⟨g, 2, none⟩ (.string ⟨#[]⟩)).setCell ⟨g, 3, none⟩ (.int .i64 0)).setCell ⟨g, 4, none⟩ (.int .i64 0)).heap[g]? = some (.cells #[.int .i64 8, .string SL, .string ⟨#[]⟩, .int .i64 0, .int .i64 0] 23 (0, 0))) := set5_row H4.out.1 _ _ _ _ _
                refine bodyPost_ret (results_cell2 (P := Try.prog) (fn := Try.f18) rfl _ _ rfl (run_loadVar_row _ g 23 23 _ (0, 0) _ HR5 Try.underlying23 rfl (by kernel_rfl))) rfl ⟨?_, HE⟩
                unfold RParE
                rw [HPS.out]
                show _ = Ending.returned (.tuple #[(⟨8, l, [], 0, 0⟩ : Ky).val, .bool true])
                rw [HVV.out]
                rfl
              · have hne5 : (s == x :: l) = false := by rw [beq_eq_false_iff_ne]; exact hsx
                have HPZ : Hid (parseF (x :: l) = none) := by show parseF (x :: l) = none; rw [HPK.out, if_neg]; intro h; rw [HSS.out] at h; exact hsx (Option.some.inj h)
                go_wp2
                have HE : Below g w (((((w4.setCell ⟨g, 0, none⟩ (.int .i64 (noneK 0).kind)).setCell ⟨g, 1, none⟩ (st (noneK 0).a)).setCell ⟨g, 2, none⟩ (st (noneK 0).b)).setCell ⟨g, 3, none⟩ (.int .i64 (noneK 0).n)).setCell ⟨g, 4, none⟩ (.int .i64 (noneK 0).m)) :=
                  ((((H4.out.2.1.setCell (Nat.le_refl _) _).setCell (Nat.le_refl _) _).setCell (Nat.le_refl _) _).setCell (Nat.le_refl _) _).setCell (Nat.le_refl _) _
                have HR5 := H4.out.1.set5 (noneK 0)
                simp only [noneK, st] at HE HR5
                refine bodyPost_ret (results_cell2 (P := Try.prog) (fn := Try.f18) rfl _ _ rfl (run_loadVar_row _ g 23 23 _ (0, 0) _ HR5 Try.underlying23 rfl (by kernel_rfl))) rfl ⟨?_, HE⟩
                unfold RParE
                rw [HPZ.out]
                rfl
          · have hlt : j < n := by omega
            have hxi : ∀ W, (Instr.index 9 (.string SL) (.int .i64 (j : Int))).run Try.prog W = .ok (B 0) W := by
              rw [← HSL.out]
              refine idx_st l j 0 (by rw [HN.out]; exact hlt) ?_
              rcases HZC.out with ⟨h, _⟩ | ⟨_, h, _⟩
              · exact absurd h hjn
              · exact h
            clear hjn
            have HRF : Hid (refR 8 l = some ⟨8, l, [], 0, 0⟩) := rfl
            have HVV : Hid ((⟨8, l, [], 0, 0⟩ : Ky).val = .agg #[.int .i64 8, .string SL, .string ⟨#[]⟩, .int .i64 0, .int .i64 0]) := by
              show Value.agg #[.int .i64 8, st l, st [], .int .i64 0, .int .i64 0] = _
              rw [HSL.out]; rfl
            have HBDK : Hid (Bd ⟨8, l, [], 0, 0⟩) := ⟨hl, by simp, by simp, by simp⟩
            have H2 : Hid (KyAt (wr.setCell ⟨g + 1, 1, none⟩ (.string SL)) g (noneK 0) ∧ Below g w (wr.setCell ⟨g + 1, 1, none⟩ (.string SL)) ∧ g + 2 ≤ (wr.setCell ⟨g + 1, 1, none⟩ (.string SL)).heap.size ∧ (wr.setCell ⟨g + 1, 1, none⟩ (.string SL)).heap[g + 1]? = some (.cells #[.int .i64 8, .string SL, .string ⟨#[]⟩, .int .i64 0, .int .i64 0] 23 (0, 0))) :=
              ⟨set_far HB1.out.1 _ (by omega), HB1.out.2.setCell (by show g ≤ g + 1; omega) _, by rw [set_size]; exact HK1.out.lt, row_setT (i := 1) HK1.out _⟩
            have hvv : (⟨8, l, [], 0, 0⟩ : Ky).val = .agg #[.int .i64 8, .string SL, .string ⟨#[]⟩, .int .i64 0, .int .i64 0] := HVV.out
            have HM : Hid (∀ W, Calls Try.prog 14 #[.agg #[.int .i64 8, .string SL, .string ⟨#[]⟩, .int .i64 0, .int .i64 0]] W fun e w' => e = .returned (.bool (mayR (⟨8, l, [], 0, 0⟩ : Ky))) ∧ Below W.heap.size W w') := fun W => by
              have := rMay_any (⟨8, l, [], 0, 0⟩ : Ky) W HBDK.out
              rwa [hvv] at this
            have HBY : Hid (∀ s, bytesF (⟨8, l, [], 0, 0⟩ : Ky) = some s → ∀ W, Calls Try.prog 16 #[.agg #[.int .i64 8, .string SL, .string ⟨#[]⟩, .int .i64 0, .int .i64 0]] W fun e w' => e = .returned (st s) ∧ Below W.heap.size W w') := fun s h W => by
              have := rBytes_any (⟨8, l, [], 0, 0⟩ : Ky) s (bytesF_is h) W
              rwa [hvv] at this
            have HPK : Hid (parseF (x :: l) = if bytesF (⟨8, l, [], 0, 0⟩ : Ky) = some (x :: l) then some (⟨8, l, [], 0, 0⟩ : Ky) else none) := by
              have := HPF.out
              rw [HRF.out] at this
              exact this
            obtain ⟨mk, hmk⟩ : ∃ mk, mayR (⟨8, l, [], 0, 0⟩ : Ky) = mk := ⟨_, rfl⟩
            have HMK := Lib.hid hmk
            rw [hmk] at HM
            clear hvv hmk z0 z1 z2 z3 z4 gz0 gz1 gz2 gz3 gz4
            go_wp2_with fail
            refine (HM.out _).mono ?_
            rintro e w3 ⟨rfl, hb3⟩
            have H3 : Hid (KyAt w3 g (noneK 0) ∧ Below g w w3 ∧ g + 2 ≤ w3.heap.size ∧ w3.heap[g + 1]? = some (.cells #[.int .i64 8, .string SL, .string ⟨#[]⟩, .int .i64 0, .int .i64 0] 23 (0, 0))) :=
              ⟨H2.out.1.keep hb3, H2.out.2.1.trans (hb3.mono (by have := H2.out.2.2.1; omega)), Nat.le_trans H2.out.2.2.1 hb3.size, (hb3.block (g + 1) (by have := H2.out.2.2.1; omega)).trans H2.out.2.2.2⟩
            clear hb3 c0 c1 c2 c3 c4
            obtain ⟨c0, c1, c2, c3, c4⟩ := five_cells H3.out.2.2.2
            have hg1 := H3.out.1
            obtain ⟨z0, z1, z2, z3, z4⟩ := hg1.cs
            simp only [noneK] at z0 z1 z2 z3 z4
            have gz := hg1.at.2.2.2.2.2
            have gz0 := gz 0
            have gz1 := gz 1
            have gz2 := gz 2
            have gz3 := gz 3
            have gz4 := gz 4
            clear gz
            clear hg1
            cases mk with
            | false =>
              have HPZ : Hid (parseF (x :: l) = none) := by show parseF (x :: l) = none; rw [HPK.out, if_neg]; intro h; have h1 := HMK.out; rw [mayR_isSome, h] at h1; cases h1
              go_wp2
              have HE : Below g w (((((w3.setCell ⟨g, 0, none⟩ (.int .i64 (noneK 0).kind)).setCell ⟨g, 1, none⟩ (st (noneK 0).a)).setCell ⟨g, 2, none⟩ (st (noneK 0).b)).setCell ⟨g, 3, none⟩ (.int .i64 (noneK 0).n)).setCell ⟨g, 4, none⟩ (.int .i64 (noneK 0).m)) :=
                ((((H3.out.2.1.setCell (Nat.le_refl _) _).setCell (Nat.le_refl _) _).setCell (Nat.le_refl _) _).setCell (Nat.le_refl _) _).setCell (Nat.le_refl _) _
              have HR5 := H3.out.1.set5 (noneK 0)
              simp only [noneK, st] at HE HR5
              refine bodyPost_ret (results_cell2 (P := Try.prog) (fn := Try.f18) rfl _ _ rfl (run_loadVar_row _ g 23 23 _ (0, 0) _ HR5 Try.underlying23 rfl (by kernel_rfl))) rfl ⟨?_, HE⟩
              unfold RParE
              rw [HPZ.out]
              rfl
            | true =>
              obtain ⟨s, hs⟩ : ∃ s, bytesF (⟨8, l, [], 0, 0⟩ : Ky) = some s := by
                have h1 := HMK.out
                rw [mayR_isSome] at h1
                exact Option.isSome_iff_exists.1 h1
              have HB5 := Lib.hid (HBY.out s hs)
              have HSS := Lib.hid hs
              clear hs z0 z1 z2 z3 z4 gz0 gz1 gz2 gz3 gz4
              go_wp2_with fail
              refine (HB5.out _).mono ?_
              rintro e w4 ⟨rfl, hb4⟩
              have H4 : Hid (KyAt w4 g (noneK 0) ∧ Below g w w4 ∧ g + 2 ≤ w4.heap.size ∧ w4.heap[g + 1]? = some (.cells #[.int .i64 8, .string SL, .string ⟨#[]⟩, .int .i64 0, .int .i64 0] 23 (0, 0))) :=
                ⟨H3.out.1.keep hb4, H3.out.2.1.trans (hb4.mono (by have := H3.out.2.2.1; omega)), Nat.le_trans H3.out.2.2.1 hb4.size, (hb4.block (g + 1) (by have := H3.out.2.2.1; omega)).trans H3.out.2.2.2⟩
              clear hb4 c0 c1 c2 c3 c4
              obtain ⟨c0, c1, c2, c3, c4⟩ := five_cells H4.out.2.2.2
              have hg1 := H4.out.1
              obtain ⟨z0, z1, z2, z3, z4⟩ := hg1.cs
              simp only [noneK] at z0 z1 z2 z3 z4
              have gz := hg1.at.2.2.2.2.2
              have gz0 := gz 0
              have gz1 := gz 1
              have gz2 := gz 2
              have gz3 := gz 3
              have gz4 := gz 4
              clear gz
              clear hg1
              unfold st
              by_cases hsx : s = x :: l
              · subst hsx
                have HPS : Hid (parseF (x :: l) = some (⟨8, l, [], 0, 0⟩ : Ky)) := by
                  show parseF (x :: l) = some (⟨8, l, [], 0, 0⟩ : Ky)
                  rw [HPK.out, if_pos HSS.out]
                go_wp2
                have HE : (Below g w (((((w4.setCell ⟨g, 0, none⟩ (.int .i64 8)).setCell ⟨g, 1, none⟩ (.string SL)).setCell ⟨g, 2, none⟩ (.string ⟨#[]⟩)).setCell ⟨g, 3, none⟩ (.int .i64 0)).setCell ⟨g, 4, none⟩ (.int .i64 0))) :=
                  ((((H4.out.2.1.setCell (Nat.le_refl _) _).setCell (Nat.le_refl _) _).setCell (Nat.le_refl _) _).setCell (Nat.le_refl _) _).setCell (Nat.le_refl _) _
                have HR5 : ((((((w4.setCell ⟨g, 0, none⟩ (.int .i64 8)).setCell ⟨g, 1, none⟩ (.string SL)).setCell ⟨g, 2, none⟩ (.string ⟨#[]⟩)).setCell ⟨g, 3, none⟩ (.int .i64 0)).setCell ⟨g, 4, none⟩ (.int .i64 0)).heap[g]? = some (.cells #[.int .i64 8, .string SL, .string ⟨#[]⟩, .int .i64 0, .int .i64 0] 23 (0, 0))) := set5_row H4.out.1 _ _ _ _ _
                refine bodyPost_ret (results_cell2 (P := Try.prog) (fn := Try.f18) rfl _ _ rfl (run_loadVar_row _ g 23 23 _ (0, 0) _ HR5 Try.underlying23 rfl (by kernel_rfl))) rfl ⟨?_, HE⟩
                unfold RParE
                rw [HPS.out]
                show _ = Ending.returned (.tuple #[(⟨8, l, [], 0, 0⟩ : Ky).val, .bool true])
                rw [HVV.out]
                rfl
              · have hne5 : (s == x :: l) = false := by rw [beq_eq_false_iff_ne]; exact hsx
                have HPZ : Hid (parseF (x :: l) = none) := by show parseF (x :: l) = none; rw [HPK.out, if_neg]; intro h; rw [HSS.out] at h; exact hsx (Option.some.inj h)
                go_wp2
                have HE : Below g w (((((w4.setCell ⟨g, 0, none⟩ (.int .i64 (noneK 0).kind)).setCell ⟨g, 1, none⟩ (st (noneK 0).a)).setCell ⟨g, 2, none⟩ (st (noneK 0).b)).setCell ⟨g, 3, none⟩ (.int .i64 (noneK 0).n)).setCell ⟨g, 4, none⟩ (.int .i64 (noneK 0).m)) :=
                  ((((H4.out.2.1.setCell (Nat.le_refl _) _).setCell (Nat.le_refl _) _).setCell (Nat.le_refl _) _).setCell (Nat.le_refl _) _).setCell (Nat.le_refl _) _
                have HR5 := H4.out.1.set5 (noneK 0)
                simp only [noneK, st] at HE HR5
                refine bodyPost_ret (results_cell2 (P := Try.prog) (fn := Try.f18) rfl _ _ rfl (run_loadVar_row _ g 23 23 _ (0, 0) _ HR5 Try.underlying23 rfl (by kernel_rfl))) rfl ⟨?_, HE⟩
                unfold RParE
                rw [HPZ.out]
                rfl
set_option maxHeartbeats 1000000 in
theorem rParse_10 (x : UInt8) (l : List UInt8) (w : World) (hl : l.length ≤ 1000) (hkd : ix letters x + 1 = 10) : Calls Try.prog 18 #[st (x :: l)] w fun e w' => RParE (x :: l) e ∧ Below w.heap.size w w' := by
  obtain ⟨g, hg⟩ : ∃ g, w.heap.size = g := ⟨_, rfl⟩
  rw [hg]
  obtain ⟨W0, hW0⟩ : ∃ W0, (w.alloc (.cells (noneK 0).cells 23)).alloc (.cells (noneK 0).cells 23) = W0 := ⟨_, rfl⟩
  have hk0 : KyAt W0 g (noneK 0) := by
    rw [← hW0, ← hg]; exact (KyAt.new w _).keep ((Below.refl _ _).alloc (Nat.le_refl _) _)
  have hk1 : KyAt W0 (g + 1) (noneK 0) := by
    have := KyAt.new (w.alloc (.cells (noneK 0).cells 23)) (noneK 0)
    rw [hW0] at this
    simpa [hg] using this
  have hb0 : Below g w W0 := by rw [← hW0, ← hg]; exact ((Below.refl _ _).alloc (Nat.le_refl _) _).alloc (by simp) _
  have hs0 : W0.heap.size = g + 2 := by rw [← hW0]; simp [hg]
  have HK0 := Lib.hid (And.intro hk0 (And.intro hk1 (And.intro hb0 hs0)))
  have hW0' : (w.alloc (.cells #[.int .i64 0, .string ⟨#[]⟩, .string ⟨#[]⟩, .int .i64 0, .int .i64 0] 23)).alloc (.cells #[.int .i64 0, .string ⟨#[]⟩, .string ⟨#[]⟩, .int .i64 0, .int .i64 0] 23) = W0 := hW0
  have HW0 := Lib.hid hW0'
  have hix : ∀ W, (Instr.index 9 (.string ⟨(x :: l).toArray⟩) (.int .i64 0)).run Try.prog W = .ok (B x) W := idx_st (x :: l) 0 x (by simp) rfl
  have hsl : ∀ W, (Instr.slice 9 (.string ⟨(x :: l).toArray⟩) (some (.int .i64 (1 : Int))) none none).run Try.prog W = .ok (st l) W := slice_from (x :: l) 1 (by simp)
  have hne : (([] : List UInt8) == x :: l) = false := rfl
  have hne2 : ((x :: l) == ([] : List UInt8)) = false := rfl
  have hsz : (⟨(x :: l).toArray⟩ : ByteArray).size = l.length + 1 := by rw [size_list]; simp
  have HPF := Lib.hid (refR_parse x l)
  have HPN := Lib.hid (parse_noletter x l)
  have HKA := Lib.hid (kdTo_all x)
  have HK1Z : Hid (KyAt W0 (g + 1) (noneK (kdTo x 1))) := by
    show KyAt W0 (g + 1) (noneK (kdTo x 1))
    have e : kdTo x 1 = 0 := by unfold kdTo; rw [if_neg (by omega)]
    rw [e]; exact hk1
  show Calls Try.prog 18 #[.string ⟨(x :: l).toArray⟩] w _
  have HKD := Lib.hid hkd
  clear hk0 hk1 hb0 hs0 hW0 hW0' hkd
  go_enter Try.func18, Try.ntmps18
  go_wp2_with fail
  rw [HW0.out]
  go_loopw [5] (fun i wr => ∃ i' : Nat, 1 ≤ i' ∧ i' ≤ 11 ∧ i = .int .i64 i' ∧ KyAt wr (g + 1) (noneK (kdTo x i')) ∧ KyAt wr g (noneK 0) ∧ Below g w wr) (fun i _ => 11 - (intOf i).toNat)
  case atStart => exact ⟨1, Nat.le_refl _, by omega, rfl, HK1Z.out, HK0.out.1, HK0.out.2.2.1⟩
  case round =>
    obtain ⟨i, hi1, hi2, rfl, hk1, hk0, hbl⟩ := hrel
    by_cases hlt : i ≤ 10
    · have hl1 : ∀ W, (Instr.index 9 (.string ⟨#[32, 110, 105, 99, 100, 112, 114, 117, 102, 103, 116]⟩) (.int .i64 (i : Int))).run Try.prog W = .ok (B (letters.getD (i - 1) 0)) W := fun W => by
        have := idx_st [32, 110, 105, 99, 100, 112, 114, 117, 102, 103, 116] i _ (by simp; omega) rfl W
        have e : ([32, 110, 105, 99, 100, 112, 114, 117, 102, 103, 116] : List UInt8).getD i 0 = letters.getD (i - 1) 0 := by
          obtain ⟨j, rfl⟩ : ∃ j, i = j + 1 := ⟨i - 1, by omega⟩
          rfl
        rw [e] at this
        exact this
      have HY := Lib.hid (kdTo_yes x i hi1 hlt)
      have HN := Lib.hid (kdTo_no x i hi1 hlt)
      obtain ⟨y, hy⟩ : ∃ y, letters.getD (i - 1) 0 = y := ⟨_, rfl⟩
      rw [hy] at hl1 HY HN
      obtain ⟨c0, _, _, _, _, fz⟩ := hk1.at
      have fz0 := fz 0
      have HK1 := Lib.hid hk1
      have HB1 : Hid (KyAt wr g (noneK 0) ∧ Below g w wr) := ⟨hk0, hbl⟩
      clear hk1 hk0 hbl hy fz
      by_cases hxy : y = x
      · have hE : ((y.toNat : Int) == (x.toNat : Int)) = true := by rw [hxy]; simp
        have HS : Hid (∀ c, KyAt ((wr.drewN c).setCell ⟨g + 1, 0, none⟩ (.int .i64 (i : Int))) (g + 1) (noneK (kdTo x (i + 1))) ∧ KyAt ((wr.drewN c).setCell ⟨g + 1, 0, none⟩ (.int .i64 (i : Int))) g (noneK 0) ∧ Below g w ((wr.drewN c).setCell ⟨g + 1, 0, none⟩ (.int .i64 (i : Int)))) := fun c => by
          rw [HY.out hxy]
          refine ⟨?_, ?_, (below_drewN HB1.out.2 c).setCell (by show g ≤ g + 1; omega) _⟩
          · have := row_setT (i := 0) (show (wr.drewN c).heap[g + 1]? = _ from HK1.out) (.int .i64 (i : Int))
            simpa [KyAt, Ky.cells, noneK] using this
          · exact (Below.heap_setCell (wr.drewN c) ⟨g + 1, 0, none⟩ _ g (by show g ≠ g + 1; omega)).trans HB1.out.1
        clear HY HN hxy
        go_wp2
        go_quiet (fail)
        go_wp2
        exact ⟨⟨i + 1, by omega, by omega, by go_num, (HS.out _).1, (HS.out _).2.1, (HS.out _).2.2⟩, by simp [intOf]; omega⟩
      · have hE : ((y.toNat : Int) == (x.toNat : Int)) = false := by
          rw [beq_eq_false_iff_ne]
          intro h
          exact hxy (UInt8.toNat_inj.1 (by omega))
        have HS : Hid (∀ c, KyAt (wr.drewN c) (g + 1) (noneK (kdTo x (i + 1))) ∧ KyAt (wr.drewN c) g (noneK 0) ∧ Below g w (wr.drewN c)) := fun c => by
          rw [HN.out hxy]
          exact ⟨HK1.out, HB1.out.1, below_drewN HB1.out.2 c⟩
        clear HY HN hxy
        go_wp2
        go_quiet (fail)
        go_wp2
        exact ⟨⟨i + 1, by omega, by omega, by go_num, (HS.out _).1, (HS.out _).2.1, (HS.out _).2.2⟩, by simp [intOf]; omega⟩
    · obtain rfl : i = 11 := by omega
      rw [HKA.out] at hk1
      have HB1 : Hid (KyAt wr g (noneK 0) ∧ Below g w wr) := ⟨hk0, hbl⟩
      rw [HKD.out] at hk1 HPF
      have HK1 := Lib.hid hk1
      obtain ⟨c0, c1, c2, c3, c4⟩ := hk1.cs
      simp only [noneK] at c0 c1 c2 c3 c4
      obtain ⟨z0, z1, z2, z3, z4⟩ := hk0.cs
      simp only [noneK] at z0 z1 z2 z3 z4
      have fz := hk1.at.2.2.2.2.2
      have fz0 := fz 0
      have fz1 := fz 1
      have fz2 := fz 2
      have fz3 := fz 3
      have fz4 := fz 4
      have gz := hk0.at.2.2.2.2.2
      have gz0 := gz 0
      have gz1 := gz 1
      have gz2 := gz 2
      have gz3 := gz 3
      have gz4 := gz 4
      clear hk1 hk0 hbl fz gz HKA HK1Z HK0
      obtain ⟨n, hn⟩ : ∃ n, l.length = n := ⟨_, rfl⟩
      have HN := Lib.hid hn
      obtain ⟨SL, hSL⟩ : ∃ S, st l = .string S := ⟨_, rfl⟩
      have HSL := Lib.hid hSL
      have hln : ∀ W, (Builtin.len_ #[9] 3 #[.string SL]).run Try.prog W = .ok (.int .i64 (n : Int)) W := by rw [← hSL]; exact len_st l n hn
      rw [hSL] at hsl
      have HZC := Lib.hid (zat_cases l)
      obtain ⟨zt, hzt⟩ : ∃ z, zat l = z := ⟨_, rfl⟩
      have HZT := Lib.hid hzt
      rw [hzt, hn] at HZC
      have hzn : zt ≤ n := by rw [← hzt, ← hn]; exact zat_le l
      have hszl : SL.size = n := by
        unfold st at hSL
        simp only [Value.string.injEq] at hSL
        rw [← hSL, size_list, hn]
      have hn1 : n ≤ 1000 := by omega
      clear hn hSL hzt
      go_wp2
      go_loop [7] (fun i => ∃ j : Nat, j ≤ zt ∧ i = .int .i64 j) (fun i => zt - (intOf i).toNat)
      case atStart => exact ⟨0, Nat.zero_le _, rfl⟩
      case round =>
        obtain ⟨j, hj, rfl⟩ := hrel
        by_cases hjz : j < zt
        · have hjn : j < n := by omega
          obtain ⟨y, hy⟩ : ∃ y, l.getD j 0 = y := ⟨_, rfl⟩
          have hxi : ∀ W, (Instr.index 9 (.string SL) (.int .i64 (j : Int))).run Try.prog W = .ok (B y) W := by rw [← HSL.out]; exact idx_st l j y (by rw [HN.out]; exact hjn) hy
          have hy0 : ((y.toNat : Int) == 0) = false := by
            have hne : y ≠ 0 := by
              rw [← hy]
              rcases HZC.out with ⟨_, h⟩ | ⟨_, _, h⟩
              · exact h j hjn
              · exact h j hjz
            rw [beq_eq_false_iff_ne]
            intro h
            exact hne (UInt8.toNat_inj.1 (by simp; omega))
          clear hy
          go_wp2
          go_round
          case rel => exact ⟨j + 1, by omega, by go_num⟩
          case measure => simp [intOf]; omega
        · obtain rfl : j = zt := by omega
          clear hjz hj
          by_cases hjn : j = n
          · have hjn' : n = j := hjn.symm
            subst hjn'
            have HRF : Hid (refR 10 l = some ⟨10, l, [], 0, 0⟩) := rfl
            have HVV : Hid ((⟨10, l, [], 0, 0⟩ : Ky).val = .agg #[.int .i64 10, .string SL, .string ⟨#[]⟩, .int .i64 0, .int .i64 0]) := by
              show Value.agg #[.int .i64 10, st l, st [], .int .i64 0, .int .i64 0] = _
              rw [HSL.out]; rfl
            have HBDK : Hid (Bd ⟨10, l, [], 0, 0⟩) := ⟨hl, by simp, by simp, by simp⟩
            have H2 : Hid (KyAt (wr.setCell ⟨g + 1, 1, none⟩ (.string SL)) g (noneK 0) ∧ Below g w (wr.setCell ⟨g + 1, 1, none⟩ (.string SL)) ∧ g + 2 ≤ (wr.setCell ⟨g + 1, 1, none⟩ (.string SL)).heap.size ∧ (wr.setCell ⟨g + 1, 1, none⟩ (.string SL)).heap[g + 1]? = some (.cells #[.int .i64 10, .string SL, .string ⟨#[]⟩, .int .i64 0, .int .i64 0] 23 (0, 0))) :=
              ⟨set_far HB1.out.1 _ (by omega), HB1.out.2.setCell (by show g ≤ g + 1; omega) _, by rw [set_size]; exact HK1.out.lt, row_setT (i := 1) HK1.out _⟩
            have hvv : (⟨10, l, [], 0, 0⟩ : Ky).val = .agg #[.int .i64 10, .string SL, .string ⟨#[]⟩, .int .i64 0, .int .i64 0] := HVV.out
            have HM : Hid (∀ W, Calls Try.prog 14 #[.agg #[.int .i64 10, .string SL, .string ⟨#[]⟩, .int .i64 0, .int .i64 0]] W fun e w' => e = .returned (.bool (mayR (⟨10, l, [], 0, 0⟩ : Ky))) ∧ Below W.heap.size W w') := fun W => by
              have := rMay_any (⟨10, l, [], 0, 0⟩ : Ky) W HBDK.out
              rwa [hvv] at this
            have HBY : Hid (∀ s, bytesF (⟨10, l, [], 0, 0⟩ : Ky) = some s → ∀ W, Calls Try.prog 16 #[.agg #[.int .i64 10, .string SL, .string ⟨#[]⟩, .int .i64 0, .int .i64 0]] W fun e w' => e = .returned (st s) ∧ Below W.heap.size W w') := fun s h W => by
              have := rBytes_any (⟨10, l, [], 0, 0⟩ : Ky) s (bytesF_is h) W
              rwa [hvv] at this
            have HPK : Hid (parseF (x :: l) = if bytesF (⟨10, l, [], 0, 0⟩ : Ky) = some (x :: l) then some (⟨10, l, [], 0, 0⟩ : Ky) else none) := by
              have := HPF.out
              rw [HRF.out] at this
              exact this
            obtain ⟨mk, hmk⟩ : ∃ mk, mayR (⟨10, l, [], 0, 0⟩ : Ky) = mk := ⟨_, rfl⟩
            have HMK := Lib.hid hmk
            rw [hmk] at HM
            clear hvv hmk z0 z1 z2 z3 z4 gz0 gz1 gz2 gz3 gz4
            go_wp2_with fail
            refine (HM.out _).mono ?_
            rintro e w3 ⟨rfl, hb3⟩
            have H3 : Hid (KyAt w3 g (noneK 0) ∧ Below g w w3 ∧ g + 2 ≤ w3.heap.size ∧ w3.heap[g + 1]? = some (.cells #[.int .i64 10, .string SL, .string ⟨#[]⟩, .int .i64 0, .int .i64 0] 23 (0, 0))) :=
              ⟨H2.out.1.keep hb3, H2.out.2.1.trans (hb3.mono (by have := H2.out.2.2.1; omega)), Nat.le_trans H2.out.2.2.1 hb3.size, (hb3.block (g + 1) (by have := H2.out.2.2.1; omega)).trans H2.out.2.2.2⟩
            clear hb3 c0 c1 c2 c3 c4
            obtain ⟨c0, c1, c2, c3, c4⟩ := five_cells H3.out.2.2.2
            have hg1 := H3.out.1
            obtain ⟨z0, z1, z2, z3, z4⟩ := hg1.cs
            simp only [noneK] at z0 z1 z2 z3 z4
            have gz := hg1.at.2.2.2.2.2
            have gz0 := gz 0
            have gz1 := gz 1
            have gz2 := gz 2
            have gz3 := gz 3
            have gz4 := gz 4
            clear gz
            clear hg1
            cases mk with
            | false =>
              have HPZ : Hid (parseF (x :: l) = none) := by show parseF (x :: l) = none; rw [HPK.out, if_neg]; intro h; have h1 := HMK.out; rw [mayR_isSome, h] at h1; cases h1
              go_wp2
              have HE : Below g w (((((w3.setCell ⟨g, 0, none⟩ (.int .i64 (noneK 0).kind)).setCell ⟨g, 1, none⟩ (st (noneK 0).a)).setCell ⟨g, 2, none⟩ (st (noneK 0).b)).setCell ⟨g, 3, none⟩ (.int .i64 (noneK 0).n)).setCell ⟨g, 4, none⟩ (.int .i64 (noneK 0).m)) :=
                ((((H3.out.2.1.setCell (Nat.le_refl _) _).setCell (Nat.le_refl _) _).setCell (Nat.le_refl _) _).setCell (Nat.le_refl _) _).setCell (Nat.le_refl _) _
              have HR5 := H3.out.1.set5 (noneK 0)
              simp only [noneK, st] at HE HR5
              refine bodyPost_ret (results_cell2 (P := Try.prog) (fn := Try.f18) rfl _ _ rfl (run_loadVar_row _ g 23 23 _ (0, 0) _ HR5 Try.underlying23 rfl (by kernel_rfl))) rfl ⟨?_, HE⟩
              unfold RParE
              rw [HPZ.out]
              rfl
            | true =>
              obtain ⟨s, hs⟩ : ∃ s, bytesF (⟨10, l, [], 0, 0⟩ : Ky) = some s := by
                have h1 := HMK.out
                rw [mayR_isSome] at h1
                exact Option.isSome_iff_exists.1 h1
              have HB5 := Lib.hid (HBY.out s hs)
              have HSS := Lib.hid hs
              clear hs z0 z1 z2 z3 z4 gz0 gz1 gz2 gz3 gz4
              go_wp2_with fail
              refine (HB5.out _).mono ?_
              rintro e w4 ⟨rfl, hb4⟩
              have H4 : Hid (KyAt w4 g (noneK 0) ∧ Below g w w4 ∧ g + 2 ≤ w4.heap.size ∧ w4.heap[g + 1]? = some (.cells #[.int .i64 10, .string SL, .string ⟨#[]⟩, .int .i64 0, .int .i64 0] 23 (0, 0))) :=
                ⟨H3.out.1.keep hb4, H3.out.2.1.trans (hb4.mono (by have := H3.out.2.2.1; omega)), Nat.le_trans H3.out.2.2.1 hb4.size, (hb4.block (g + 1) (by have := H3.out.2.2.1; omega)).trans H3.out.2.2.2⟩
              clear hb4 c0 c1 c2 c3 c4
              obtain ⟨c0, c1, c2, c3, c4⟩ := five_cells H4.out.2.2.2
              have hg1 := H4.out.1
              obtain ⟨z0, z1, z2, z3, z4⟩ := hg1.cs
              simp only [noneK] at z0 z1 z2 z3 z4
              have gz := hg1.at.2.2.2.2.2
              have gz0 := gz 0
              have gz1 := gz 1
              have gz2 := gz 2
              have gz3 := gz 3
              have gz4 := gz 4
              clear gz
              clear hg1
              unfold st
              by_cases hsx : s = x :: l
              · subst hsx
                have HPS : Hid (parseF (x :: l) = some (⟨10, l, [], 0, 0⟩ : Ky)) := by
                  show parseF (x :: l) = some (⟨10, l, [], 0, 0⟩ : Ky)
                  rw [HPK.out, if_pos HSS.out]
                go_wp2
                have HE : (Below g w (((((w4.setCell ⟨g, 0, none⟩ (.int .i64 10)).setCell ⟨g, 1, none⟩ (.string SL)).setCell ⟨g, 2, none⟩ (.string ⟨#[]⟩)).setCell ⟨g, 3, none⟩ (.int .i64 0)).setCell ⟨g, 4, none⟩ (.int .i64 0))) :=
                  ((((H4.out.2.1.setCell (Nat.le_refl _) _).setCell (Nat.le_refl _) _).setCell (Nat.le_refl _) _).setCell (Nat.le_refl _) _).setCell (Nat.le_refl _) _
                have HR5 : ((((((w4.setCell ⟨g, 0, none⟩ (.int .i64 10)).setCell ⟨g, 1, none⟩ (.string SL)).setCell ⟨g, 2, none⟩ (.string ⟨#[]⟩)).setCell ⟨g, 3, none⟩ (.int .i64 0)).setCell ⟨g, 4, none⟩ (.int .i64 0)).heap[g]? = some (.cells #[.int .i64 10, .string SL, .string ⟨#[]⟩, .int .i64 0, .int .i64 0] 23 (0, 0))) := set5_row H4.out.1 _ _ _ _ _
                refine bodyPost_ret (results_cell2 (P := Try.prog) (fn := Try.f18) rfl _ _ rfl (run_loadVar_row _ g 23 23 _ (0, 0) _ HR5 Try.underlying23 rfl (by kernel_rfl))) rfl ⟨?_, HE⟩
                unfold RParE
                rw [HPS.out]
                show _ = Ending.returned (.tuple #[(⟨10, l, [], 0, 0⟩ : Ky).val, .bool true])
                rw [HVV.out]
                rfl
              · have hne5 : (s == x :: l) = false := by rw [beq_eq_false_iff_ne]; exact hsx
                have HPZ : Hid (parseF (x :: l) = none) := by show parseF (x :: l) = none; rw [HPK.out, if_neg]; intro h; rw [HSS.out] at h; exact hsx (Option.some.inj h)
                go_wp2
                have HE : Below g w (((((w4.setCell ⟨g, 0, none⟩ (.int .i64 (noneK 0).kind)).setCell ⟨g, 1, none⟩ (st (noneK 0).a)).setCell ⟨g, 2, none⟩ (st (noneK 0).b)).setCell ⟨g, 3, none⟩ (.int .i64 (noneK 0).n)).setCell ⟨g, 4, none⟩ (.int .i64 (noneK 0).m)) :=
                  ((((H4.out.2.1.setCell (Nat.le_refl _) _).setCell (Nat.le_refl _) _).setCell (Nat.le_refl _) _).setCell (Nat.le_refl _) _).setCell (Nat.le_refl _) _
                have HR5 := H4.out.1.set5 (noneK 0)
                simp only [noneK, st] at HE HR5
                refine bodyPost_ret (results_cell2 (P := Try.prog) (fn := Try.f18) rfl _ _ rfl (run_loadVar_row _ g 23 23 _ (0, 0) _ HR5 Try.underlying23 rfl (by kernel_rfl))) rfl ⟨?_, HE⟩
                unfold RParE
                rw [HPZ.out]
                rfl
          · have hlt : j < n := by omega
            have hxi : ∀ W, (Instr.index 9 (.string SL) (.int .i64 (j : Int))).run Try.prog W = .ok (B 0) W := by
              rw [← HSL.out]
              refine idx_st l j 0 (by rw [HN.out]; exact hlt) ?_
              rcases HZC.out with ⟨h, _⟩ | ⟨_, h, _⟩
              · exact absurd h hjn
              · exact h
            clear hjn
            have HRF : Hid (refR 10 l = some ⟨10, l, [], 0, 0⟩) := rfl
            have HVV : Hid ((⟨10, l, [], 0, 0⟩ : Ky).val = .agg #[.int .i64 10, .string SL, .string ⟨#[]⟩, .int .i64 0, .int .i64 0]) := by
              show Value.agg #[.int .i64 10, st l, st [], .int .i64 0, .int .i64 0] = _
              rw [HSL.out]; rfl
            have HBDK : Hid (Bd ⟨10, l, [], 0, 0⟩) := ⟨hl, by simp, by simp, by simp⟩
            have H2 : Hid (KyAt (wr.setCell ⟨g + 1, 1, none⟩ (.string SL)) g (noneK 0) ∧ Below g w (wr.setCell ⟨g + 1, 1, none⟩ (.string SL)) ∧ g + 2 ≤ (wr.setCell ⟨g + 1, 1, none⟩ (.string SL)).heap.size ∧ (wr.setCell ⟨g + 1, 1, none⟩ (.string SL)).heap[g + 1]? = some (.cells #[.int .i64 10, .string SL, .string ⟨#[]⟩, .int .i64 0, .int .i64 0] 23 (0, 0))) :=
              ⟨set_far HB1.out.1 _ (by omega), HB1.out.2.setCell (by show g ≤ g + 1; omega) _, by rw [set_size]; exact HK1.out.lt, row_setT (i := 1) HK1.out _⟩
            have hvv : (⟨10, l, [], 0, 0⟩ : Ky).val = .agg #[.int .i64 10, .string SL, .string ⟨#[]⟩, .int .i64 0, .int .i64 0] := HVV.out
            have HM : Hid (∀ W, Calls Try.prog 14 #[.agg #[.int .i64 10, .string SL, .string ⟨#[]⟩, .int .i64 0, .int .i64 0]] W fun e w' => e = .returned (.bool (mayR (⟨10, l, [], 0, 0⟩ : Ky))) ∧ Below W.heap.size W w') := fun W => by
              have := rMay_any (⟨10, l, [], 0, 0⟩ : Ky) W HBDK.out
              rwa [hvv] at this
            have HBY : Hid (∀ s, bytesF (⟨10, l, [], 0, 0⟩ : Ky) = some s → ∀ W, Calls Try.prog 16 #[.agg #[.int .i64 10, .string SL, .string ⟨#[]⟩, .int .i64 0, .int .i64 0]] W fun e w' => e = .returned (st s) ∧ Below W.heap.size W w') := fun s h W => by
              have := rBytes_any (⟨10, l, [], 0, 0⟩ : Ky) s (bytesF_is h) W
              rwa [hvv] at this
            have HPK : Hid (parseF (x :: l) = if bytesF (⟨10, l, [], 0, 0⟩ : Ky) = some (x :: l) then some (⟨10, l, [], 0, 0⟩ : Ky) else none) := by
              have := HPF.out
              rw [HRF.out] at this
              exact this
            obtain ⟨mk, hmk⟩ : ∃ mk, mayR (⟨10, l, [], 0, 0⟩ : Ky) = mk := ⟨_, rfl⟩
            have HMK := Lib.hid hmk
            rw [hmk] at HM
            clear hvv hmk z0 z1 z2 z3 z4 gz0 gz1 gz2 gz3 gz4
            go_wp2_with fail
            refine (HM.out _).mono ?_
            rintro e w3 ⟨rfl, hb3⟩
            have H3 : Hid (KyAt w3 g (noneK 0) ∧ Below g w w3 ∧ g + 2 ≤ w3.heap.size ∧ w3.heap[g + 1]? = some (.cells #[.int .i64 10, .string SL, .string ⟨#[]⟩, .int .i64 0, .int .i64 0] 23 (0, 0))) :=
              ⟨H2.out.1.keep hb3, H2.out.2.1.trans (hb3.mono (by have := H2.out.2.2.1; omega)), Nat.le_trans H2.out.2.2.1 hb3.size, (hb3.block (g + 1) (by have := H2.out.2.2.1; omega)).trans H2.out.2.2.2⟩
            clear hb3 c0 c1 c2 c3 c4
            obtain ⟨c0, c1, c2, c3, c4⟩ := five_cells H3.out.2.2.2
            have hg1 := H3.out.1
            obtain ⟨z0, z1, z2, z3, z4⟩ := hg1.cs
            simp only [noneK] at z0 z1 z2 z3 z4
            have gz := hg1.at.2.2.2.2.2
            have gz0 := gz 0
            have gz1 := gz 1
            have gz2 := gz 2
            have gz3 := gz 3
            have gz4 := gz 4
            clear gz
            clear hg1
            cases mk with
            | false =>
              have HPZ : Hid (parseF (x :: l) = none) := by show parseF (x :: l) = none; rw [HPK.out, if_neg]; intro h; have h1 := HMK.out; rw [mayR_isSome, h] at h1; cases h1
              go_wp2
              have HE : Below g w (((((w3.setCell ⟨g, 0, none⟩ (.int .i64 (noneK 0).kind)).setCell ⟨g, 1, none⟩ (st (noneK 0).a)).setCell ⟨g, 2, none⟩ (st (noneK 0).b)).setCell ⟨g, 3, none⟩ (.int .i64 (noneK 0).n)).setCell ⟨g, 4, none⟩ (.int .i64 (noneK 0).m)) :=
                ((((H3.out.2.1.setCell (Nat.le_refl _) _).setCell (Nat.le_refl _) _).setCell (Nat.le_refl _) _).setCell (Nat.le_refl _) _).setCell (Nat.le_refl _) _
              have HR5 := H3.out.1.set5 (noneK 0)
              simp only [noneK, st] at HE HR5
              refine bodyPost_ret (results_cell2 (P := Try.prog) (fn := Try.f18) rfl _ _ rfl (run_loadVar_row _ g 23 23 _ (0, 0) _ HR5 Try.underlying23 rfl (by kernel_rfl))) rfl ⟨?_, HE⟩
              unfold RParE
              rw [HPZ.out]
              rfl
            | true =>
              obtain ⟨s, hs⟩ : ∃ s, bytesF (⟨10, l, [], 0, 0⟩ : Ky) = some s := by
                have h1 := HMK.out
                rw [mayR_isSome] at h1
                exact Option.isSome_iff_exists.1 h1
              have HB5 := Lib.hid (HBY.out s hs)
              have HSS := Lib.hid hs
              clear hs z0 z1 z2 z3 z4 gz0 gz1 gz2 gz3 gz4
              go_wp2_with fail
              refine (HB5.out _).mono ?_
              rintro e w4 ⟨rfl, hb4⟩
              have H4 : Hid (KyAt w4 g (noneK 0) ∧ Below g w w4 ∧ g + 2 ≤ w4.heap.size ∧ w4.heap[g + 1]? = some (.cells #[.int .i64 10, .string SL, .string ⟨#[]⟩, .int .i64 0, .int .i64 0] 23 (0, 0))) :=
                ⟨H3.out.1.keep hb4, H3.out.2.1.trans (hb4.mono (by have := H3.out.2.2.1; omega)), Nat.le_trans H3.out.2.2.1 hb4.size, (hb4.block (g + 1) (by have := H3.out.2.2.1; omega)).trans H3.out.2.2.2⟩
              clear hb4 c0 c1 c2 c3 c4
              obtain ⟨c0, c1, c2, c3, c4⟩ := five_cells H4.out.2.2.2
              have hg1 := H4.out.1
              obtain ⟨z0, z1, z2, z3, z4⟩ := hg1.cs
              simp only [noneK] at z0 z1 z2 z3 z4
              have gz := hg1.at.2.2.2.2.2
              have gz0 := gz 0
              have gz1 := gz 1
              have gz2 := gz 2
              have gz3 := gz 3
              have gz4 := gz 4
              clear gz
              clear hg1
              unfold st
              by_cases hsx : s = x :: l
              · subst hsx
                have HPS : Hid (parseF (x :: l) = some (⟨10, l, [], 0, 0⟩ : Ky)) := by
                  show parseF (x :: l) = some (⟨10, l, [], 0, 0⟩ : Ky)
                  rw [HPK.out, if_pos HSS.out]
                go_wp2
                have HE : (Below g w (((((w4.setCell ⟨g, 0, none⟩ (.int .i64 10)).setCell ⟨g, 1, none⟩ (.string SL)).setCell ⟨g, 2, none⟩ (.string ⟨#[]⟩)).setCell ⟨g, 3, none⟩ (.int .i64 0)).setCell ⟨g, 4, none⟩ (.int .i64 0))) :=
                  ((((H4.out.2.1.setCell (Nat.le_refl _) _).setCell (Nat.le_refl _) _).setCell (Nat.le_refl _) _).setCell (Nat.le_refl _) _).setCell (Nat.le_refl _) _
                have HR5 : ((((((w4.setCell ⟨g, 0, none⟩ (.int .i64 10)).setCell ⟨g, 1, none⟩ (.string SL)).setCell ⟨g, 2, none⟩ (.string ⟨#[]⟩)).setCell ⟨g, 3, none⟩ (.int .i64 0)).setCell ⟨g, 4, none⟩ (.int .i64 0)).heap[g]? = some (.cells #[.int .i64 10, .string SL, .string ⟨#[]⟩, .int .i64 0, .int .i64 0] 23 (0, 0))) := set5_row H4.out.1 _ _ _ _ _
                refine bodyPost_ret (results_cell2 (P := Try.prog) (fn := Try.f18) rfl _ _ rfl (run_loadVar_row _ g 23 23 _ (0, 0) _ HR5 Try.underlying23 rfl (by kernel_rfl))) rfl ⟨?_, HE⟩
                unfold RParE
                rw [HPS.out]
                show _ = Ending.returned (.tuple #[(⟨10, l, [], 0, 0⟩ : Ky).val, .bool true])
                rw [HVV.out]
                rfl
              · have hne5 : (s == x :: l) = false := by rw [beq_eq_false_iff_ne]; exact hsx
                have HPZ : Hid (parseF (x :: l) = none) := by show parseF (x :: l) = none; rw [HPK.out, if_neg]; intro h; rw [HSS.out] at h; exact hsx (Option.some.inj h)
                go_wp2
                have HE : Below g w (((((w4.setCell ⟨g, 0, none⟩ (.int .i64 (noneK 0).kind)).setCell ⟨g, 1, none⟩ (st (noneK 0).a)).setCell ⟨g, 2, none⟩ (st (noneK 0).b)).setCell ⟨g, 3, none⟩ (.int .i64 (noneK 0).n)).setCell ⟨g, 4, none⟩ (.int .i64 (noneK 0).m)) :=
                  ((((H4.out.2.1.setCell (Nat.le_refl _) _).setCell (Nat.le_refl _) _).setCell (Nat.le_refl _) _).setCell (Nat.le_refl _) _).setCell (Nat.le_refl _) _
                have HR5 := H4.out.1.set5 (noneK 0)
                simp only [noneK, st] at HE HR5
                refine bodyPost_ret (results_cell2 (P := Try.prog) (fn := Try.f18) rfl _ _ rfl (run_loadVar_row _ g 23 23 _ (0, 0) _ HR5 Try.underlying23 rfl (by kernel_rfl))) rfl ⟨?_, HE⟩
                unfold RParE
                rw [HPZ.out]
                rfl
end Go.Proofs.Ytlnghdldecnmgaa
