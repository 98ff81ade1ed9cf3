import Derived.Test.YtdncklgeblggfaaT3
namespace Go.Proofs.Ytdncklgeblggfaa
open Go.RowKit Go.Bs

set_option maxHeartbeats 400000 in
theorem rAt_any (A : Option Addr) (n c i : Nat) (bs : List UInt8) (w : World) (h : Rd w A n c bs) (hn : n ≤ 4611686018427387904) (hi : i ≤ 9223372036854775807) :
    Calls Try.prog 16 #[.slice A n c, .int .i64 i] w fun e w' => e = at3 (atF bs i) ∧ w = w' := by
  have HL := Lib.hid h.len
  have hcap := h.cap
  by_cases h1 : (n : Int) - i < 8
  · have HF := Lib.hid (atF_more bs i (by omega) (by rw [HL.out]; exact h1))
    go_enter Try.func16, Try.ntmps16
    go_wp2
    go_ret3
    exact ⟨by rw [HF.out]; rfl, rfl⟩
  have hk : i + 8 ≤ n := by omega
  have hkl : i + 8 ≤ bs.length := by rw [HL.out]; exact hk
  obtain ⟨g, o, rfl, hg, hc⟩ := h.cells (by omega)
  have HC := Lib.hid hc
  have HK := Lib.hid hkl
  clear hc h hkl
  go_enter Try.func16, Try.ntmps16
  go_wp2
  go_loop [7, 8] (fun x k => ((∃ j : Nat, j ≤ 7 ∧ k = .int .i64 j ∧ x = .int .i64 (seg bs i (7 - j)) ∧ seg bs i (7 - j) ≤ 2147483647) ∨ (k = .int .i64 (-1) ∧ x = .int .i64 (seg bs i 8) ∧ seg bs i 8 ≤ 2147483647))) (fun _ k => (intOf k + 1).toNat)
  case atStart => exact .inl ⟨7, by omega, rfl, by rw [Nat.sub_self, seg_zero]; rfl, by rw [Nat.sub_self, seg_zero]; omega⟩
  case round =>
    rcases hrel with ⟨j, hj, rfl, rfl, hle⟩ | ⟨rfl, rfl, hle⟩
    · obtain ⟨x, hx⟩ : ∃ x, bs.getD (i + j) 0 = x := ⟨_, rfl⟩
      have hcell := HC.out (i + j) (by omega)
      have hs := seg_succ bs i (7 - j) (by omega) HK.out
      rw [show 7 - (7 - j) = j by omega, hx] at hs
      rw [hx] at hcell
      obtain ⟨y, hy⟩ : ∃ y, seg bs i (7 - j) = y := ⟨_, rfl⟩
      rw [hy] at hs hle ⊢
      have hx8 : x.toNat < 256 := x.toNat_lt
      have HS := Lib.hid hs
      have HM := Lib.hid (seg_le bs i HK.out (7 - j + 1) (by omega))
      clear hx hy hs
      by_cases hbig : 2147483647 < 256 * y + x.toNat
      · have HF := Lib.hid (atF_long bs i HK.out (by rw [← seg_eight]; have := HM.out; have := HS.out; omega))
        go_wp2
        go_ret3
        exact ⟨by rw [HF.out]; rfl, rfl⟩
      · go_wp2
        go_round
        case rel =>
          rcases Nat.eq_zero_or_pos j with h0 | h0
          · subst h0
            exact .inr ⟨by go_num, by rw [show (8 : Nat) = 7 - 0 + 1 from rfl, HS.out]; go_num, by rw [show (8 : Nat) = 7 - 0 + 1 from rfl, HS.out]; omega⟩
          · refine .inl ⟨j - 1, by omega, by congr 1; omega, ?_, ?_⟩
            · rw [show 7 - (j - 1) = 7 - j + 1 by omega, HS.out]; go_num
            · rw [show 7 - (j - 1) = 7 - j + 1 by omega, HS.out]; omega
        case measure => simp [intOf]
    · have HF := Lib.hid (atF_ok bs i HK.out (by rw [← seg_eight]; exact hle))
      go_wp2
      go_ret3
      exact ⟨by rw [HF.out, ← seg_eight]; rfl, rfl⟩

set_option maxHeartbeats 400000 in
theorem rTextAt_any (A : Option Addr) (n c i : Nat) (bs : List UInt8) (w : World) (h : Rd w A n c bs) (hn : n ≤ 4611686018427387904) (hi : i ≤ 9223372036854775807) :
    Calls Try.prog 17 #[.slice A n c, .int .i64 i] w fun e w' => e = tx3 (textF bs i) ∧ w = w' := by
  have HL := Lib.hid h.len
  have hcap := h.cap
  by_cases he : (atF bs i).2.2 = 0
  · obtain ⟨k, m, hik, hk, hm, ha⟩ := atF_split bs i n h.len he
    obtain rfl : i = k := by omega
    obtain ⟨g, o, rfl, hg, hc⟩ := h.cells (by omega)
    have HA := Lib.hid ha
    have HC := Lib.hid hc
    clear he hc hik
    obtain ⟨q, hq⟩ : ∃ q, gapN m = q := ⟨_, rfl⟩
    have hq8 : q < 8 := by rw [← hq]; exact gapN_lt m
    have hqm : (m + q) % 8 = 0 := by rw [← hq]; exact gapN_mod m
    have HQ := Lib.hid hq
    by_cases h1 : n < i + 8 + m + q
    · have HF := Lib.hid (textF_more bs i m _ ha (by rw [HL.out, hq]; exact h1))
      clear ha hq
      have ht : decide ((n : Int) - ((i : Int) + 8) < ((m : Int) + 7) / 8 * 8) = true := by simp; omega
      go_enter Try.func17, Try.ntmps17
      go_wp2_with fail
      refine (rAt_any _ n c i bs w h hn hi).mono ?_
      rintro e w' ⟨rfl, rfl⟩
      rw [HA.out]
      unfold at3
      go_wp2
      go_ret3
      exact ⟨by rw [HF.out]; rfl, rfl⟩
    · have hst := string_rd w _ m (c - (i + 8)) _ (h.part (i + 8) m (c - (i + 8)) (by omega) (by omega))
      have hst0 : ∀ A c, (convert 22 9 (.slice A 0 c)).run Try.prog w = .ok (.string ⟨([] : List UInt8).toArray⟩) w := fun A c => string_rd w A 0 c [] (Rd.nil _ _ _)
      have HFE : Hid (((bs.drop (i + 8 + m)).take q).all (· == 0) = false → textF bs i = ([], 0, 4)) := fun hb => textF_form bs i m _ ha (by rw [HL.out, hq]; omega) (by rw [hq]; exact hb)
      have HFO : Hid (((bs.drop (i + 8 + m)).take q).all (· == 0) = true → textF bs i = ((bs.drop (i + 8)).take m, ((i + 8 + m + q : Nat) : Int), 0)) := fun hb => by
        have := textF_ok bs i m _ ha (by rw [HL.out, hq]; omega) (by rw [hq]; exact hb)
        rwa [hq] at this
      have hE : ((m : Int) + 7) / 8 * 8 = (m : Int) + q := by omega
      clear ha hq
      go_enter Try.func17, Try.ntmps17
      go_wp2_with fail
      refine (rAt_any _ n c i bs w h hn hi).mono ?_
      rintro e w' ⟨rfl, rfl⟩
      rw [HA.out]
      unfold at3
      go_wp2
      go_loop [11] (fun x => ∃ j : Nat, j ≤ q ∧ x = .int .i64 ((i : Int) + 8 + m + j) ∧ ∀ t, t < j → bs.getD (i + 8 + m + t) 0 = 0) (fun x => (((i : Int) + 8 + m + q) - intOf x).toNat)
      case atStart => exact ⟨0, Nat.zero_le _, by go_num, fun t ht => absurd ht (by omega)⟩
      case round =>
        obtain ⟨j, hj, rfl, hz⟩ := hrel
        have HZ := Lib.hid hz
        clear hz
        by_cases hlt : j < q
        · obtain ⟨x, hx⟩ : ∃ x, bs.getD (i + 8 + m + j) 0 = x := ⟨_, rfl⟩
          have hcell := HC.out (i + 8 + m + j) (by omega)
          rw [hx] at hcell
          have HX := Lib.hid hx
          clear hx
          by_cases h0 : x = 0
          · subst h0
            go_wp2
            go_round
            case rel =>
              refine ⟨j + 1, by omega, by congr 1, fun t ht => ?_⟩
              by_cases htj : t < j
              · exact HZ.out t htj
              · obtain rfl : t = j := by omega
                exact HX.out
            case measure => simp [intOf]; omega
          · have hne : ((x.toNat : Int) != 0) = true := by
              have : x.toNat ≠ 0 := fun e => h0 (UInt8.toNat_inj.1 (by simpa using e))
              simpa using this
            have HF := Lib.hid (HFE.out (part_all_false bs (i + 8 + m) q j (by rw [HL.out]; omega) hlt (by rw [HX.out]; exact h0)))
            go_wp2
            go_ret3
            exact ⟨by rw [HF.out]; rfl, rfl⟩
        · obtain rfl : j = q := by omega
          have HF := Lib.hid (HFO.out (part_all_true bs (i + 8 + m) j HZ.out))
          rcases Nat.eq_zero_or_pos m with hm0 | hm0
          · subst hm0
            by_cases hce : c = i + 8
            all_goals
              try subst hce
              go_wp2
              go_ret3
              exact ⟨by rw [HF.out]; simp [tx3], rfl⟩
          · go_wp2
            go_ret3
            exact ⟨by rw [HF.out]; simp [tx3]; omega, rfl⟩
  · obtain ⟨x, y, e, ha, he'⟩ : ∃ x y e : Int, atF bs i = (x, y, e) ∧ e ≠ 0 := ⟨_, _, _, rfl, he⟩
    have HF := Lib.hid (textF_err bs i x y e ha he')
    have HA := Lib.hid ha
    have hne : (e != 0) = true := by simpa using he'
    clear ha he
    go_enter Try.func17, Try.ntmps17
    go_wp2_with fail
    refine (rAt_any A n c i bs w h hn hi).mono ?_
    rintro e w' ⟨rfl, rfl⟩
    rw [HA.out]
    unfold at3
    go_wp2
    go_ret3
    exact ⟨by rw [HF.out]; rfl, rfl⟩

theorem abc_text : textF (textB [97, 98, 99]) 0 = ([97, 98, 99], 16, 0) := by decide +kernel
theorem abc_len : gapN 3 = 5 := rfl
theorem n258 : numB 258 = [2, 1, 0, 0, 0, 0, 0, 0] := by decide +kernel

set_option maxHeartbeats 400000 in
theorem awake_any (w : World) : Calls Try.prog 11 #[] w fun e w' => e = .returned (.bool true) ∧ Below w.heap.size w w' := by
  go_enter Try.func11, Try.ntmps11
  go_wp2_with fail
  refine (Put_yes none 0 0 258 [] w (Rd.nil _ _ _) (by omega) (by omega)).mono ?_
  rintro e w1 ⟨rfl, hB1, hb1⟩
  go_wp2_with fail
  refine (PutText_any none 0 0 _ [] w1 (Rd.nil _ _ _) (by omega) (by decide)).mono ?_
  rintro e w2 ⟨rfl, hB2, hb2⟩
  have hs := string_rd w2 _ 8 8 _ ((hB1.keep hb2 hB1.lt).all' 8 8 (by simp [numB_length]) (by omega))
  rw [List.nil_append, n258] at hs
  have hr2 : Rd w2 (some ⟨w1.heap.size, 0, none⟩) (11 + 5) (11 + 5) (textB [97, 98, 99]) := Blk.all' hB2 _ _ (by decide +kernel) (by omega)
  have HB := Lib.hid (hb1.trans (hb2.mono hb1.size))
  clear hB1 hB2 hb1 hb2
  go_wp2_with fail
  rw [abc_len]
  refine (TextAt_any _ _ _ _ _ w2 hr2 (by omega) (by omega)).mono ?_
  rintro e w3 ⟨rfl, rfl⟩
  rw [abc_text]
  unfold tx3
  go_wp2
  go_ret
  exact ⟨rfl, HB.out⟩
end Go.Proofs.Ytdncklgeblggfaa
