import Derived.Test.YtdncklgeblggfaaT1
namespace Go.Proofs.Ytdncklgeblggfaa
open Go.RowKit Go.Bs

def at3 (x : Int × Int × Int) : Ending := .returned (.tuple #[.int .i64 x.1, .int .i64 x.2.1, .int .i64 x.2.2])
def tx3 (x : List UInt8 × Int × Int) : Ending := .returned (.tuple #[.string ⟨x.1.toArray⟩, .int .i64 x.2.1, .int .i64 x.2.2])

set_option maxHeartbeats 400000 in
theorem At_any (A : Option Addr) (n c : Nat) (i : Int) (bs : List UInt8) (w : World) (h : Rd w A n c bs) (hn : n ≤ 4611686018427387904) (hi : i ≤ 9223372036854775807) :
    Calls Try.prog 14 #[.slice A n c, .int .i64 i] w fun e w' => e = at3 (atF bs i) ∧ w = w' := by
  have HL := Lib.hid h.len
  have hcap := h.cap
  by_cases h0 : i < 0
  · have HF := Lib.hid (atF_neg bs i h0)
    go_enter Try.func14, Try.ntmps14
    go_wp2
    go_ret3
    exact ⟨by rw [HF.out]; rfl, rfl⟩
  have h0' : 0 ≤ i := by omega
  by_cases h1 : (n : Int) - i < 8
  · have HF := Lib.hid (atF_more bs i (by omega) (by rw [HL.out]; exact h1))
    go_enter Try.func14, Try.ntmps14
    go_wp2
    go_ret3
    exact ⟨by rw [HF.out]; rfl, rfl⟩
  obtain ⟨k, rfl⟩ := Int.eq_ofNat_of_zero_le h0'
  have hk : k + 8 ≤ n := by omega
  obtain ⟨g, o, rfl, hg, hc⟩ := h.cells (by omega)
  have hr := h.part k 8 (c - k) hk (by omega)
  obtain ⟨y, hy⟩ : ∃ y, leN ((bs.drop k).take 8) = y := ⟨_, rfl⟩
  have HY := Lib.hid hy
  have HR := Lib.hid hr
  clear hr hc
  by_cases h2 : 2147483647 < y
  · have HF := Lib.hid (atF_long bs k (by rw [HL.out]; exact hk) (by rw [hy]; exact h2))
    clear hy h0' h0
    go_enter Try.func14, Try.ntmps14
    go_wp2_with fail
    refine (number_any _ _ _ _ HR.out).mono ?_
    rintro e w' ⟨rfl, rfl⟩
    rw [HY.out]
    go_wp2
    go_ret3
    exact ⟨by rw [HF.out]; rfl, rfl⟩
  · have HF := Lib.hid (atF_ok bs k (by rw [HL.out]; exact hk) (by rw [hy]; omega))
    rw [hy] at HF
    clear hy h0' h0
    go_enter Try.func14, Try.ntmps14
    go_wp2_with fail
    refine (number_any _ _ _ _ HR.out).mono ?_
    rintro e w' ⟨rfl, rfl⟩
    rw [HY.out]
    go_wp2
    go_ret3
    exact ⟨by rw [HF.out]; rfl, rfl⟩

theorem string_rd (w : World) (A : Option Addr) (n c : Nat) (bs : List UInt8) (h : Rd w A n c bs) : (convert 22 9 (.slice A n c)).run Try.prog w = .ok (.string ⟨bs.toArray⟩) w :=
  run_string_rd w 22 9 5 Try.underlying22 Try.underlying5 Try.underlying9 A n c bs h

set_option maxHeartbeats 400000 in
theorem TextAt_any (A : Option Addr) (n c : Nat) (i : Int) (bs : List UInt8) (w : World) (h : Rd w A n c bs) (hn : n ≤ 4611686018427387904) (hi : i ≤ 9223372036854775807) :
    Calls Try.prog 15 #[.slice A n c, .int .i64 i] w fun e w' => e = tx3 (textF bs i) ∧ w = w' := by
  have HL := Lib.hid h.len
  have hcap := h.cap
  by_cases he : (atF bs i).2.2 = 0
  · obtain ⟨k, m, rfl, hk, hm, ha⟩ := atF_split bs i n h.len he
    obtain ⟨g, o, rfl, hg, hc⟩ := h.cells (by omega)
    have HA := Lib.hid ha
    clear he hc
    obtain ⟨q, hq⟩ : ∃ q, gapN m = q := ⟨_, rfl⟩
    have hq8 : q < 8 := by rw [← hq]; exact gapN_lt m
    have HQ := Lib.hid hq
    by_cases h1 : n < k + 8 + m + q
    · have HF := Lib.hid (textF_more bs k m _ ha (by rw [HL.out, hq]; exact h1))
      clear ha hq
      by_cases h2 : n < k + 8 + m
      · go_enter Try.func15, Try.ntmps15
        go_wp2_with fail
        refine (At_any _ n c k bs w h hn hi).mono ?_
        rintro e w' ⟨rfl, rfl⟩
        rw [HA.out]
        unfold at3
        go_wp2
        go_ret3
        exact ⟨by rw [HF.out]; rfl, rfl⟩
      · go_enter Try.func15, Try.ntmps15
        go_wp2_with fail
        refine (At_any _ n c k bs w h hn hi).mono ?_
        rintro e w' ⟨rfl, rfl⟩
        rw [HA.out]
        unfold at3
        go_wp2_with fail
        refine (gap_any m w (by omega)).mono ?_
        rintro e w' ⟨rfl, rfl⟩
        rw [HQ.out]
        go_wp2
        go_ret3
        exact ⟨by rw [HF.out]; rfl, rfl⟩
    · have HP := Lib.hid (h.part (k + 8 + m) q (c - (k + 8 + m)) (by omega) (by omega))
      have hst := string_rd w _ m (c - (k + 8)) _ (h.part (k + 8) m (c - (k + 8)) (by omega) (by omega))
      obtain ⟨b, hb⟩ : ∃ b, ((bs.drop (k + 8 + m)).take q).all (· == 0) = b := ⟨_, rfl⟩
      have HB := Lib.hid hb
      cases b
      · have HF := Lib.hid (textF_form bs k m _ ha (by rw [HL.out, hq]; omega) (by rw [hq]; exact hb))
        have hq0 : 0 < q := by
          rcases Nat.eq_zero_or_pos q with e | e
          · subst e; simp at hb
          · exact e
        clear ha hq hb
        go_enter Try.func15, Try.ntmps15
        go_wp2_with fail
        refine (At_any _ n c k bs w h hn hi).mono ?_
        rintro e w' ⟨rfl, rfl⟩
        rw [HA.out]
        unfold at3
        go_wp2_with fail
        refine (gap_any m w (by omega)).mono ?_
        rintro e w' ⟨rfl, rfl⟩
        rw [HQ.out]
        go_wp2_with fail
        refine (gap_any m w (by omega)).mono ?_
        rintro e w' ⟨rfl, rfl⟩
        rw [HQ.out]
        go_wp2_with fail
        refine (allNought_any _ _ _ _ _ HP.out (by omega)).mono ?_
        rintro e w' ⟨rfl, rfl⟩
        rw [HB.out]
        go_wp2
        go_ret3
        exact ⟨by rw [HF.out]; rfl, rfl⟩
      · have HF := Lib.hid (textF_ok bs k m _ ha (by rw [HL.out, hq]; omega) (by rw [hq]; exact hb))
        rw [hq] at HF
        have hst0 : ∀ A c, (convert 22 9 (.slice A 0 c)).run Try.prog w = .ok (.string ⟨([] : List UInt8).toArray⟩) w := fun A c => string_rd w A 0 c [] (Rd.nil _ _ _)
        have hall : ([] : List UInt8).all (· == 0) = true := rfl
        have hqm : 0 < q → 0 < m := by
          intro h
          rcases Nat.eq_zero_or_pos m with e | e
          · subst e; rw [show gapN 0 = 0 from rfl] at hq; omega
          · exact e
        rcases Nat.eq_zero_or_pos q with hq0 | hq0
        · subst hq0
          clear ha hq hb hqm
          rcases Nat.eq_zero_or_pos m with hm0 | hm0
          · subst hm0
            by_cases hce : c = k + 8
            all_goals
              try subst hce
              go_enter Try.func15, Try.ntmps15
              go_wp2_with fail
              refine (At_any _ n _ k bs w h hn hi).mono ?_
              rintro e w' ⟨rfl, rfl⟩
              rw [HA.out]
              unfold at3
              go_wp2_with fail
              refine (gap_any 0 w (by omega)).mono ?_
              rintro e w' ⟨rfl, rfl⟩
              rw [HQ.out]
              go_wp2_with fail
              refine (gap_any 0 w (by omega)).mono ?_
              rintro e w' ⟨rfl, rfl⟩
              rw [HQ.out]
              go_wp2_with fail
              refine (allNought_any _ _ _ [] _ (Rd.nil _ _ _) (by omega)).mono ?_
              rintro e w' ⟨rfl, rfl⟩
              rw [hall]
              go_wp2
              go_ret3
              exact ⟨by rw [HF.out]; simp [tx3], rfl⟩
          · have hstm := string_rd w _ m m _ (h.part (k + 8) m m (by omega) (by omega))
            by_cases hce : c = k + 8 + m
            all_goals
              try subst hce
              go_enter Try.func15, Try.ntmps15
              go_wp2_with fail
              refine (At_any _ n _ k bs w h hn hi).mono ?_
              rintro e w' ⟨rfl, rfl⟩
              rw [HA.out]
              unfold at3
              go_wp2_with fail
              refine (gap_any m w (by omega)).mono ?_
              rintro e w' ⟨rfl, rfl⟩
              rw [HQ.out]
              go_wp2_with fail
              refine (gap_any m w (by omega)).mono ?_
              rintro e w' ⟨rfl, rfl⟩
              rw [HQ.out]
              go_wp2_with fail
              refine (allNought_any _ _ _ [] _ (Rd.nil _ _ _) (by omega)).mono ?_
              rintro e w' ⟨rfl, rfl⟩
              rw [hall]
              go_wp2
              go_ret3
              exact ⟨by rw [HF.out]; simp [tx3], rfl⟩
        · have hm0 := hqm hq0
          clear ha hq hb hqm
          go_enter Try.func15, Try.ntmps15
          go_wp2_with fail
          refine (At_any _ n c k bs w h hn hi).mono ?_
          rintro e w' ⟨rfl, rfl⟩
          rw [HA.out]
          unfold at3
          go_wp2_with fail
          refine (gap_any m w (by omega)).mono ?_
          rintro e w' ⟨rfl, rfl⟩
          rw [HQ.out]
          go_wp2_with fail
          refine (gap_any m w (by omega)).mono ?_
          rintro e w' ⟨rfl, rfl⟩
          rw [HQ.out]
          go_wp2_with fail
          refine (allNought_any _ _ _ _ _ HP.out (by omega)).mono ?_
          rintro e w' ⟨rfl, rfl⟩
          rw [HB.out]
          go_wp2
          go_ret3
          exact ⟨by rw [HF.out]; simp [tx3], rfl⟩
  · obtain ⟨x, y, e, ha, he'⟩ : ∃ x y e : Int, atF bs i = (x, y, e) ∧ e ≠ 0 := ⟨_, _, _, rfl, he⟩
    have HF := Lib.hid (textF_err bs i x y e ha he')
    have HA := Lib.hid ha
    have hne : (e != 0) = true := by simpa using he'
    clear ha he
    go_enter Try.func15, Try.ntmps15
    go_wp2_with fail
    refine (At_any A n c i bs w h hn hi).mono ?_
    rintro e w' ⟨rfl, rfl⟩
    rw [HA.out]
    unfold at3
    go_wp2
    go_ret3
    exact ⟨by rw [HF.out]; rfl, rfl⟩
end Go.Proofs.Ytdncklgeblggfaa
