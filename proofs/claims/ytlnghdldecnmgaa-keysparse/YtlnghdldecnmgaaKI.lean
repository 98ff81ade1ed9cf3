/- The document's May in memory. Conditions: none. -/
import Derived.Test.YtlnghdldecnmgaaKH
set_option maxRecDepth 8000
set_option linter.unusedSimpArgs false
set_option linter.unusedVariables false
namespace Go.Kx
open Go.RowKit Go.Bs
theorem shp_or (kind : Int) : shp kind = (false, false, true, false) ∨ shp kind = (false, false, true, true) ∨ shp kind = (true, false, true, false) ∨ shp kind = (true, false, false, false) ∨ shp kind = (true, true, false, false) ∨ shp kind = (false, false, false, false) := by
  unfold shp
  split <;> simp
end Go.Kx
namespace Go.Proofs.Ytlnghdldecnmgaa
open Go.RowKit Go.Bs Go.Kx
/-- what May's walk needs. -/
structure MayW (k : Ky) (w W2 : World) (g : Nat) (na nb nu : Bool) : Prop where
  w2 : w.alloc (.cells #[.int .i64 k.kind, .string ⟨k.a.toArray⟩, .string ⟨k.b.toArray⟩, .int .i64 k.n, .int .i64 k.m] 23) = W2
  sz : w.heap.size = g
  at_ : KyAt W2 g k
  below : Below g w W2
  na : ∀ W, Calls Try.prog 24 #[.string ⟨k.a.toArray⟩] W fun e w' => e = .returned (.bool na) ∧ W = w'
  nb : ∀ W, Calls Try.prog 24 #[.string ⟨k.b.toArray⟩] W fun e w' => e = .returned (.bool nb) ∧ W = w'
  nu : ∀ W, Calls Try.prog 23 #[.int .i64 k.kind, .int .i64 k.n] W fun e w' => e = .returned (.bool nu) ∧ W = w'
set_option maxHeartbeats 4000000 in
theorem rMay_0 (k : Ky) (w W2 : World) (g : Nat) (na nb nu R : Bool) (h : MayW k w W2 g na nb nu) (hs : shp k.kind = (false, false, true, false)) (h1 : 1 ≤ k.kind) (h2 : k.kind ≤ 10)
    (hR : R = ((!false || na) && (false || decide (k.a = [])) && (!false || nb) && (false || decide (k.b = [])) && ((!true || nu) && (true || decide (k.n = 0))) && ((false && decide (0 ≤ k.m) && decide (k.m ≤ 65535)) || (!false && decide (k.m = 0))))) :
    Calls Try.prog 14 #[.agg #[.int .i64 k.kind, .string ⟨k.a.toArray⟩, .string ⟨k.b.toArray⟩, .int .i64 k.n, .int .i64 k.m]] w fun e w' => e = .returned (.bool R) ∧ Below g w w' := by
  obtain ⟨hw2, hg, hat, hbl, hna, hnb, hnu⟩ := h
  have HR := Lib.hid hR
  have HW2 := Lib.hid hw2
  have HB2 := Lib.hid hbl
  have HNA := Lib.hid hna
  have HNB := Lib.hid hnb
  have HNU := Lib.hid hnu
  have HSH : Hid (∀ W, Calls Try.prog 25 #[.int .i64 k.kind] W fun e w' => e = .returned (.tuple #[.bool false, .bool false, .bool true, .bool false]) ∧ W = w') := fun W => by
    have := rShape_any k.kind W
    rw [hs] at this
    exact this
  obtain ⟨c0, c1, c2, c3, c4, cf⟩ := hat.at
  unfold st at c1 c2
  clear hR hw2 hbl hna hnb hnu hat cf hs
  go_enter Try.func14, Try.ntmps14
  go_wp2_with fail
  rw [HW2.out]
  refine (HSH.out _).mono ?_
  rintro e w' ⟨rfl, rfl⟩
  by_cases a1 : k.a = []
  · have a2 : (k.a == []) = true := by rw [a1]; rfl
    have a3 : ([] == k.a) = true := by rw [a1]; rfl
    by_cases b1 : k.b = []
    · have b2 : (k.b == []) = true := by rw [b1]; rfl
      have b3 : ([] == k.b) = true := by rw [b1]; rfl
      go_wp2_with fail
      refine (HNU.out _).mono ?_
      rintro e w' ⟨rfl, rfl⟩
      rcases Bool.eq_false_or_eq_true nu with hnu | hnu
      · subst hnu
        by_cases m1 : k.m = 0
        · go_wp2
          go_ret
          exact ⟨by rw [HR.out]; simp [a1, b1, m1] <;> omega, HB2.out⟩
        · go_wp2
          go_ret
          exact ⟨by rw [HR.out]; simp [a1, b1, m1] <;> omega, HB2.out⟩
      · subst hnu
        go_wp2
        go_ret
        exact ⟨by rw [HR.out]; simp [a1, b1] <;> omega, HB2.out⟩
    · have b2 : (k.b == []) = false := by rw [beq_eq_false_iff_ne]; exact b1
      have b3 : ([] == k.b) = false := by rw [beq_eq_false_iff_ne]; exact fun e => b1 e.symm
      go_wp2
      go_ret
      exact ⟨by rw [HR.out]; simp [a1, b1] <;> omega, HB2.out⟩
  · have a2 : (k.a == []) = false := by rw [beq_eq_false_iff_ne]; exact a1
    have a3 : ([] == k.a) = false := by rw [beq_eq_false_iff_ne]; exact fun e => a1 e.symm
    go_wp2
    go_ret
    exact ⟨by rw [HR.out]; simp [a1] <;> omega, HB2.out⟩
set_option maxHeartbeats 4000000 in
theorem rMay_1 (k : Ky) (w W2 : World) (g : Nat) (na nb nu R : Bool) (h : MayW k w W2 g na nb nu) (hs : shp k.kind = (false, false, true, true)) (h1 : 1 ≤ k.kind) (h2 : k.kind ≤ 10)
    (hR : R = ((!false || na) && (false || decide (k.a = [])) && (!false || nb) && (false || decide (k.b = [])) && ((!true || nu) && (true || decide (k.n = 0))) && ((true && decide (0 ≤ k.m) && decide (k.m ≤ 65535)) || (!true && decide (k.m = 0))))) :
    Calls Try.prog 14 #[.agg #[.int .i64 k.kind, .string ⟨k.a.toArray⟩, .string ⟨k.b.toArray⟩, .int .i64 k.n, .int .i64 k.m]] w fun e w' => e = .returned (.bool R) ∧ Below g w w' := by
  obtain ⟨hw2, hg, hat, hbl, hna, hnb, hnu⟩ := h
  have HR := Lib.hid hR
  have HW2 := Lib.hid hw2
  have HB2 := Lib.hid hbl
  have HNA := Lib.hid hna
  have HNB := Lib.hid hnb
  have HNU := Lib.hid hnu
  have HSH : Hid (∀ W, Calls Try.prog 25 #[.int .i64 k.kind] W fun e w' => e = .returned (.tuple #[.bool false, .bool false, .bool true, .bool true]) ∧ W = w') := fun W => by
    have := rShape_any k.kind W
    rw [hs] at this
    exact this
  obtain ⟨c0, c1, c2, c3, c4, cf⟩ := hat.at
  unfold st at c1 c2
  clear hR hw2 hbl hna hnb hnu hat cf hs
  go_enter Try.func14, Try.ntmps14
  go_wp2_with fail
  rw [HW2.out]
  refine (HSH.out _).mono ?_
  rintro e w' ⟨rfl, rfl⟩
  by_cases a1 : k.a = []
  · have a2 : (k.a == []) = true := by rw [a1]; rfl
    have a3 : ([] == k.a) = true := by rw [a1]; rfl
    by_cases b1 : k.b = []
    · have b2 : (k.b == []) = true := by rw [b1]; rfl
      have b3 : ([] == k.b) = true := by rw [b1]; rfl
      go_wp2_with fail
      refine (HNU.out _).mono ?_
      rintro e w' ⟨rfl, rfl⟩
      rcases Bool.eq_false_or_eq_true nu with hnu | hnu
      · subst hnu
        by_cases m1 : 0 ≤ k.m
        · by_cases m2 : k.m ≤ 65535
          · go_wp2
            go_ret
            exact ⟨by rw [HR.out]; simp [a1, b1, m1, m2] <;> omega, HB2.out⟩
          · go_wp2
            go_ret
            exact ⟨by rw [HR.out]; simp [a1, b1, m1, m2] <;> omega, HB2.out⟩
        · go_wp2
          go_ret
          exact ⟨by rw [HR.out]; simp [a1, b1, m1] <;> omega, HB2.out⟩
      · subst hnu
        go_wp2
        go_ret
        exact ⟨by rw [HR.out]; simp [a1, b1] <;> omega, HB2.out⟩
    · have b2 : (k.b == []) = false := by rw [beq_eq_false_iff_ne]; exact b1
      have b3 : ([] == k.b) = false := by rw [beq_eq_false_iff_ne]; exact fun e => b1 e.symm
      go_wp2
      go_ret
      exact ⟨by rw [HR.out]; simp [a1, b1] <;> omega, HB2.out⟩
  · have a2 : (k.a == []) = false := by rw [beq_eq_false_iff_ne]; exact a1
    have a3 : ([] == k.a) = false := by rw [beq_eq_false_iff_ne]; exact fun e => a1 e.symm
    go_wp2
    go_ret
    exact ⟨by rw [HR.out]; simp [a1] <;> omega, HB2.out⟩
set_option maxHeartbeats 4000000 in
theorem rMay_2 (k : Ky) (w W2 : World) (g : Nat) (na nb nu R : Bool) (h : MayW k w W2 g na nb nu) (hs : shp k.kind = (true, false, true, false)) (h1 : 1 ≤ k.kind) (h2 : k.kind ≤ 10)
    (hR : R = ((!true || na) && (true || decide (k.a = [])) && (!false || nb) && (false || decide (k.b = [])) && ((!true || nu) && (true || decide (k.n = 0))) && ((false && decide (0 ≤ k.m) && decide (k.m ≤ 65535)) || (!false && decide (k.m = 0))))) :
    Calls Try.prog 14 #[.agg #[.int .i64 k.kind, .string ⟨k.a.toArray⟩, .string ⟨k.b.toArray⟩, .int .i64 k.n, .int .i64 k.m]] w fun e w' => e = .returned (.bool R) ∧ Below g w w' := by
  obtain ⟨hw2, hg, hat, hbl, hna, hnb, hnu⟩ := h
  have HR := Lib.hid hR
  have HW2 := Lib.hid hw2
  have HB2 := Lib.hid hbl
  have HNA := Lib.hid hna
  have HNB := Lib.hid hnb
  have HNU := Lib.hid hnu
  have HSH : Hid (∀ W, Calls Try.prog 25 #[.int .i64 k.kind] W fun e w' => e = .returned (.tuple #[.bool true, .bool false, .bool true, .bool false]) ∧ W = w') := fun W => by
    have := rShape_any k.kind W
    rw [hs] at this
    exact this
  obtain ⟨c0, c1, c2, c3, c4, cf⟩ := hat.at
  unfold st at c1 c2
  clear hR hw2 hbl hna hnb hnu hat cf hs
  go_enter Try.func14, Try.ntmps14
  go_wp2_with fail
  rw [HW2.out]
  refine (HSH.out _).mono ?_
  rintro e w' ⟨rfl, rfl⟩
  go_wp2_with fail
  refine (HNA.out _).mono ?_
  rintro e w' ⟨rfl, rfl⟩
  rcases Bool.eq_false_or_eq_true na with hna | hna
  · subst hna
    by_cases b1 : k.b = []
    · have b2 : (k.b == []) = true := by rw [b1]; rfl
      have b3 : ([] == k.b) = true := by rw [b1]; rfl
      go_wp2_with fail
      refine (HNU.out _).mono ?_
      rintro e w' ⟨rfl, rfl⟩
      rcases Bool.eq_false_or_eq_true nu with hnu | hnu
      · subst hnu
        by_cases m1 : k.m = 0
        · go_wp2
          go_ret
          exact ⟨by rw [HR.out]; simp [b1, m1] <;> omega, HB2.out⟩
        · go_wp2
          go_ret
          exact ⟨by rw [HR.out]; simp [b1, m1] <;> omega, HB2.out⟩
      · subst hnu
        go_wp2
        go_ret
        exact ⟨by rw [HR.out]; simp [b1] <;> omega, HB2.out⟩
    · have b2 : (k.b == []) = false := by rw [beq_eq_false_iff_ne]; exact b1
      have b3 : ([] == k.b) = false := by rw [beq_eq_false_iff_ne]; exact fun e => b1 e.symm
      go_wp2
      go_ret
      exact ⟨by rw [HR.out]; simp [b1] <;> omega, HB2.out⟩
  · subst hna
    go_wp2
    go_ret
    exact ⟨by rw [HR.out]; simp [] <;> omega, HB2.out⟩
set_option maxHeartbeats 4000000 in
theorem rMay_3 (k : Ky) (w W2 : World) (g : Nat) (na nb nu R : Bool) (h : MayW k w W2 g na nb nu) (hs : shp k.kind = (true, false, false, false)) (h1 : 1 ≤ k.kind) (h2 : k.kind ≤ 10)
    (hR : R = ((!true || na) && (true || decide (k.a = [])) && (!false || nb) && (false || decide (k.b = [])) && ((!false || nu) && (false || decide (k.n = 0))) && ((false && decide (0 ≤ k.m) && decide (k.m ≤ 65535)) || (!false && decide (k.m = 0))))) :
    Calls Try.prog 14 #[.agg #[.int .i64 k.kind, .string ⟨k.a.toArray⟩, .string ⟨k.b.toArray⟩, .int .i64 k.n, .int .i64 k.m]] w fun e w' => e = .returned (.bool R) ∧ Below g w w' := by
  obtain ⟨hw2, hg, hat, hbl, hna, hnb, hnu⟩ := h
  have HR := Lib.hid hR
  have HW2 := Lib.hid hw2
  have HB2 := Lib.hid hbl
  have HNA := Lib.hid hna
  have HNB := Lib.hid hnb
  have HNU := Lib.hid hnu
  have HSH : Hid (∀ W, Calls Try.prog 25 #[.int .i64 k.kind] W fun e w' => e = .returned (.tuple #[.bool true, .bool false, .bool false, .bool false]) ∧ W = w') := fun W => by
    have := rShape_any k.kind W
    rw [hs] at this
    exact this
  obtain ⟨c0, c1, c2, c3, c4, cf⟩ := hat.at
  unfold st at c1 c2
  clear hR hw2 hbl hna hnb hnu hat cf hs
  go_enter Try.func14, Try.ntmps14
  go_wp2_with fail
  rw [HW2.out]
  refine (HSH.out _).mono ?_
  rintro e w' ⟨rfl, rfl⟩
  go_wp2_with fail
  refine (HNA.out _).mono ?_
  rintro e w' ⟨rfl, rfl⟩
  rcases Bool.eq_false_or_eq_true na with hna | hna
  · subst hna
    by_cases b1 : k.b = []
    · have b2 : (k.b == []) = true := by rw [b1]; rfl
      have b3 : ([] == k.b) = true := by rw [b1]; rfl
      by_cases n1 : k.n = 0
      · by_cases m1 : k.m = 0
        · go_wp2
          go_ret
          exact ⟨by rw [HR.out]; simp [b1, n1, m1] <;> omega, HB2.out⟩
        · go_wp2
          go_ret
          exact ⟨by rw [HR.out]; simp [b1, n1, m1] <;> omega, HB2.out⟩
      · go_wp2
        go_ret
        exact ⟨by rw [HR.out]; simp [b1, n1] <;> omega, HB2.out⟩
    · have b2 : (k.b == []) = false := by rw [beq_eq_false_iff_ne]; exact b1
      have b3 : ([] == k.b) = false := by rw [beq_eq_false_iff_ne]; exact fun e => b1 e.symm
      go_wp2
      go_ret
      exact ⟨by rw [HR.out]; simp [b1] <;> omega, HB2.out⟩
  · subst hna
    go_wp2
    go_ret
    exact ⟨by rw [HR.out]; simp [] <;> omega, HB2.out⟩
set_option maxHeartbeats 4000000 in
theorem rMay_4 (k : Ky) (w W2 : World) (g : Nat) (na nb nu R : Bool) (h : MayW k w W2 g na nb nu) (hs : shp k.kind = (true, true, false, false)) (h1 : 1 ≤ k.kind) (h2 : k.kind ≤ 10)
    (hR : R = ((!true || na) && (true || decide (k.a = [])) && (!true || nb) && (true || decide (k.b = [])) && ((!false || nu) && (false || decide (k.n = 0))) && ((false && decide (0 ≤ k.m) && decide (k.m ≤ 65535)) || (!false && decide (k.m = 0))))) :
    Calls Try.prog 14 #[.agg #[.int .i64 k.kind, .string ⟨k.a.toArray⟩, .string ⟨k.b.toArray⟩, .int .i64 k.n, .int .i64 k.m]] w fun e w' => e = .returned (.bool R) ∧ Below g w w' := by
  obtain ⟨hw2, hg, hat, hbl, hna, hnb, hnu⟩ := h
  have HR := Lib.hid hR
  have HW2 := Lib.hid hw2
  have HB2 := Lib.hid hbl
  have HNA := Lib.hid hna
  have HNB := Lib.hid hnb
  have HNU := Lib.hid hnu
  have HSH : Hid (∀ W, Calls Try.prog 25 #[.int .i64 k.kind] W fun e w' => e = .returned (.tuple #[.bool true, .bool true, .bool false, .bool false]) ∧ W = w') := fun W => by
    have := rShape_any k.kind W
    rw [hs] at this
    exact this
  obtain ⟨c0, c1, c2, c3, c4, cf⟩ := hat.at
  unfold st at c1 c2
  clear hR hw2 hbl hna hnb hnu hat cf hs
  go_enter Try.func14, Try.ntmps14
  go_wp2_with fail
  rw [HW2.out]
  refine (HSH.out _).mono ?_
  rintro e w' ⟨rfl, rfl⟩
  go_wp2_with fail
  refine (HNA.out _).mono ?_
  rintro e w' ⟨rfl, rfl⟩
  rcases Bool.eq_false_or_eq_true na with hna | hna
  · subst hna
    go_wp2_with fail
    refine (HNB.out _).mono ?_
    rintro e w' ⟨rfl, rfl⟩
    rcases Bool.eq_false_or_eq_true nb with hnb | hnb
    · subst hnb
      by_cases n1 : k.n = 0
      · by_cases m1 : k.m = 0
        · go_wp2
          go_ret
          exact ⟨by rw [HR.out]; simp [n1, m1] <;> omega, HB2.out⟩
        · go_wp2
          go_ret
          exact ⟨by rw [HR.out]; simp [n1, m1] <;> omega, HB2.out⟩
      · go_wp2
        go_ret
        exact ⟨by rw [HR.out]; simp [n1] <;> omega, HB2.out⟩
    · subst hnb
      go_wp2
      go_ret
      exact ⟨by rw [HR.out]; simp [] <;> omega, HB2.out⟩
  · subst hna
    go_wp2
    go_ret
    exact ⟨by rw [HR.out]; simp [] <;> omega, HB2.out⟩
set_option maxHeartbeats 4000000 in
theorem rMay_5 (k : Ky) (w W2 : World) (g : Nat) (na nb nu R : Bool) (h : MayW k w W2 g na nb nu) (hs : shp k.kind = (false, false, false, false)) (h1 : 1 ≤ k.kind) (h2 : k.kind ≤ 10)
    (hR : R = ((!false || na) && (false || decide (k.a = [])) && (!false || nb) && (false || decide (k.b = [])) && ((!false || nu) && (false || decide (k.n = 0))) && ((false && decide (0 ≤ k.m) && decide (k.m ≤ 65535)) || (!false && decide (k.m = 0))))) :
    Calls Try.prog 14 #[.agg #[.int .i64 k.kind, .string ⟨k.a.toArray⟩, .string ⟨k.b.toArray⟩, .int .i64 k.n, .int .i64 k.m]] w fun e w' => e = .returned (.bool R) ∧ Below g w w' := by
  obtain ⟨hw2, hg, hat, hbl, hna, hnb, hnu⟩ := h
  have HR := Lib.hid hR
  have HW2 := Lib.hid hw2
  have HB2 := Lib.hid hbl
  have HNA := Lib.hid hna
  have HNB := Lib.hid hnb
  have HNU := Lib.hid hnu
  have HSH : Hid (∀ W, Calls Try.prog 25 #[.int .i64 k.kind] W fun e w' => e = .returned (.tuple #[.bool false, .bool false, .bool false, .bool false]) ∧ W = w') := fun W => by
    have := rShape_any k.kind W
    rw [hs] at this
    exact this
  obtain ⟨c0, c1, c2, c3, c4, cf⟩ := hat.at
  unfold st at c1 c2
  clear hR hw2 hbl hna hnb hnu hat cf hs
  go_enter Try.func14, Try.ntmps14
  go_wp2_with fail
  rw [HW2.out]
  refine (HSH.out _).mono ?_
  rintro e w' ⟨rfl, rfl⟩
  by_cases a1 : k.a = []
  · have a2 : (k.a == []) = true := by rw [a1]; rfl
    have a3 : ([] == k.a) = true := by rw [a1]; rfl
    by_cases b1 : k.b = []
    · have b2 : (k.b == []) = true := by rw [b1]; rfl
      have b3 : ([] == k.b) = true := by rw [b1]; rfl
      by_cases n1 : k.n = 0
      · by_cases m1 : k.m = 0
        · go_wp2
          go_ret
          exact ⟨by rw [HR.out]; simp [a1, b1, n1, m1] <;> omega, HB2.out⟩
        · go_wp2
          go_ret
          exact ⟨by rw [HR.out]; simp [a1, b1, n1, m1] <;> omega, HB2.out⟩
      · go_wp2
        go_ret
        exact ⟨by rw [HR.out]; simp [a1, b1, n1] <;> omega, HB2.out⟩
    · have b2 : (k.b == []) = false := by rw [beq_eq_false_iff_ne]; exact b1
      have b3 : ([] == k.b) = false := by rw [beq_eq_false_iff_ne]; exact fun e => b1 e.symm
      go_wp2
      go_ret
      exact ⟨by rw [HR.out]; simp [a1, b1] <;> omega, HB2.out⟩
  · have a2 : (k.a == []) = false := by rw [beq_eq_false_iff_ne]; exact a1
    have a3 : ([] == k.a) = false := by rw [beq_eq_false_iff_ne]; exact fun e => a1 e.symm
    go_wp2
    go_ret
    exact ⟨by rw [HR.out]; simp [a1] <;> omega, HB2.out⟩
set_option maxHeartbeats 1000000 in
theorem rMay_any (k : Ky) (w : World) (hb : Bd k) : Calls Try.prog 14 #[k.val] w fun e w' => e = .returned (.bool (mayR k)) ∧ Below w.heap.size w w' := by
  by_cases h1 : 1 ≤ k.kind
  · by_cases h2 : k.kind ≤ 10
    · have H : MayW k w _ _ _ _ _ := ⟨rfl, rfl, KyAt.new w k, (Below.refl _ _).alloc (Nat.le_refl _) _, fun W => rName_any k.a W (Nat.le_trans hb.a (by omega)), fun W => rName_any k.b W (Nat.le_trans hb.b (by omega)), fun W => rNumber_any k.kind k.n W⟩
      rcases shp_or k.kind with hs | hs | hs | hs | hs | hs
      · exact rMay_0 k w _ _ _ _ _ _ H hs h1 h2 (by simp only [mayR, mayT, mayN, mayM, hs, h1, h2, decide_true, Bool.true_and])
      · exact rMay_1 k w _ _ _ _ _ _ H hs h1 h2 (by simp only [mayR, mayT, mayN, mayM, hs, h1, h2, decide_true, Bool.true_and])
      · exact rMay_2 k w _ _ _ _ _ _ H hs h1 h2 (by simp only [mayR, mayT, mayN, mayM, hs, h1, h2, decide_true, Bool.true_and])
      · exact rMay_3 k w _ _ _ _ _ _ H hs h1 h2 (by simp only [mayR, mayT, mayN, mayM, hs, h1, h2, decide_true, Bool.true_and])
      · exact rMay_4 k w _ _ _ _ _ _ H hs h1 h2 (by simp only [mayR, mayT, mayN, mayM, hs, h1, h2, decide_true, Bool.true_and])
      · exact rMay_5 k w _ _ _ _ _ _ H hs h1 h2 (by simp only [mayR, mayT, mayN, mayM, hs, h1, h2, decide_true, Bool.true_and])
    · have hf : mayR k = false := by simp [mayR, h2]
      rw [hf]
      have HB : Hid (Below w.heap.size w (w.alloc (.cells k.cells 23))) := (Below.refl _ _).alloc (Nat.le_refl _) _
      unfold Ky.val
      unfold Ky.cells at HB
      clear hf
      go_enter Try.func14, Try.ntmps14
      go_wp2
      go_ret
      exact ⟨rfl, HB.out⟩
  · have hf : mayR k = false := by simp [mayR, h1]
    rw [hf]
    have HB : Hid (Below w.heap.size w (w.alloc (.cells k.cells 23))) := (Below.refl _ _).alloc (Nat.le_refl _) _
    unfold Ky.val
    unfold Ky.cells at HB
    clear hf
    go_enter Try.func14, Try.ntmps14
    go_wp2
    go_ret
    exact ⟨rfl, HB.out⟩
end Go.Proofs.Ytlnghdldecnmgaa
