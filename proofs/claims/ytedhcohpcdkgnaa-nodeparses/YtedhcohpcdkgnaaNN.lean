/- The document's text of a place. Conditions: none. -/
import Derived.Test.YtedhcohpcdkgnaaNK
import Derived.Test.YtedhcohpcdkgnaaNL
namespace Go.Bs
open Go.RowKit
/-- a place in bytes, as a cursor: below 0 it is short. -/
def atI (n : Nat) (s : St) : Int := if s.2 then -1 else ((n - s.1.length : Nat) : Int)
end Go.Bs
namespace Go.Proofs.Ytedhcohpcdkgnaa
open Go.RowKit Go.Bs

set_option maxRecDepth 100000 in
set_option maxHeartbeats 4000000 in
theorem rText_any (w : World) (A : Option Addr) (n c : Nat) (b : List UInt8) (H : Rd w A n c b) (hn : n ≤ 5000) (s : St) (hs : s.2 = false → ∃ k, k ≤ n ∧ s.1 = b.drop k) :
    Calls Try.prog 30 #[.slice A n c, .int .i64 (atI n s)] w fun e w' => e = .returned (.tuple #[.string (stTxt s).1, .int .i64 (atI n (stTxt s).2)]) ∧ w = w' := by
  have HRD := Lib.hid H
  have hln := H.len
  have HL := Lib.hid hln
  have hcap := H.cap
  obtain ⟨l, sh⟩ := s
  cases sh with
  | true =>
    have e1 : stTxt (l, true) = (⟨#[]⟩, (l, true)) := by
      unfold stTxt stNum
      have : stTake (l, true) 1 = ([], (l, true)) := by unfold stTake; rw [if_pos (.inl rfl)]
      rw [this]
      have : stTake ((l, true) : St) (beN []) = ([], (l, true)) := by unfold stTake; rw [if_pos (.inl rfl)]
      simp only
      rw [this]
    rw [e1]
    have e2 : atI n (l, true) = -1 := rfl
    simp only
    rw [e2]
    clear H hln hs e1 e2
    go_enter Try.func30, Try.ntmps30
    go_wp2
    go_ret2
    exact ⟨rfl, rfl⟩
  | false =>
    obtain ⟨k, hk, e0⟩ := hs rfl
    simp only at e0
    subst e0
    have ea : atI n (b.drop k, false) = (k : Int) := by
      show ((n - (b.drop k).length : Nat) : Int) = _
      rw [List.length_drop, hln]; omega
    rw [ea]
    by_cases hkn : n ≤ k
    · have hd : b.drop k = [] := List.drop_eq_nil_of_le (by omega)
      have e1 : stTxt (b.drop k, false) = (⟨#[]⟩, ([], true)) := by
        rw [hd]; rfl
      rw [e1]
      clear H hln ea hd e1
      go_enter Try.func30, Try.ntmps30
      go_wp2
      go_ret2
      exact ⟨rfl, rfl⟩
    · obtain ⟨q, o, rfl, hq, hcell⟩ := HRD.out.cells (by omega)
      have e0 := hcell k (by omega)
      have hd : b.drop k = b.getD k 0 :: b.drop (k + 1) := by rw [getD_get b k (by omega), List.drop_eq_getElem_cons (by omega)]
      obtain ⟨x, hx⟩ : ∃ x, b.getD k 0 = x := ⟨_, rfl⟩
      rw [hx] at e0 hd
      have hx8 := x.toNat_lt
      obtain ⟨m, hm⟩ : ∃ m, x.toNat = m := ⟨_, rfl⟩
      have hr : (b.drop (k + 1)).length = n - (k + 1) := by rw [List.length_drop, hln]
      by_cases hshort : n < k + 1 + m
      · have e1 : stTxt (b.drop k, false) = (⟨#[]⟩, (b.drop (k + 1), true)) := by
          unfold stTxt
          rw [hd, stNum1_fore]
          simp only
          have : stTake (b.drop (k + 1), false) x.toNat = ([], (b.drop (k + 1), true)) := by
            unfold stTake
            rw [if_pos (.inr (by show (b.drop (k + 1)).length < x.toNat; rw [hr, hm]; omega))]
          rw [this]
        rw [e1]
        have hg : (n : Int) < (k : Int) + 1 + (x.toNat : Int) := by omega
        clear H hln ea hd e1 hcell hx hm
        go_enter Try.func30, Try.ntmps30
        go_wp2
        go_ret2
        exact ⟨rfl, rfl⟩
      · have e1 : stTxt (b.drop k, false) = (⟨((b.drop (k + 1)).take m).toArray⟩, (b.drop (k + 1 + m), false)) := by
          unfold stTxt
          rw [hd, stNum1_fore]
          simp only
          have : stTake (b.drop (k + 1), false) x.toNat = ((b.drop (k + 1)).take m, (b.drop (k + 1 + m), false)) := by
            unfold stTake
            rw [if_neg (by show ¬ (false = true ∨ (b.drop (k + 1)).length < x.toNat); rw [hr, hm]; simp; omega), hm]
            simp
          rw [this]
        rw [e1]
        have e2 : atI n (b.drop (k + 1 + m), false) = (k : Int) + 1 + (m : Int) := by
          show ((n - (b.drop (k + 1 + m)).length : Nat) : Int) = _
          rw [List.length_drop, hln]; omega
        simp only
        rw [e2]
        have hg : ¬ (n : Int) < (k : Int) + 1 + (x.toNat : Int) := by omega
        have hg2 : ¬ (n : Int) < (k : Int) + 1 + (m : Int) := by omega
        obtain ⟨T, hT⟩ : ∃ T : ByteArray, ⟨((b.drop (k + 1)).take m).toArray⟩ = T := ⟨_, rfl⟩
        rw [hT]
        by_cases hc : c = k + 1
        · have hm0 : m = 0 := by omega
          have hcv : (convert 30 9 (.slice (some ⟨q, o, none⟩) m 0)).run Try.prog w = .ok (.string T) w := by
            rw [← hT]
            refine string_rd w _ _ _ _ ⟨by rw [List.length_take, hr]; omega, by omega, fun h => absurd h (by omega)⟩
          clear H hln ea hd hcell hx e2 hT hm0 hs
          go_enter Try.func30, Try.ntmps30
          go_wp2
          go_ret2
          exact ⟨rfl, rfl⟩
        · have hcv : (convert 30 9 (.slice (some ⟨q, o + (k + 1), none⟩) m (c - (k + 1)))).run Try.prog w = .ok (.string T) w := by
            rw [← hT]
            exact string_rd w _ _ _ _ (HRD.out.part (k + 1) m (c - (k + 1)) (by omega) (by omega))
          clear H hln ea hd hcell hx e2 hT hs
          go_enter Try.func30, Try.ntmps30
          go_wp2
          go_ret2
          exact ⟨rfl, rfl⟩
end Go.Proofs.Ytedhcohpcdkgnaa
