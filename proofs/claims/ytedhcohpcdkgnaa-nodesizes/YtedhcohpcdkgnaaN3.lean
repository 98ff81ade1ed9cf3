/- few. Conditions: none. -/
import Derived.Test.YtedhcohpcdkgnaaN1
namespace Go.Proofs.Ytedhcohpcdkgnaa
open Go.RowKit Go.Bs

set_option maxHeartbeats 4000000 in
theorem few_any (w : World) (h : Hd) (N : Nd) (H : NdAt w h N) (hpm : h.pl ≤ maxLen) (hkm : h.kl ≤ maxLen) (hcm : h.cl ≤ maxLen) :
    Calls Try.prog 8 #[nv h N.leaf] w fun e w' => (e = .returned (.bool false) ∨ (e = .returned (.bool true) ∧ N.Few 200)) ∧ Below w.heap.size w w' := by
  have HH := Lib.hid H
  obtain ⟨leaf, ps, ks, cs⟩ := N
  obtain ⟨pA, pl, pc, kA, kl, kc, cA, cl, cc⟩ := h
  have hpl : ps.length = pl := H.p.len
  have hkl : ks.length = kl := H.k.len
  have hcl : cs.length = cl := H.c.len
  have hpc : pl ≤ pc := H.p.cap
  have hkc : kl ≤ kc := H.k.cap
  have hcc : cl ≤ cc := H.c.cap
  have HPL := Lib.hid hpl
  have HKL := Lib.hid hkl
  have HCL := Lib.hid hcl
  clear H hpl hkl hcl
  obtain ⟨g, hg⟩ : ∃ g, w.heap.size = g := ⟨_, rfl⟩
  have HG := Lib.hid hg
  obtain ⟨W, hW⟩ : ∃ W, w.alloc (.cells (ncs ⟨pA, pl, pc, kA, kl, kc, cA, cl, cc⟩ leaf) 26) = W := ⟨_, rfl⟩
  have hbx : Bx W g ⟨pA, pl, pc, kA, kl, kc, cA, cl, cc⟩ leaf := by rw [← hW, ← hg]; exact Bx.new _ _ _
  have hbw : Below g w W := by rw [← hW, ← hg]; exact (Below.refl _ _).alloc (Nat.le_refl _) _
  obtain ⟨c0, c1, c2, c3⟩ := hbx.cells
  have HBX := Lib.hid hbx
  have HBW := Lib.hid hbw
  clear hbx hbw
  simp only [nv]
  rw [hg]
  simp only at hpm hkm hcm
  unfold maxLen at hpm hkm hcm
  by_cases b1 : 200 < pl
  · go_enter Try.func8, Try.ntmps8
    go_wp2
    go_ret
    exact ⟨.inl rfl, HBW.out⟩
  by_cases b2 : 200 < kl
  · go_enter Try.func8, Try.ntmps8
    go_wp2
    go_ret
    exact ⟨.inl rfl, HBW.out⟩
  by_cases b3 : 200 < cl
  · go_enter Try.func8, Try.ntmps8
    go_wp2
    go_ret
    exact ⟨.inl rfl, HBW.out⟩
  go_enter Try.func8, Try.ntmps8
  go_wp2
  go_loopw [3] (fun i wr => ∃ k : Nat, k ≤ pl ∧ i = .int .i64 k ∧ (∀ j, j < k → (pAt ps j).1.size + (pAt ps j).2.size ≤ 2000) ∧ Bx wr g ⟨pA, pl, pc, kA, kl, kc, cA, cl, cc⟩ leaf ∧ Below g w wr) (fun i _ => pl - (intOf i).toNat)
  case atStart => exact ⟨0, Nat.zero_le _, rfl, fun j hj => absurd hj (by omega), HBX.out, HBW.out⟩
  case round =>
    obtain ⟨k, hk1, rfl, hpr, hbx, hbl⟩ := hrel
    have HPR := Lib.hid hpr
    have hgs := hbl.size
    rw [HG.out] at hgs
    obtain ⟨d0, d1, d2, d3⟩ := hbx.cells
    have HBX2 := Lib.hid hbx
    have HBL := Lib.hid hbl
    clear hbx hbl hpr
    by_cases hlt : k < pl
    · have hRP : RdP wr pA pl pc ps := HH.out.p.keep (by rw [HG.out]; exact HBL.out)
      obtain ⟨q, o, rfl, hq, hcell⟩ := hRP.cells (by omega)
      obtain ⟨e0, e1⟩ := hcell k hlt
      have hsz := hRP.sizes (pAt ps k) (pAt_mem ps k (by rw [HPL.out]; exact hlt))
      obtain ⟨x, hx⟩ : ∃ x, (pAt ps k).1 = x := ⟨_, rfl⟩
      obtain ⟨y, hy⟩ : ∃ y, (pAt ps k).2 = y := ⟨_, rfl⟩
      rw [hx] at hsz e0
      rw [hy] at hsz e1
      have hs0 := hsz.1
      have hs1 := hsz.2
      have q1 : IntKind.i64.wrap ((x.size : Int) + (y.size : Int)) = (x.size : Int) + (y.size : Int) := IntWalk.i64_in _ (by omega)
      have HX := Lib.hid hx
      have HY := Lib.hid hy
      clear hx hy hcell hRP hsz
      by_cases hbig : x.size + y.size ≤ 2000
      · go_wp2_with fail
        go_quiet (fail)
        go_wp2
        go_roundw
        case rel =>
          refine ⟨k + 1, by omega, by go_num, fun j hj => ?_, HBX2.out, below_drewN HBL.out _⟩
          rcases Nat.lt_or_ge j k with h | h
          · exact HPR.out j h
          · obtain rfl : j = k := by omega
            rw [HX.out, HY.out]; exact hbig
        case measure => simp [intOf]; omega
      · go_wp2_with fail
        go_quiet (fail)
        go_wp2
        go_ret
        exact ⟨.inl rfl, below_drewN HBL.out _⟩
    · obtain rfl : k = pl := by omega
      go_wp2
      go_loopw [4] (fun i wv => ∃ j : Nat, j ≤ kl ∧ i = .int .i64 j ∧ (∀ i, i < j → (sAt ks i).size ≤ 2000) ∧ wv = wr) (fun i _ => kl - (intOf i).toNat)
      case atStart => exact ⟨0, Nat.zero_le _, rfl, fun j hj => absurd hj (by omega), rfl⟩
      case round =>
        obtain ⟨j, hj1, rfl, hpr2, rfl⟩ := hrel
        have HPR2 := Lib.hid hpr2
        clear hpr2
        by_cases hlj : j < kl
        · have hRS : RdS wr kA kl kc ks := HH.out.k.keep (by rw [HG.out]; exact HBL.out)
          have hsz := hRS.sizes (sAt ks j) (sAt_mem ks j (by rw [HKL.out]; exact hlj))
          unfold maxLen at hsz
          obtain ⟨q, o, rfl, hq, hcell⟩ := hRS.cells (by omega)
          have e0 := hcell j hlj
          obtain ⟨x, hx⟩ : ∃ x, sAt ks j = x := ⟨_, rfl⟩
          rw [show ks.getD j ByteArray.empty = x from hx] at e0
          rw [hx] at hsz
          have HX := Lib.hid hx
          clear hx hcell hRS
          by_cases hbig : x.size ≤ 2000
          · go_wp2
            go_roundw
            case rel =>
              refine ⟨j + 1, by omega, by go_num, fun i hi => ?_, trivial⟩
              rcases Nat.lt_or_ge i j with h | h
              · exact HPR2.out i h
              · obtain rfl : i = j := by omega
                rw [HX.out]; exact hbig
            case measure => simp [intOf]; omega
          · go_wp2
            go_ret
            exact ⟨.inl rfl, HBL.out⟩
        · obtain rfl : j = kl := by omega
          have hfew : (⟨leaf, ps, ks, cs⟩ : Nd).Few 200 :=
            ⟨by show ps.length ≤ 200; rw [HPL.out]; omega, by show ks.length ≤ 200; rw [HKL.out]; omega, by show cs.length ≤ 200; rw [HCL.out]; omega, fun p hp => by
              obtain ⟨i, hi, rfl⟩ := List.getElem_of_mem hp
              rw [← pAt_get ps i hi]
              exact HPR.out i (by rw [← HPL.out]; exact hi), fun p hp => by
              obtain ⟨i, hi, rfl⟩ := List.getElem_of_mem hp
              rw [← sAt_get ks i hi]
              exact HPR2.out i (by rw [← HKL.out]; exact hi)⟩
          have HFEW := Lib.hid hfew
          clear hfew
          go_wp2
          go_ret
          exact ⟨.inr ⟨rfl, HFEW.out⟩, HBL.out⟩
end Go.Proofs.Ytedhcohpcdkgnaa
