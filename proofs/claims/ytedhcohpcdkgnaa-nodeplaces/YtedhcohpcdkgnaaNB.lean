/- Where a key stands, the document's answer. Conditions: none. -/
import Derived.Test.YtedhcohpcdkgnaaN9
namespace Go.Bs
/-- what the document's Place tells. -/
def rPlaceR (N : Nd) (key : ByteArray) (v : Value) : Prop :=
  if N.leaf then ∃ k, FstP N.ps key k ∧ v = .tuple #[.int .i64 (k : Int), .bool (isP N.ps key k)]
  else ∃ k, FstS N.ks key k ∧ v = .tuple #[.int .i64 (k : Int), .bool (decide (0 < k) && (sAt N.ks (k - 1)).toList == key.toList)]
theorem place_same {N : Nd} {key : ByteArray} {v v' : Value} (h : Go.Proofs.Ytedhcohpcdkgnaa.PlaceR N key v) (h' : rPlaceR N key v') (hr : N.leaf = false → RiseS N.ks) : v = v' := by
  unfold Go.Proofs.Ytedhcohpcdkgnaa.PlaceR at h
  unfold rPlaceR at h'
  cases hl : N.leaf
  · rw [hl] at h h'
    simp only [Bool.false_eq_true, if_false] at h h'
    obtain ⟨k, hk, rfl⟩ := h'
    obtain ⟨e1, e2⟩ := hk.cnt (hr hl)
    rw [h, e1, e2]
  · rw [hl] at h h'
    simp only [if_true] at h h'
    obtain ⟨k, hk, rfl⟩ := h
    obtain ⟨j, hj, rfl⟩ := h'
    rw [hk.eq hj]
end Go.Bs
namespace Go.Proofs.Ytedhcohpcdkgnaa
open Go.RowKit Go.Bs

set_option maxHeartbeats 4000000 in
theorem rPlace_any (w : World) (h : Hd) (N : Nd) (H : NdAt w h N) (hF : N.Few 7000) (key : ByteArray) :
    Calls Try.prog 23 #[nv h N.leaf, .string key] w fun e w' => (∃ v, e = .returned v ∧ rPlaceR N key v) ∧ Below w.heap.size w w' := by
  have HH := Lib.hid H
  have HF := Lib.hid hF
  obtain ⟨leaf, ps, ks, cs⟩ := N
  obtain ⟨pA, pl, pc, kA, kl, kc, cA, cl, cc⟩ := h
  have hpl : ps.length = pl := H.p.len
  have hkl : ks.length = kl := H.k.len
  have hcl : cs.length = cl := H.c.len
  have hpc : pl ≤ pc := H.p.cap
  have hkc : kl ≤ kc := H.k.cap
  have hcc : cl ≤ cc := H.c.cap
  have hp := hF.p
  have hk := hF.k
  have hc := hF.c
  simp only at hp hk hc
  rw [hpl] at hp
  rw [hkl] at hk
  rw [hcl] at hc
  clear hF
  have HPL := Lib.hid hpl
  have HKL := Lib.hid hkl
  have HCL := Lib.hid hcl
  clear H hpl hkl hcl
  obtain ⟨g, hg⟩ : ∃ g, w.heap.size = g := ⟨_, rfl⟩
  have HG := Lib.hid hg
  obtain ⟨W, hW⟩ : ∃ W, w.alloc (.cells (ncs ⟨pA, pl, pc, kA, kl, kc, cA, cl, cc⟩ leaf) 26) = W := ⟨_, rfl⟩
  have hbx : Bx W g ⟨pA, pl, pc, kA, kl, kc, cA, cl, cc⟩ leaf := by rw [← hW, ← hg]; exact Bx.new _ _ _
  have hbw : Below g w W := by rw [← hW, ← hg]; exact (Below.refl _ _).alloc (Nat.le_refl _) _
  obtain ⟨c0, c1, c2, c3⟩ := hbx.cells
  have HBX := Lib.hid hbx
  have HBW := Lib.hid hbw
  clear hbx hbw
  simp only [nv]
  rw [hg]
  have hbw2 : Below w.heap.size w W := by rw [HG.out]; exact HBW.out
  have HP := Lib.hid (HH.out.p.keep hbw2)
  have HK := Lib.hid (HH.out.k.keep hbw2)
  clear hbw2
  simp only at HP HK
  cases leaf with
  | true =>
    go_enter Try.func23, Try.ntmps23
    go_wp2
    go_loop [6] (fun i => ∃ k : Nat, k ≤ pl ∧ i = .int .i64 k ∧ (∀ j, j < k → slt (pAt ps j).1 key = true)) (fun i => pl - (intOf i).toNat)
    case atStart => exact ⟨0, Nat.zero_le _, rfl, fun j hj => absurd hj (by omega)⟩
    case round =>
      obtain ⟨k, hk1, rfl, hpr⟩ := hrel
      have HPR := Lib.hid hpr
      clear hpr
      by_cases hlt : k < pl
      · obtain ⟨q, o, rfl, hq, hcell⟩ := HP.out.cells (by omega)
        obtain ⟨e0, e1⟩ := hcell k hlt
        obtain ⟨x, hx⟩ : ∃ x, (pAt ps k).1 = x := ⟨_, rfl⟩
        rw [hx] at e0
        have HX := Lib.hid hx
        clear hx hcell e1
        cases h1 : slt x key with
        | true =>
          go_wp2
          go_round
          case rel =>
            refine ⟨k + 1, by omega, by go_num, fun j hj => ?_⟩
            rcases Nat.lt_or_ge j k with h | h
            · exact HPR.out j h
            · obtain rfl : j = k := by omega
              rw [HX.out]; exact h1
          case measure => simp [intOf]; omega
        | false =>
          have HF1 : Hid (FstP ps key k) := ⟨by rw [HPL.out]; omega, HPR.out, fun _ => by rw [HX.out]; exact h1⟩
          have hisp : isP ps key k = (x.toList == key.toList) := by
            unfold isP
            rw [decide_eq_true (by rw [HPL.out]; exact hlt), HX.out]; rfl
          have HIS := Lib.hid hisp
          clear hisp
          go_wp2_with fail
          go_quiet (fail)
          go_wp2
          go_ret2
          exact ⟨⟨_, rfl, k, HF1.out, by rw [HIS.out]; rfl⟩, below_drewN HBW.out _⟩
      · obtain rfl : k = pl := by omega
        have HF1 : Hid (FstP ps key k) := ⟨by rw [HPL.out]; omega, HPR.out, fun h => by rw [HPL.out] at h; omega⟩
        have hisp : isP ps key k = false := by
          unfold isP
          rw [decide_eq_false (by rw [HPL.out]; omega)]; rfl
        have HIS := Lib.hid hisp
        clear hisp
        go_wp2_with fail
        go_quiet (fail)
        go_wp2
        go_ret2
        exact ⟨⟨_, rfl, k, HF1.out, by rw [HIS.out]; rfl⟩, below_drewN HBW.out _⟩
  | false =>
    go_enter Try.func23, Try.ntmps23
    go_wp2
    go_loop [7] (fun i => ∃ k : Nat, k ≤ kl ∧ i = .int .i64 k ∧ (∀ j, j < k → sle (sAt ks j) key = true)) (fun i => kl - (intOf i).toNat)
    case atStart => exact ⟨0, Nat.zero_le _, rfl, fun j hj => absurd hj (by omega)⟩
    case round =>
      obtain ⟨k, hk1, rfl, hpr⟩ := hrel
      have HPR := Lib.hid hpr
      clear hpr
      by_cases hlt : k < kl
      · obtain ⟨q, o, rfl, hq, hcell⟩ := HK.out.cells (by omega)
        have e0 := hcell k hlt
        obtain ⟨x, hx⟩ : ∃ x, sAt ks k = x := ⟨_, rfl⟩
        rw [show ks.getD k ByteArray.empty = x from hx] at e0
        have HX := Lib.hid hx
        clear hx
        cases h1 : sle x key with
        | true =>
          clear hcell
          go_wp2
          go_round
          case rel =>
            refine ⟨k + 1, by omega, by go_num, fun j hj => ?_⟩
            rcases Nat.lt_or_ge j k with h | h
            · exact HPR.out j h
            · obtain rfl : j = k := by omega
              rw [HX.out]; exact h1
          case measure => simp [intOf]; omega
        | false =>
          have HF1 : Hid (FstS ks key k) := ⟨by rw [HKL.out]; omega, HPR.out, fun _ => by rw [HX.out]; exact h1⟩
          by_cases hk0 : 0 < k
          · have f0 := hcell (k - 1) (by omega)
            obtain ⟨y, hy⟩ : ∃ y, sAt ks (k - 1) = y := ⟨_, rfl⟩
            rw [show ks.getD (k - 1) ByteArray.empty = y from hy] at f0
            have q1 : IntKind.i64.wrap ((k : Int) - 1) = ((k - 1 : Nat) : Int) := by rw [IntWalk.i64_in _ (by omega)]; omega
            have hd : (decide (0 < k) && (sAt ks (k - 1)).toList == key.toList) = (y.toList == key.toList) := by rw [decide_eq_true hk0, hy]; rfl
            have HD := Lib.hid hd
            clear hd hy hcell
            go_wp2_with fail
            go_quiet (fail)
            go_wp2
            go_ret2
            exact ⟨⟨_, rfl, k, HF1.out, by rw [HD.out]; rfl⟩, below_drewN HBW.out _⟩
          · have hd : (decide (0 < k) && (sAt ks (k - 1)).toList == key.toList) = false := by rw [decide_eq_false hk0]; rfl
            have HD := Lib.hid hd
            have HK0 := Lib.hid hk0
            clear hd hk0 hcell
            go_wp2_with fail
            have hk0 := HK0.out
            go_quiet (fail)
            go_wp2
            go_ret2
            exact ⟨⟨_, rfl, k, HF1.out, by rw [HD.out]; rfl⟩, below_drewN HBW.out _⟩
      · obtain rfl : k = kl := by omega
        have HF1 : Hid (FstS ks key k) := ⟨by rw [HKL.out]; omega, HPR.out, fun h => by rw [HKL.out] at h; omega⟩
        by_cases hk0 : 0 < k
        · obtain ⟨q, o, rfl, hq, hcell⟩ := HK.out.cells (by omega)
          have f0 := hcell (k - 1) (by omega)
          obtain ⟨y, hy⟩ : ∃ y, sAt ks (k - 1) = y := ⟨_, rfl⟩
          rw [show ks.getD (k - 1) ByteArray.empty = y from hy] at f0
          have q1 : IntKind.i64.wrap ((k : Int) - 1) = ((k - 1 : Nat) : Int) := by rw [IntWalk.i64_in _ (by omega)]; omega
          have hd : (decide (0 < k) && (sAt ks (k - 1)).toList == key.toList) = (y.toList == key.toList) := by rw [decide_eq_true hk0, hy]; rfl
          have HD := Lib.hid hd
          clear hd hy hcell
          go_wp2_with fail
          go_quiet (fail)
          go_wp2
          go_ret2
          exact ⟨⟨_, rfl, k, HF1.out, by rw [HD.out]; rfl⟩, below_drewN HBW.out _⟩
        · have hd : (decide (0 < k) && (sAt ks (k - 1)).toList == key.toList) = false := by rw [decide_eq_false hk0]; rfl
          have HD := Lib.hid hd
          have HK0 := Lib.hid hk0
          clear hd hk0
          go_wp2_with fail
          have hk0 := HK0.out
          go_quiet (fail)
          go_wp2
          go_ret2
          exact ⟨⟨_, rfl, k, HF1.out, by rw [HD.out]; rfl⟩, below_drewN HBW.out _⟩
end Go.Proofs.Ytedhcohpcdkgnaa
