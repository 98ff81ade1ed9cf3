/- The document's size of a node. Conditions: none. -/
import Derived.Test.YtedhcohpcdkgnaaN1
namespace Go.Proofs.Ytedhcohpcdkgnaa
open Go.RowKit Go.Bs

set_option maxHeartbeats 4000000 in
theorem rSize_any (w : World) (h : Hd) (N : Nd) (H : NdAt w h N) (hF : N.Few 7000) :
    Calls Try.prog 14 #[nv h N.leaf] w fun e w' => e = .returned (.int .i64 (N.size : Int)) ∧ Below w.heap.size w w' := by
  obtain ⟨R, hR⟩ : ∃ R, N.size = R := ⟨_, rfl⟩
  have HR := Lib.hid hR
  rw [hR]
  clear hR
  have HH := Lib.hid H
  have HF := Lib.hid hF
  obtain ⟨leaf, ps, ks, cs⟩ := N
  obtain ⟨pA, pl, pc, kA, kl, kc, cA, cl, cc⟩ := h
  have hpl : ps.length = pl := H.p.len
  have hkl : ks.length = kl := H.k.len
  have hcl : cs.length = cl := H.c.len
  have hpc : pl ≤ pc := H.p.cap
  have hkc : kl ≤ kc := H.k.cap
  have hcc : cl ≤ cc := H.c.cap
  have hp := hF.p
  have hk := hF.k
  have hc := hF.c
  simp only at hp hk hc
  rw [hpl] at hp
  rw [hkl] at hk
  rw [hcl] at hc
  clear hF
  have HPL := Lib.hid hpl
  have HKL := Lib.hid hkl
  have HCL := Lib.hid hcl
  clear H hpl hkl hcl
  obtain ⟨g, hg⟩ : ∃ g, w.heap.size = g := ⟨_, rfl⟩
  have HG := Lib.hid hg
  obtain ⟨W, hW⟩ : ∃ W, w.alloc (.cells (ncs ⟨pA, pl, pc, kA, kl, kc, cA, cl, cc⟩ leaf) 26) = W := ⟨_, rfl⟩
  have hbx : Bx W g ⟨pA, pl, pc, kA, kl, kc, cA, cl, cc⟩ leaf := by rw [← hW, ← hg]; exact Bx.new _ _ _
  have hbw : Below g w W := by rw [← hW, ← hg]; exact (Below.refl _ _).alloc (Nat.le_refl _) _
  obtain ⟨c0, c1, c2, c3⟩ := hbx.cells
  have HBX := Lib.hid hbx
  have HBW := Lib.hid hbw
  clear hbx hbw
  simp only [nv]
  rw [hg]
  have HB1 : Hid (∀ k, psum (ps.take k) ≤ 2002 * 7000) := fun k => psum_take_le ps 7000 k HF.out.p HF.out.sp
  have HB2 : Hid (∀ k, ssum (ks.take k) ≤ 2001 * 7000) := fun k => ssum_take_le ks 7000 k HF.out.k HF.out.sk
  go_enter Try.func14, Try.ntmps14
  go_wp2
  go_loopw [3, 4] (fun s i wr => ∃ k : Nat, k ≤ pl ∧ i = .int .i64 k ∧ s = .int .i64 ((3 + 3 * cl + psum (ps.take k) : Nat) : Int) ∧ Bx wr g ⟨pA, pl, pc, kA, kl, kc, cA, cl, cc⟩ leaf ∧ Below g w wr) (fun _ i _ => pl - (intOf i).toNat)
  case atStart => exact ⟨0, Nat.zero_le _, rfl, by simp [psum], HBX.out, HBW.out⟩
  case round =>
    obtain ⟨k, hk1, rfl, rfl, hbx, hbl⟩ := hrel
    have hgs := hbl.size
    rw [HG.out] at hgs
    obtain ⟨d0, d1, d2, d3⟩ := hbx.cells
    have HBX2 := Lib.hid hbx
    have HBL := Lib.hid hbl
    clear hbx hbl
    obtain ⟨m, hm⟩ : ∃ m, 3 + 3 * cl + psum (ps.take k) = m := ⟨_, rfl⟩
    have hm1 : m ≤ 3 + 3 * 7000 + 2002 * 7000 := by have := HB1.out k; omega
    rw [hm]
    have HM := Lib.hid hm
    clear hm
    by_cases hlt : k < pl
    · have HST := Lib.hid (psum_step ps k (by rw [HPL.out]; exact hlt))
      have hRP : RdP wr pA pl pc ps := HH.out.p.keep (by rw [HG.out]; exact HBL.out)
      have hsz := HF.out.sp (pAt ps k) (pAt_mem ps k (by rw [HPL.out]; exact hlt))
      obtain ⟨q, o, rfl, hq, hcell⟩ := hRP.cells (by omega)
      obtain ⟨e0, e1⟩ := hcell k hlt
      obtain ⟨x, hx⟩ : ∃ x, (pAt ps k).1 = x := ⟨_, rfl⟩
      obtain ⟨y, hy⟩ : ∃ y, (pAt ps k).2 = y := ⟨_, rfl⟩
      rw [hx] at HST hsz e0
      rw [hy] at HST hsz e1
      have q1 : IntKind.i64.wrap ((m : Int) + 2) = (m : Int) + 2 := IntWalk.i64_in _ (by omega)
      have q2 : IntKind.i64.wrap ((m : Int) + 2 + (x.size : Int)) = (m : Int) + 2 + (x.size : Int) := IntWalk.i64_in _ (by omega)
      have q3 : IntKind.i64.wrap ((m : Int) + 2 + (x.size : Int) + (y.size : Int)) = (m : Int) + 2 + (x.size : Int) + (y.size : Int) := IntWalk.i64_in _ (by omega)
      clear hx hy hcell hRP
      go_wp2_with fail
      go_quiet (fail)
      go_wp2
      go_roundw
      case rel => exact ⟨k + 1, by omega, by go_num, by rw [HST.out, ← Nat.add_assoc, HM.out]; congr 1; omega, HBX2.out, below_drewN HBL.out _⟩
      case measure => simp [intOf]; omega
    · obtain rfl : k = pl := by omega
      have hall : 3 + 3 * cl + psum ps = m := by rw [← HM.out, ← HPL.out, List.take_length]
      have HALL := Lib.hid hall
      clear hall
      go_wp2
      go_loopw [3, 5] (fun s i wv => ∃ j : Nat, j ≤ kl ∧ i = .int .i64 j ∧ s = .int .i64 ((m + ssum (ks.take j) : Nat) : Int) ∧ wv = wr) (fun _ i _ => kl - (intOf i).toNat)
      case atStart => exact ⟨0, Nat.zero_le _, rfl, by simp [ssum], rfl⟩
      case round =>
        obtain ⟨j, hj1, rfl, rfl, rfl⟩ := hrel
        obtain ⟨u, hu⟩ : ∃ u, ssum (ks.take j) = u := ⟨_, rfl⟩
        have hu1 := HB2.out j
        rw [hu] at hu1 ⊢
        have HU := Lib.hid hu
        clear hu
        by_cases hlj : j < kl
        · have HST := Lib.hid (ssum_step ks j (by rw [HKL.out]; exact hlj))
          have hRS : RdS wr kA kl kc ks := HH.out.k.keep (by rw [HG.out]; exact HBL.out)
          have hsz := HF.out.sk (sAt ks j) (sAt_mem ks j (by rw [HKL.out]; exact hlj))
          obtain ⟨q, o, rfl, hq, hcell⟩ := hRS.cells (by omega)
          have e0 := hcell j hlj
          obtain ⟨x, hx⟩ : ∃ x, ks.getD j ByteArray.empty = x := ⟨_, rfl⟩
          rw [hx] at e0
          rw [show sAt ks j = x from hx] at HST hsz
          clear hx hcell hRS
          go_wp2
          go_roundw
          case rel => exact ⟨j + 1, by omega, by go_num, by rw [HST.out, HU.out]; congr 1; omega, trivial⟩
          case measure => simp [intOf]; omega
        · obtain rfl : j = kl := by omega
          have hall2 : ssum ks = u := by rw [← HU.out, ← HKL.out, List.take_length]
          have hfin : m + u = R := by rw [← HR.out, ← HALL.out, ← hall2, ← HCL.out]; rfl
          have HFIN := Lib.hid hfin
          clear hall2 hfin
          go_wp2
          go_ret
          exact ⟨by rw [← HFIN.out]; rfl, HBL.out⟩
end Go.Proofs.Ytedhcohpcdkgnaa
