/- Whether a node may be. Conditions: none. -/
import Derived.Test.YtedhcohpcdkgnaaN2
import Derived.Test.YtedhcohpcdkgnaaN4
import Derived.Test.YtedhcohpcdkgnaaN6
namespace Go.Bs
open Go.RowKit
def Nd.fits (N : Nd) (most : Nat) : Bool :=
  if N.leaf then (N.ks.length == 0 && N.cs.length == 0) && allOk N.ps.length (badP most N.ps)
  else ((N.ps.length == 0 && allOk N.ks.length (badS most N.ks)) && N.cs.length == N.ks.length + 1) && allOk N.cs.length (badC N.cs)
def mostN (b : Nat) : Nat := (b - 16) / 4 - 4
def Nd.chk (N : Nd) (b : Int) : Int := if 64 ≤ b ∧ b ≤ 4096 then (if N.fits (mostN b.toNat) then (if b < (N.size : Int) then 2 else 0) else 1) else 1
theorem mostN_le (b : Nat) (h : b ≤ 4096) : mostN b ≤ 1100 := by unfold mostN; omega
end Go.Bs
namespace Go.Proofs.Ytedhcohpcdkgnaa
open Go.RowKit Go.Bs

set_option maxHeartbeats 4000000 in
theorem listsFit_any (w : World) (h : Hd) (N : Nd) (H : NdAt w h N) (hF : N.Few 7000) (most : Nat) (hm : most ≤ 1100) :
    Calls Try.prog 24 #[nv h N.leaf, .int .i64 (most : Int)] w fun e w' => e = .returned (.bool (N.fits most)) ∧ Below w.heap.size w w' := by
  obtain ⟨R, hR⟩ : ∃ R, N.fits most = R := ⟨_, rfl⟩
  have HR := Lib.hid hR
  rw [hR]
  clear hR
  have HH := Lib.hid H
  have HF := Lib.hid hF
  obtain ⟨leaf, ps, ks, cs⟩ := N
  obtain ⟨pA, pl, pc, kA, kl, kc, cA, cl, cc⟩ := h
  have hpl : ps.length = pl := H.p.len
  have hkl : ks.length = kl := H.k.len
  have hcl : cs.length = cl := H.c.len
  have hpc : pl ≤ pc := H.p.cap
  have hkc : kl ≤ kc := H.k.cap
  have hcc : cl ≤ cc := H.c.cap
  have hp := hF.p
  have hk := hF.k
  have hc := hF.c
  simp only at hp hk hc
  rw [hpl] at hp
  rw [hkl] at hk
  rw [hcl] at hc
  clear hF
  have HPL := Lib.hid hpl
  have HKL := Lib.hid hkl
  have HCL := Lib.hid hcl
  clear H hpl hkl hcl
  obtain ⟨g, hg⟩ : ∃ g, w.heap.size = g := ⟨_, rfl⟩
  have HG := Lib.hid hg
  obtain ⟨W, hW⟩ : ∃ W, w.alloc (.cells (ncs ⟨pA, pl, pc, kA, kl, kc, cA, cl, cc⟩ leaf) 26) = W := ⟨_, rfl⟩
  have hbx : Bx W g ⟨pA, pl, pc, kA, kl, kc, cA, cl, cc⟩ leaf := by rw [← hW, ← hg]; exact Bx.new _ _ _
  have hbw : Below g w W := by rw [← hW, ← hg]; exact (Below.refl _ _).alloc (Nat.le_refl _) _
  obtain ⟨c0, c1, c2, c3⟩ := hbx.cells
  have HBX := Lib.hid hbx
  have HBW := Lib.hid hbw
  clear hbx hbw
  simp only [nv]
  rw [hg]
  have hbw2 : Below w.heap.size w W := by rw [HG.out]; exact HBW.out
  have HP1 := Lib.hid (pairsFit_any W pA pl pc ps (HH.out.p.keep hbw2) hp most hm)
  have HP2 := Lib.hid (keysFit_any W kA kl kc ks (HH.out.k.keep hbw2) hk most hm)
  have HP3 := Lib.hid (childrenFit_any W cA cl cc cs (HH.out.c.keep hbw2) hc)
  have hWg : g ≤ W.heap.size := by have := HBW.out.size; rw [HG.out] at this; exact this
  clear hbw2
  cases leaf with
  | true =>
    have hRR : R = ((kl == 0 && cl == 0) && allOk pl (badP most ps)) := by rw [← HR.out, ← HPL.out, ← HKL.out, ← HCL.out]; rfl
    by_cases h1 : kl = 0
    · by_cases h2 : cl = 0
      · subst h1 h2
        have HRR := Lib.hid hRR
        clear hRR
        go_enter Try.func24, Try.ntmps24
        go_wp2_with fail
        refine HP1.out.mono ?_
        rintro e w1 ⟨rfl, hb1⟩
        obtain ⟨b, hb⟩ : ∃ b, allOk pl (badP most ps) = b := ⟨_, rfl⟩
        rw [hb] at HRR ⊢
        have HB := Lib.hid (HBW.out.trans (hb1.mono hWg))
        clear hb hb1 HP1
        cases b
        · go_wp2
          go_ret
          exact ⟨by rw [HRR.out]; rfl, HB.out⟩
        · go_wp2
          go_ret
          exact ⟨by rw [HRR.out]; rfl, HB.out⟩
      · subst h1
        have f2 : ((cl : Int) == 0) = false := by simp; omega
        have HRR : Hid (R = false) := by show R = false; rw [hRR]; simp [h2]
        clear hRR
        go_enter Try.func24, Try.ntmps24
        go_wp2
        go_ret
        exact ⟨by rw [HRR.out]; rfl, HBW.out⟩
    · have f2 : ((kl : Int) == 0) = false := by simp; omega
      have HRR : Hid (R = false) := by show R = false; rw [hRR]; simp [h1]
      clear hRR
      go_enter Try.func24, Try.ntmps24
      go_wp2
      go_ret
      exact ⟨by rw [HRR.out]; rfl, HBW.out⟩
  | false =>
    have hRR : R = (((pl == 0 && allOk kl (badS most ks)) && cl == kl + 1) && allOk cl (badC cs)) := by rw [← HR.out, ← HPL.out, ← HKL.out, ← HCL.out]; rfl
    by_cases h1 : pl = 0
    · subst h1
      obtain ⟨b, hb⟩ : ∃ b, allOk kl (badS most ks) = b := ⟨_, rfl⟩
      rw [hb] at hRR HP2
      clear hb
      cases b
      · have HRR : Hid (R = false) := by show R = false; rw [hRR]; simp
        clear hRR
        go_enter Try.func24, Try.ntmps24
        go_wp2_with fail
        refine HP2.out.mono ?_
        rintro e w1 ⟨rfl, rfl⟩
        go_wp2
        go_ret
        exact ⟨by rw [HRR.out]; rfl, HBW.out⟩
      · by_cases h2 : cl = kl + 1
        · subst h2
          obtain ⟨b, hb⟩ : ∃ b, allOk (kl + 1) (badC cs) = b := ⟨_, rfl⟩
          rw [hb] at hRR HP3
          have HRR : Hid (R = b) := by show R = b; rw [hRR]; simp
          clear hb hRR
          go_enter Try.func24, Try.ntmps24
          go_wp2_with fail
          refine HP2.out.mono ?_
          rintro e w1 ⟨rfl, rfl⟩
          go_wp2_with fail
          refine HP3.out.mono ?_
          rintro e w2 ⟨rfl, rfl⟩
          go_wp2
          go_ret
          exact ⟨by rw [HRR.out]; rfl, HBW.out⟩
        · have f2 : ((cl : Int) == (kl : Int) + 1) = false := by simp; omega
          have HRR : Hid (R = false) := by show R = false; rw [hRR]; simp [h2]
          clear hRR
          go_enter Try.func24, Try.ntmps24
          go_wp2_with fail
          refine HP2.out.mono ?_
          rintro e w1 ⟨rfl, rfl⟩
          go_wp2
          go_ret
          exact ⟨by rw [HRR.out]; rfl, HBW.out⟩
    · have f2 : ((pl : Int) == 0) = false := by simp; omega
      have HRR : Hid (R = false) := by show R = false; rw [hRR]; simp [h1]
      clear hRR
      go_enter Try.func24, Try.ntmps24
      go_wp2
      go_ret
      exact ⟨by rw [HRR.out]; rfl, HBW.out⟩

set_option maxHeartbeats 4000000 in
theorem Check_any (w : World) (h : Hd) (N : Nd) (H : NdAt w h N) (hF : N.Few 7000) (b : Int) :
    Calls Try.prog 10 #[nv h N.leaf, .int .i64 b] w fun e w' => e = .returned (.int .i64 (N.chk b)) ∧ Below w.heap.size w w' := by
  obtain ⟨R, hR⟩ : ∃ R, N.chk b = R := ⟨_, rfl⟩
  have HR := Lib.hid hR
  rw [hR]
  clear hR
  have HH := Lib.hid H
  have HF := Lib.hid hF
  obtain ⟨leaf, ps, ks, cs⟩ := N
  obtain ⟨pA, pl, pc, kA, kl, kc, cA, cl, cc⟩ := h
  have hpl : ps.length = pl := H.p.len
  have hkl : ks.length = kl := H.k.len
  have hcl : cs.length = cl := H.c.len
  have hpc : pl ≤ pc := H.p.cap
  have hkc : kl ≤ kc := H.k.cap
  have hcc : cl ≤ cc := H.c.cap
  have hp := hF.p
  have hk := hF.k
  have hc := hF.c
  simp only at hp hk hc
  rw [hpl] at hp
  rw [hkl] at hk
  rw [hcl] at hc
  clear hF
  have HPL := Lib.hid hpl
  have HKL := Lib.hid hkl
  have HCL := Lib.hid hcl
  clear H hpl hkl hcl
  obtain ⟨g, hg⟩ : ∃ g, w.heap.size = g := ⟨_, rfl⟩
  have HG := Lib.hid hg
  obtain ⟨W, hW⟩ : ∃ W, w.alloc (.cells (ncs ⟨pA, pl, pc, kA, kl, kc, cA, cl, cc⟩ leaf) 26) = W := ⟨_, rfl⟩
  have hbx : Bx W g ⟨pA, pl, pc, kA, kl, kc, cA, cl, cc⟩ leaf := by rw [← hW, ← hg]; exact Bx.new _ _ _
  have hbw : Below g w W := by rw [← hW, ← hg]; exact (Below.refl _ _).alloc (Nat.le_refl _) _
  obtain ⟨c0, c1, c2, c3⟩ := hbx.cells
  have HBX := Lib.hid hbx
  have HBW := Lib.hid hbw
  clear hbx hbw
  simp only [nv]
  rw [hg]
  have hbw2 : Below w.heap.size w W := by rw [HG.out]; exact HBW.out
  have hWg : g ≤ W.heap.size := by have := HBW.out.size; rw [HG.out] at this; exact this
  by_cases hin : 64 ≤ b ∧ b ≤ 4096
  · obtain ⟨n, rfl⟩ := Int.eq_ofNat_of_zero_le (show 0 ≤ b by omega)
    have hn1 : 64 ≤ n := by omega
    have hn2 : n ≤ 4096 := by omega
    have hm := Lib.hid (Most_yes n hn1 hn2 W)
    rw [show (n - 16) / 4 - 4 = mostN n from rfl] at hm
    have hR2 : (if (⟨leaf, ps, ks, cs⟩ : Nd).fits (mostN n) then (if (n : Int) < ((⟨leaf, ps, ks, cs⟩ : Nd).size : Int) then 2 else 0) else 1) = R := by
      rw [← HR.out, Nd.chk, if_pos hin]; rfl
    have HL := Lib.hid (listsFit_any W ⟨pA, pl, pc, kA, kl, kc, cA, cl, cc⟩ ⟨leaf, ps, ks, cs⟩ (HH.out.keep hbw2) HF.out (mostN n) (mostN_le n hn2))
    have hm2 := mostN_le n hn2
    obtain ⟨M, hM⟩ : ∃ M, mostN n = M := ⟨_, rfl⟩
    rw [hM] at hm hR2 HL hm2
    obtain ⟨f, hf⟩ : ∃ f, (⟨leaf, ps, ks, cs⟩ : Nd).fits M = f := ⟨_, rfl⟩
    rw [hf] at hR2 HL
    obtain ⟨S, hS⟩ : ∃ S, (⟨leaf, ps, ks, cs⟩ : Nd).size = S := ⟨_, rfl⟩
    rw [hS] at hR2
    have HS := Lib.hid hS
    simp only [nv, ncs] at HL
    clear hM hf hin hbw2 hS
    cases f
    · have HRR : Hid (R = 1) := hR2.symm
      clear hR2
      go_enter Try.func10, Try.ntmps10
      go_wp2_with fail
      refine hm.out.mono ?_
      rintro e w1 ⟨rfl, rfl⟩
      go_wp2_with fail
      refine HL.out.mono ?_
      rintro e w1 ⟨rfl, hb1⟩
      have HB := Lib.hid (HBW.out.trans (hb1.mono hWg))
      clear hb1
      go_wp2
      go_ret
      exact ⟨by rw [HRR.out]; rfl, HB.out⟩
    · have HR3 := Lib.hid hR2
      clear hR2
      go_enter Try.func10, Try.ntmps10
      go_wp2_with fail
      refine hm.out.mono ?_
      rintro e w1 ⟨rfl, rfl⟩
      go_wp2_with fail
      refine HL.out.mono ?_
      rintro e w1 ⟨rfl, hb1⟩
      have hbx1 : Bx w1 g ⟨pA, pl, pc, kA, kl, kc, cA, cl, cc⟩ leaf := HBX.out.keep hb1
      obtain ⟨d0, d1, d2, d3⟩ := hbx1.cells
      have HB := Lib.hid (HBW.out.trans (hb1.mono hWg))
      have hg1 : g ≤ w1.heap.size := Nat.le_trans hWg hb1.size
      have HSZ := Lib.hid (Size_any w1 ⟨pA, pl, pc, kA, kl, kc, cA, cl, cc⟩ ⟨leaf, ps, ks, cs⟩ (HH.out.keep (by rw [HG.out]; exact HB.out)) HF.out)
      rw [HS.out] at HSZ
      simp only [nv, ncs] at HSZ
      clear hb1 hbx1
      go_wp2_with fail
      refine HSZ.out.mono ?_
      rintro e w2 ⟨rfl, hb2⟩
      have HB2 := Lib.hid (HB.out.trans (hb2.mono hg1))
      clear hb2 HSZ HL
      by_cases hlt : (n : Int) < (S : Int)
      · have HRR : Hid (R = 2) := by have := HR3.out; rw [if_pos trivial, if_pos hlt] at this; exact this.symm
        clear HR3
        go_wp2
        go_ret
        exact ⟨by rw [HRR.out]; rfl, HB2.out⟩
      · have HRR : Hid (R = 0) := by have := HR3.out; rw [if_pos trivial, if_neg hlt] at this; exact this.symm
        clear HR3
        go_wp2
        go_ret
        exact ⟨by rw [HRR.out]; rfl, HB2.out⟩
  · have HRR : Hid (R = 1) := by have := HR.out; rw [Nd.chk, if_neg hin] at this; exact this.symm
    have HM := Lib.hid (Most_no b hin W)
    clear hin hbw2
    go_enter Try.func10, Try.ntmps10
    go_wp2_with fail
    refine HM.out.mono ?_
    rintro e w1 ⟨rfl, rfl⟩
    go_wp2
    go_ret
    exact ⟨by rw [HRR.out]; rfl, HBW.out⟩
end Go.Proofs.Ytedhcohpcdkgnaa
