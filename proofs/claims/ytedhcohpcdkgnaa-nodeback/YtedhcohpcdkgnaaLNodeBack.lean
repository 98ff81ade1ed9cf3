/-
  The statement 'NodeBack' (chandlerylaw08) holds at every input: the call returns true and leaves its arguments as they were. Conditions: none beyond the row's own.
-/
import Derived.Test.YtedhcohpcdkgnaaRows
import Derived.Test.YtedhcohpcdkgnaaArgN
import Derived.Deep.RegionHeld3
import Derived.Test.YtedhcohpcdkgnaaN3
import Derived.Test.YtedhcohpcdkgnaaNA
import Derived.Test.YtedhcohpcdkgnaaNL
import Derived.Test.YtedhcohpcdkgnaaNM
import Derived.WalkKit
import Derived.ProofKit
import Derived.OpenShut
import Derived.ChangeOld
import Derived.Below
namespace Go.Proofs.Ytedhcohpcdkgnaa.nodeBack
open Go.ChangeShapes Go.WideShapes Go.ChangeAt Go.RowKit Go.Bs 
open Go.ChangeMaps (open_string shut_string)
set_option linter.unusedVariables false

theorem own : ownKnob Try.prog.godebug = none := by kernel_rfl
theorem laidOut : laidOutB Try.prog = true := by kernel_rfl


set_option maxRecDepth 100000 in
set_option maxHeartbeats 4000000 in
theorem walk (h0 : Hd) (N0 : Nd) (a1 : Int) (a2 : Option Addr) (len2 cap2 : Nat) (w : World) (w0 : NdA w h0 N0) (w1 : (Lit.int .i64 a1).wf = true) (w2 : IsB w a2 len2 cap2) :
    Calls Try.prog 5 #[nv h0 N0.leaf, .int .i64 a1, .slice a2 len2 cap2] w fun e w' => e = .returned (.bool true) ∧ Below w.heap.size w w' := by
  have w0' := w0
  obtain ⟨leaf, ps, ks, cs⟩ := N0
  obtain ⟨pA, pl, pc, kA, kl, kc, cA, cl, cc⟩ := h0
  obtain ⟨hN, hpm, hkm, hcm⟩ := w0
  have HH := Lib.hid hN
  have HPL : Hid (ps.length = pl) := hN.p.len
  have HKL : Hid (ks.length = kl) := hN.k.len
  have HCL : Hid (cs.length = cl) := hN.c.len
  have hpc : pl ≤ pc := hN.p.cap
  have hkc : kl ≤ kc := hN.k.cap
  have hcc : cl ≤ cc := hN.c.cap
  simp only at hpm hkm hcm
  clear hN
  obtain ⟨g, hg⟩ : ∃ g, w.heap.size = g := ⟨_, rfl⟩
  have HG := Lib.hid hg
  obtain ⟨W, hW⟩ : ∃ W, w.alloc (.cells (ncs ⟨pA, pl, pc, kA, kl, kc, cA, cl, cc⟩ leaf) 26) = W := ⟨_, rfl⟩
  have hbx : Bx W g ⟨pA, pl, pc, kA, kl, kc, cA, cl, cc⟩ leaf := by rw [← hW, ← hg]; exact Bx.new _ _ _
  have hbw : Below g w W := by rw [← hW, ← hg]; exact (Below.refl _ _).alloc (Nat.le_refl _) _
  obtain ⟨c0, c1, c2, c3⟩ := hbx.cells
  have HBX := Lib.hid hbx
  have HBW := Lib.hid hbw
  have hWg : g ≤ W.heap.size := by have := hbw.size; rw [hg] at this; exact this
  have HFEW := Lib.hid (few_any W ⟨pA, pl, pc, kA, kl, kc, cA, cl, cc⟩ ⟨leaf, ps, ks, cs⟩ (HH.out.keep (by rw [HG.out]; exact hbw)) hpm hkm hcm)
  simp only [nv, ncs] at HFEW
  unfold maxLen at hpm hkm hcm
  clear hbx hbw
  simp only [nv]
  rw [hg]
  have b1 := bounds_i64 w1
  obtain ⟨hlb, bs, hRB⟩ := w2
  have HRB := Lib.hid hRB
  have HBL := Lib.hid hRB.len
  have hbcap := hRB.cap
  unfold maxLen at hlb
  clear w0' w1 hRB
  go_enter Try.func5, Try.ntmps5
  go_wp2_with fail
  refine HFEW.out.mono ?_
  rintro e w1 ⟨rfl | ⟨rfl, hfew⟩, hb1⟩
  · have HB1 := Lib.hid (HBW.out.trans (hb1.mono hWg))
    clear hb1 HFEW
    go_wp2
    go_ret
    exact ⟨rfl, HB1.out⟩
  have HB_w1 := Lib.hid (HBW.out.trans (hb1.mono hWg))
  have HX_w1 := Lib.hid (HBX.out.keep hb1)
  have hs_w1 : g ≤ w1.heap.size := Nat.le_trans hWg hb1.size
  have HN_w1 := Lib.hid (HH.out.keep (by rw [HG.out]; exact HB_w1.out))
  have HF7 := Lib.hid (hfew.mono (show 200 ≤ 7000 by omega))
  clear hb1 hfew HFEW c0 c1 c2 c3 hW
  by_cases hbig : 5000 < len2
  · go_wp2
    go_ret
    exact ⟨rfl, HB_w1.out⟩
  have hn5 : len2 ≤ 5000 := by omega
  obtain ⟨R, hR⟩ : ∃ R, Nd.chk ⟨leaf, ps, ks, cs⟩ a1 = R := ⟨_, rfl⟩
  have HR := Lib.hid hR
  by_cases hR0 : R = 0
  case neg =>
    have HC_w4 := Lib.hid (Bytes_no w1 ⟨pA, pl, pc, kA, kl, kc, cA, cl, cc⟩ ⟨leaf, ps, ks, cs⟩ HN_w1.out HF7.out a1 (by rw [hR]; exact hR0))
    simp only [nv, ncs] at HC_w4
    rw [hR] at HC_w4
    obtain ⟨d0, d1, d2, d3⟩ := HX_w1.out.cells
    go_wp2_with fail
    refine HC_w4.out.mono ?_
    rintro e w4 ⟨rfl, hb_w4⟩
    have HB_w4 := Lib.hid (HB_w1.out.trans (hb_w4.mono hs_w1))
    have hs_w4 : g ≤ w4.heap.size := Nat.le_trans hs_w1 hb_w4.size
    have HN_w4 := Lib.hid (HH.out.keep (by rw [HG.out]; exact HB_w4.out))
    have HX_w4 := Lib.hid (HX_w1.out.keep hb_w4)
    clear hb_w4 HC_w4 d0 d1 d2 d3
    have hR1 : (R == 0) = false := by simpa using hR0
    clear hR0 hR
    -- the second part: Parse(b)
    have HPB := Lib.hid (Parse_any w4 a2 len2 cap2 bs (HRB.out.keep (by rw [HG.out]; exact HB_w4.out)) hn5)
    go_wp2_with fail
    refine HPB.out.mono ?_
    rintro e p1 ⟨hpr, hb_p1⟩
    have HB_p1 := Lib.hid (HB_w4.out.trans (hb_p1.mono hs_w4))
    have hs_p1 : g ≤ p1.heap.size := Nat.le_trans hs_w4 hb_p1.size
    have HN_p1 := Lib.hid (HH.out.keep (by rw [HG.out]; exact HB_p1.out))
    have HX_p1 := Lib.hid (HX_w4.out.keep hb_p1)
    clear hb_p1 HPB
    rcases hpr with ⟨hok, hd2, rfl, hnd2⟩ | ⟨hno, rfl⟩
    · have hsnd := okP_sound hok
      have hfw2 := rdN_few bs (by rw [HBL.out]; exact hn5) hok.2.1
      obtain ⟨N2, hN2⟩ : ∃ N2, (rdN bs).1 = N2 := ⟨_, rfl⟩
      rw [hN2] at hsnd hfw2 hnd2 ⊢
      obtain ⟨hchk, hbody⟩ := hsnd
      rw [HBL.out] at hchk hbody
      obtain ⟨leaf2, ps2, ks2, cs2⟩ := N2
      obtain ⟨pA2, pl2, pc2, kA2, kl2, kc2, cA2, cl2, cc2⟩ := hd2
      obtain ⟨P1, hP1⟩ : ∃ P1, p1.alloc (.cells #[.bool leaf2, .slice pA2 pl2 pc2, .slice kA2 kl2 kc2, .slice cA2 cl2 cc2] 26) = P1 := ⟨_, rfl⟩
      have hbP : Below p1.heap.size p1 P1 := by rw [← hP1]; exact (Below.refl _ _).alloc (Nat.le_refl _) _
      have hxP : Bx P1 p1.heap.size ⟨pA2, pl2, pc2, kA2, kl2, kc2, cA2, cl2, cc2⟩ leaf2 := by rw [← hP1]; exact Bx.new p1 ⟨pA2, pl2, pc2, kA2, kl2, kc2, cA2, cl2, cc2⟩ leaf2
      have HB_P1 := Lib.hid (HB_p1.out.trans (hbP.mono hs_p1))
      have hs_P1 : g ≤ P1.heap.size := Nat.le_trans hs_p1 hbP.size
      obtain ⟨y, hy⟩ : ∃ y, p1.heap.size = y := ⟨_, rfl⟩
      rw [hy] at hxP
      obtain ⟨d0, d1, d2, d3⟩ := hxP.cells
      have HBY := Lib.hid (Bytes_yes P1 ⟨pA2, pl2, pc2, kA2, kl2, kc2, cA2, cl2, cc2⟩ ⟨leaf2, ps2, ks2, cs2⟩ (hnd2.keep hbP) hfw2 len2 hchk)
      rw [← hbody] at HBY
      simp only [nv, ncs] at HBY
      have HBODY := Lib.hid hbody
      simp only [nv, ncs]
      clear hok hfw2 hN2 hnd2 hchk hbody hbP hxP
      go_wp2_with fail
      refine HBY.out.mono ?_
      rintro e p2 ⟨⟨z, rfl, hzge, hblk⟩, hb_p2⟩
      have HB_p2 := Lib.hid (HB_P1.out.trans (hb_p2.mono hs_P1))
      have hs_p2 : g ≤ p2.heap.size := Nat.le_trans hs_P1 hb_p2.size
      have hrz := hblk.all' len2 len2 HBL.out (Nat.le_refl _)
      have HRZ := Lib.hid hrz
      clear hb_p2 hzge hblk hrz d0 d1 d2 d3 HBY
      go_wp2_with fail
      refine (awake_any p2).mono ?_
      rintro e p3 ⟨rfl, hb_p3⟩
      have HB_p3 := Lib.hid (HB_p2.out.trans (hb_p3.mono hs_p2))
      have cv1 := string_rd p3 _ _ _ _ (HRZ.out.keep hb_p3)
      have cv2 := string_rd p3 _ _ _ _ (HRB.out.keep (by rw [HG.out]; exact HB_p3.out))
      clear hb_p3
      go_wp2
      go_ret
      refine ⟨?_, HB_p3.out⟩
      simp
    · clear hno
      obtain ⟨P1, hP1⟩ : ∃ P1, p1.alloc (.cells #[.bool false, .slice none 0 0, .slice none 0 0, .slice none 0 0] 26) = P1 := ⟨_, rfl⟩
      have hbP : Below p1.heap.size p1 P1 := by rw [← hP1]; exact (Below.refl _ _).alloc (Nat.le_refl _) _
      have HB_P1 := Lib.hid (HB_p1.out.trans (hbP.mono hs_p1))
      have hs_P1 : g ≤ P1.heap.size := Nat.le_trans hs_p1 hbP.size
      simp only [nv, ncs, hd0]
      have HP1 := Lib.hid hP1
      clear hbP hP1
      go_wp2_with fail
      rw [HP1.out]
      refine (awake_any P1).mono ?_
      rintro e p3 ⟨rfl, hb_p3⟩
      have HB_p3 := Lib.hid (HB_P1.out.trans (hb_p3.mono hs_P1))
      clear hb_p3
      go_wp2
      go_ret
      exact ⟨rfl, HB_p3.out⟩
  subst hR0
  obtain ⟨hr1, hr2, hfit, hsz⟩ := chk_zero hR
  obtain ⟨n, rfl⟩ := Int.eq_ofNat_of_zero_le (show 0 ≤ a1 by omega)
  have hz0 := hR
  have hn1 : 64 ≤ n := by omega
  have hn2 : n ≤ 4096 := by omega
  have hbl := fits_body hfit
  obtain ⟨SZ, hSZ⟩ : ∃ SZ, Nd.size ⟨leaf, ps, ks, cs⟩ = SZ := ⟨_, rfl⟩
  rw [hSZ] at hsz hbl
  have hsz2 : SZ ≤ n := by omega
  have HSZE := Lib.hid hSZ
  have HBLN := Lib.hid hbl
  clear hr1 hr2 hR hfit hSZ hsz hbl
  have HC_w4 := Lib.hid (Bytes_yes w1 ⟨pA, pl, pc, kA, kl, kc, cA, cl, cc⟩ ⟨leaf, ps, ks, cs⟩ HN_w1.out HF7.out n hz0)
  simp only [nv, ncs] at HC_w4
  obtain ⟨d0, d1, d2, d3⟩ := HX_w1.out.cells
  go_wp2_with fail
  refine HC_w4.out.mono ?_
  rintro e w4 ⟨⟨z, rfl, hz4, hBk⟩, hb_w4⟩
  have HB_w4 := Lib.hid (HB_w1.out.trans (hb_w4.mono hs_w1))
  have hs_w4 : g ≤ w4.heap.size := Nat.le_trans hs_w1 hb_w4.size
  have HN_w4 := Lib.hid (HH.out.keep (by rw [HG.out]; exact HB_w4.out))
  have HX_w4 := Lib.hid (HX_w1.out.keep hb_w4)
  clear hb_w4 HC_w4 d0 d1 d2 d3
  obtain ⟨BDE, hBDE⟩ : ∃ BDE, (Nd.body ⟨leaf, ps, ks, cs⟩ ++ zeros (n - (Nd.body ⟨leaf, ps, ks, cs⟩).length)) = BDE := ⟨_, rfl⟩
  rw [hBDE] at hBk
  have hlen : BDE.length = n := by
    have := HBLN.out
    rw [← hBDE, List.length_append, zeros_length]; omega
  have hokn : okN BDE ⟨leaf, ps, ks, cs⟩ := ⟨by rw [hlen]; exact HR.out, by rw [hlen]; exact hBDE.symm⟩
  have hrd4 : Rd w4 (some ⟨z, 0, none⟩) n n BDE := hBk.all' n n hlen (Nat.le_refl _)
  have HPC := Lib.hid (Parse_any w4 _ n n BDE hrd4 (by omega))
  have HOKN := Lib.hid (okN_read hokn)
  clear hBk hlen hokn hrd4 hz4 hBDE hz0
  go_wp2_with fail
  refine HPC.out.mono ?_
  rintro e w5 ⟨hpr, hb_w5⟩
  have HB_w5 := Lib.hid (HB_w4.out.trans (hb_w5.mono hs_w4))
  have hs_w5 : g ≤ w5.heap.size := Nat.le_trans hs_w4 hb_w5.size
  have HN_w5 := Lib.hid (HH.out.keep (by rw [HG.out]; exact HB_w5.out))
  have HX_w5 := Lib.hid (HX_w4.out.keep hb_w5)
  clear hb_w5 HPC
  have hpr2 := hpr.resolve_right (fun h => h.1 HOKN.out.1)
  obtain ⟨_, hd2, rfl, hnd2⟩ := hpr2
  rw [HOKN.out.2] at hnd2 ⊢
  obtain ⟨pA2, pl2, pc2, kA2, kl2, kc2, cA2, cl2, cc2⟩ := hd2
  simp only [nv, ncs]
  obtain ⟨w6, hw6⟩ : ∃ w6, w5.alloc (.cells #[.bool leaf, .slice pA2 pl2 pc2, .slice kA2 kl2 kc2, .slice cA2 cl2 cc2] 26) = w6 := ⟨_, rfl⟩
  have hb_w6 : Below w5.heap.size w5 w6 := by rw [← hw6]; exact (Below.refl _ _).alloc (Nat.le_refl _) _
  have hx6 : Bx w6 w5.heap.size ⟨pA2, pl2, pc2, kA2, kl2, kc2, cA2, cl2, cc2⟩ leaf := by rw [← hw6]; exact Bx.new w5 ⟨pA2, pl2, pc2, kA2, kl2, kc2, cA2, cl2, cc2⟩ leaf
  obtain ⟨y5, hy5⟩ : ∃ y5, w5.heap.size = y5 := ⟨_, rfl⟩
  rw [hy5] at hx6
  obtain ⟨q0, q1, q2, q3⟩ := hx6.cells
  have hnd6 := hnd2.keep hb_w6
  have HB_w6 := Lib.hid (HB_w5.out.trans (hb_w6.mono hs_w5))
  have hs_w6 : g ≤ w6.heap.size := Nat.le_trans hs_w5 hb_w6.size
  have HN_w6 := Lib.hid (HH.out.keep (by rw [HG.out]; exact HB_w6.out))
  have HX_w6 := Lib.hid (HX_w5.out.keep hb_w6)
  clear hb_w6
  have HSA := Lib.hid (Same_any w6 ⟨pA2, pl2, pc2, kA2, kl2, kc2, cA2, cl2, cc2⟩ ⟨pA, pl, pc, kA, kl, kc, cA, cl, cc⟩ ⟨leaf, ps, ks, cs⟩ hnd6 HN_w6.out HF7.out)
  simp only [nv, ncs] at HSA
  obtain ⟨d0, d1, d2, d3⟩ := HX_w6.out.cells
  clear hpr hnd2 hx6 hnd6
  go_wp2_with fail
  refine HSA.out.mono ?_
  rintro e w7 ⟨rfl, hb_w7⟩
  clear d0 d1 d2 d3 q0 q1 q2 q3
  have HB_w7 := Lib.hid (HB_w6.out.trans (hb_w7.mono hs_w6))
  have hs_w7 : g ≤ w7.heap.size := Nat.le_trans hs_w6 hb_w7.size
  have HN_w7 := Lib.hid (HH.out.keep (by rw [HG.out]; exact HB_w7.out))
  have HX_w7 := Lib.hid (HX_w6.out.keep hb_w7)
  clear hb_w7 HSA
  have HC_w8 := Lib.hid (Size_any w7 ⟨pA, pl, pc, kA, kl, kc, cA, cl, cc⟩ ⟨leaf, ps, ks, cs⟩ HN_w7.out HF7.out)
  simp only [nv, ncs] at HC_w8
  rw [HSZE.out] at HC_w8
  obtain ⟨d0, d1, d2, d3⟩ := HX_w7.out.cells
  go_wp2_with fail
  refine HC_w8.out.mono ?_
  rintro e w8 ⟨rfl, hb_w8⟩
  have HB_w8 := Lib.hid (HB_w7.out.trans (hb_w8.mono hs_w7))
  have hs_w8 : g ≤ w8.heap.size := Nat.le_trans hs_w7 hb_w8.size
  have HN_w8 := Lib.hid (HH.out.keep (by rw [HG.out]; exact HB_w8.out))
  have HX_w8 := Lib.hid (HX_w7.out.keep hb_w8)
  clear hb_w8 HC_w8 d0 d1 d2 d3
  -- the second part: Parse(b)
  have HPB := Lib.hid (Parse_any w8 a2 len2 cap2 bs (HRB.out.keep (by rw [HG.out]; exact HB_w8.out)) hn5)
  go_wp2_with fail
  refine HPB.out.mono ?_
  rintro e p1 ⟨hpr, hb_p1⟩
  have HB_p1 := Lib.hid (HB_w8.out.trans (hb_p1.mono hs_w8))
  have hs_p1 : g ≤ p1.heap.size := Nat.le_trans hs_w8 hb_p1.size
  have HN_p1 := Lib.hid (HH.out.keep (by rw [HG.out]; exact HB_p1.out))
  have HX_p1 := Lib.hid (HX_w8.out.keep hb_p1)
  clear hb_p1 HPB
  rcases hpr with ⟨hok, hd2, rfl, hnd2⟩ | ⟨hno, rfl⟩
  · have hsnd := okP_sound hok
    have hfw2 := rdN_few bs (by rw [HBL.out]; exact hn5) hok.2.1
    obtain ⟨N2, hN2⟩ : ∃ N2, (rdN bs).1 = N2 := ⟨_, rfl⟩
    rw [hN2] at hsnd hfw2 hnd2 ⊢
    obtain ⟨hchk, hbody⟩ := hsnd
    rw [HBL.out] at hchk hbody
    obtain ⟨leaf2, ps2, ks2, cs2⟩ := N2
    obtain ⟨pA2, pl2, pc2, kA2, kl2, kc2, cA2, cl2, cc2⟩ := hd2
    obtain ⟨P1, hP1⟩ : ∃ P1, p1.alloc (.cells #[.bool leaf2, .slice pA2 pl2 pc2, .slice kA2 kl2 kc2, .slice cA2 cl2 cc2] 26) = P1 := ⟨_, rfl⟩
    have hbP : Below p1.heap.size p1 P1 := by rw [← hP1]; exact (Below.refl _ _).alloc (Nat.le_refl _) _
    have hxP : Bx P1 p1.heap.size ⟨pA2, pl2, pc2, kA2, kl2, kc2, cA2, cl2, cc2⟩ leaf2 := by rw [← hP1]; exact Bx.new p1 ⟨pA2, pl2, pc2, kA2, kl2, kc2, cA2, cl2, cc2⟩ leaf2
    have HB_P1 := Lib.hid (HB_p1.out.trans (hbP.mono hs_p1))
    have hs_P1 : g ≤ P1.heap.size := Nat.le_trans hs_p1 hbP.size
    obtain ⟨y, hy⟩ : ∃ y, p1.heap.size = y := ⟨_, rfl⟩
    rw [hy] at hxP
    obtain ⟨d0, d1, d2, d3⟩ := hxP.cells
    have HBY := Lib.hid (Bytes_yes P1 ⟨pA2, pl2, pc2, kA2, kl2, kc2, cA2, cl2, cc2⟩ ⟨leaf2, ps2, ks2, cs2⟩ (hnd2.keep hbP) hfw2 len2 hchk)
    rw [← hbody] at HBY
    simp only [nv, ncs] at HBY
    have HBODY := Lib.hid hbody
    simp only [nv, ncs]
    clear hok hfw2 hN2 hnd2 hchk hbody hbP hxP
    go_wp2_with fail
    refine HBY.out.mono ?_
    rintro e p2 ⟨⟨z, rfl, hzge, hblk⟩, hb_p2⟩
    have HB_p2 := Lib.hid (HB_P1.out.trans (hb_p2.mono hs_P1))
    have hs_p2 : g ≤ p2.heap.size := Nat.le_trans hs_P1 hb_p2.size
    have hrz := hblk.all' len2 len2 HBL.out (Nat.le_refl _)
    have HRZ := Lib.hid hrz
    clear hb_p2 hzge hblk hrz d0 d1 d2 d3 HBY
    go_wp2_with fail
    refine (awake_any p2).mono ?_
    rintro e p3 ⟨rfl, hb_p3⟩
    have HB_p3 := Lib.hid (HB_p2.out.trans (hb_p3.mono hs_p2))
    have cv1 := string_rd p3 _ _ _ _ (HRZ.out.keep hb_p3)
    have cv2 := string_rd p3 _ _ _ _ (HRB.out.keep (by rw [HG.out]; exact HB_p3.out))
    clear hb_p3
    go_wp2
    go_ret
    refine ⟨?_, HB_p3.out⟩
    simp
  · clear hno
    obtain ⟨P1, hP1⟩ : ∃ P1, p1.alloc (.cells #[.bool false, .slice none 0 0, .slice none 0 0, .slice none 0 0] 26) = P1 := ⟨_, rfl⟩
    have hbP : Below p1.heap.size p1 P1 := by rw [← hP1]; exact (Below.refl _ _).alloc (Nat.le_refl _) _
    have HB_P1 := Lib.hid (HB_p1.out.trans (hbP.mono hs_p1))
    have hs_P1 : g ≤ P1.heap.size := Nat.le_trans hs_p1 hbP.size
    simp only [nv, ncs, hd0]
    have HP1 := Lib.hid hP1
    clear hbP hP1
    go_wp2_with fail
    rw [HP1.out]
    refine (awake_any P1).mono ?_
    rintro e p3 ⟨rfl, hb_p3⟩
    have HB_p3 := Lib.hid (HB_P1.out.trans (hb_p3.mono hs_P1))
    clear hb_p3
    go_wp2
    go_ret
    exact ⟨rfl, HB_p3.out⟩

set_option maxRecDepth 100000 in
theorem lifted (os : Os) (started : os.Started) (H : Type) (enc : TypeId × Value → H) :
    ReturnsInHanded {} Try.checked os 5 .any (Rows.nodeBackSpec.pre6 enc Try.prog Try.f5 Rows.nodeBackRow.domain false) (Rows.nodeBackSpec.post enc Try.prog Try.f5 false true false false) := by
  refine returnsInHanded_of_change_sized (C := Try.checked) own started (by kernel_rfl) Try.func5
    (ChangeSpec.witness6 (enc := enc) (C := Try.checked) false ⟨#[], #[.agg #[.bool false, .slice none 0 0, .slice none 0 0, .slice none 0 0], .int .i64 0, .slice none 0 0], []⟩ 8 (by kernel_rfl) (by kernel_rfl) (by kernel_rfl) (by kernel_rfl)) ?_
  intro W base args ds gs before hval0 hW hcnd hsz0 _
  have hval : ∀ (j : Nat) t v, Try.f5.params[j]? = some t → args[j]? = some v → Value.okWide Try.prog W .any base t v := hval0
  have hsz : (DataW.weightsEach Try.prog (Try.f5.params.toList ++ Rows.nodeBackSpec.plain.varTypes Try.prog) (ds ++ gs)).all (· ≤ reachBytes) = true := hsz0
  have hW' := hW
  obtain ⟨p, q, hA0, hV, rfl, hfz, hnd⟩ := hW
  have hA : DataW.TrodAll enc Try.prog W 0 (fun _ => true) true Try.f5.params.toList args.toList ds p := hA0
  rw [Try.params5] at hA hval hsz
  obtain ⟨v0, vs0, d0, ds0, p0, q0, hargs, rfl, rfl, t0, r0⟩ := trodAll_cons hA
  obtain ⟨v1, vs1, d1, ds1, p1, q1, rfl, rfl, rfl, t1, r1⟩ := trodAll_cons r0
  obtain ⟨v2, vs2, d2, ds2, p2, q2, rfl, rfl, rfl, t2, r2⟩ := trodAll_cons r1
  obtain ⟨rfl, rfl, rfl⟩ := trodAll_nil r2
  obtain rfl : args = #[v0, v1, v2] := by cases args; simp_all
  obtain ⟨rfl, rfl⟩ := trodVars_none hV
  have k0 := t0
  have lt0 : ∀ x ∈ p0, x.block < W.heap.size := by obtain ⟨m, hm⟩ := k0; exact DataW.trod_lt m _ _ _ hm
  obtain ⟨h0, N0, rfl, w0⟩ := (IsN.of (hval 0 26 v0 rfl rfl) k0 (fun n hn => by
    have := List.all_eq_true.1 hsz n (DataW.weights_mem_each (j := 0) (t := 26) rfl rfl n hn)
    simpa using this)).ex
  obtain ⟨a1, rfl, rfl, rfl, w1⟩ := open_int Try.underlying3 (hval 1 3 v1 rfl rfl) t1
  obtain ⟨a2, len2, cap2, rfl⟩ := okWide_slice Try.underlying30 (hval 2 30 v2 rfl rfl)
  have k2 := t2
  have lt2 : ∀ x ∈ p2, x.block < W.heap.size := by obtain ⟨m, hm⟩ := k2; exact DataW.trod_lt m _ _ _ hm
  have w2 : IsB W a2 len2 cap2 := by
    obtain ⟨fuel, hf⟩ := t2
    exact IsB.of hf
  clear hA0 hval0
  refine (walk h0 N0 a1 a2 len2 cap2 W w0 w1 w2).mono fun e W' ⟨he, bel⟩ => ?_
  subst he
  exact ⟨_, rfl, _, _, _, [], _, [], hW', trodAll_mk1 (shut_bool Try.underlying4 _), (trodAll_cons_mk (Below.trod laidOut (by kernel_rfl) (of_decide_eq_true (by kernel_rfl)) k0 bel lt0) (trodAll_cons_mk (shut_int Try.underlying3 w1) (trodAll_cons_mk (Below.trod laidOut (by kernel_rfl) (of_decide_eq_true (by kernel_rfl)) k2 bel lt2) trodAll_mk0))), rfl, bel.frame _, fun h => by cases h⟩

theorem over : Rows.nodeBackRow.holds Try.pinned (OpenSpec.ofChange Rows.nodeBackSpec) :=
  OpenClaim.holds_of_wide 5 Try.f5 rfl rfl rfl rfl rfl rfl rfl ⟨rfl, rfl, rfl, rfl, rfl⟩ rfl rfl rfl rfl rfl (by kernel_rfl) Try.func5 (by kernel_rfl)
    (of_decide_eq_true (by kernel_rfl)) (by unfold Func.isWrapper; first | (rw [if_pos (by decide +kernel)]; kernel_rfl) | (rw [if_neg (by decide +kernel)]; exact ⟨rfl, rfl⟩))
    (fun os started H enc _ => lifted os started H enc)

/-- the statement. -/
theorem proved : Rows.NodeBackSaid := over
#print axioms proved
end Go.Proofs.Ytedhcohpcdkgnaa.nodeBack
