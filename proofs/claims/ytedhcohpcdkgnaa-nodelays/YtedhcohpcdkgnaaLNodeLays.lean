/-
  The statement 'NodeLays' (chandlerylaw08) holds at every input: the call returns true and leaves its arguments as they were. Conditions: none beyond the row's own.
-/
import Derived.Test.YtedhcohpcdkgnaaRows
import Derived.Test.YtedhcohpcdkgnaaArgN
import Derived.Deep.RegionHeld3
import Derived.Test.YtedhcohpcdkgnaaN3
import Derived.Test.YtedhcohpcdkgnaaNA
import Derived.Test.YtedhcohpcdkgnaaNC
import Derived.Test.YtedhcohpcdkgnaaND
import Derived.WalkKit
import Derived.ProofKit
import Derived.OpenShut
import Derived.ChangeOld
import Derived.Below
namespace Go.Proofs.Ytedhcohpcdkgnaa.nodeLays
open Go.ChangeShapes Go.WideShapes Go.ChangeAt Go.RowKit Go.Bs 
open Go.ChangeMaps (open_string shut_string)
set_option linter.unusedVariables false

theorem own : ownKnob Try.prog.godebug = none := by kernel_rfl
theorem laidOut : laidOutB Try.prog = true := by kernel_rfl


set_option maxRecDepth 100000 in
set_option maxHeartbeats 4000000 in
theorem walk (h0 : Hd) (N0 : Nd) (a1 : Int) (w : World) (w0 : NdA w h0 N0) (w1 : (Lit.int .i64 a1).wf = true) :
    Calls Try.prog 3 #[nv h0 N0.leaf, .int .i64 a1] w fun e w' => e = .returned (.bool true) ∧ Below w.heap.size w w' := by
  have w0' := w0
  obtain ⟨leaf, ps, ks, cs⟩ := N0
  obtain ⟨pA, pl, pc, kA, kl, kc, cA, cl, cc⟩ := h0
  obtain ⟨hN, hpm, hkm, hcm⟩ := w0
  have HH := Lib.hid hN
  have HPL : Hid (ps.length = pl) := hN.p.len
  have HKL : Hid (ks.length = kl) := hN.k.len
  have HCL : Hid (cs.length = cl) := hN.c.len
  have hpc : pl ≤ pc := hN.p.cap
  have hkc : kl ≤ kc := hN.k.cap
  have hcc : cl ≤ cc := hN.c.cap
  simp only at hpm hkm hcm
  clear hN
  obtain ⟨g, hg⟩ : ∃ g, w.heap.size = g := ⟨_, rfl⟩
  have HG := Lib.hid hg
  obtain ⟨W, hW⟩ : ∃ W, w.alloc (.cells (ncs ⟨pA, pl, pc, kA, kl, kc, cA, cl, cc⟩ leaf) 26) = W := ⟨_, rfl⟩
  have hbx : Bx W g ⟨pA, pl, pc, kA, kl, kc, cA, cl, cc⟩ leaf := by rw [← hW, ← hg]; exact Bx.new _ _ _
  have hbw : Below g w W := by rw [← hW, ← hg]; exact (Below.refl _ _).alloc (Nat.le_refl _) _
  obtain ⟨c0, c1, c2, c3⟩ := hbx.cells
  have HBX := Lib.hid hbx
  have HBW := Lib.hid hbw
  have hWg : g ≤ W.heap.size := by have := hbw.size; rw [hg] at this; exact this
  have HFEW := Lib.hid (few_any W ⟨pA, pl, pc, kA, kl, kc, cA, cl, cc⟩ ⟨leaf, ps, ks, cs⟩ (HH.out.keep (by rw [HG.out]; exact hbw)) hpm hkm hcm)
  simp only [nv, ncs] at HFEW
  unfold maxLen at hpm hkm hcm
  clear hbx hbw
  simp only [nv]
  rw [hg]
  have b1 := bounds_i64 w1
  clear w0' w1
  go_enter Try.func3, Try.ntmps3
  go_wp2_with fail
  refine HFEW.out.mono ?_
  rintro e w1 ⟨rfl | ⟨rfl, hfew⟩, hb1⟩
  · have HB1 := Lib.hid (HBW.out.trans (hb1.mono hWg))
    clear hb1 HFEW
    go_wp2
    go_ret
    exact ⟨rfl, HB1.out⟩
  have HB_w1 := Lib.hid (HBW.out.trans (hb1.mono hWg))
  have HX_w1 := Lib.hid (HBX.out.keep hb1)
  have hs_w1 : g ≤ w1.heap.size := Nat.le_trans hWg hb1.size
  have HN_w1 := Lib.hid (HH.out.keep (by rw [HG.out]; exact HB_w1.out))
  have HF7 := Lib.hid (hfew.mono (show 200 ≤ 7000 by omega))
  clear hb1 hfew HFEW c0 c1 c2 c3 hW
  obtain ⟨R, hR⟩ : ∃ R, Nd.chk ⟨leaf, ps, ks, cs⟩ a1 = R := ⟨_, rfl⟩
  have HR := Lib.hid hR
  have HC_w2 := Lib.hid (rCheck_any w1 ⟨pA, pl, pc, kA, kl, kc, cA, cl, cc⟩ ⟨leaf, ps, ks, cs⟩ HN_w1.out HF7.out a1)
  simp only [nv, ncs] at HC_w2
  rw [hR] at HC_w2
  obtain ⟨d0, d1, d2, d3⟩ := HX_w1.out.cells
  go_wp2_with fail
  refine HC_w2.out.mono ?_
  rintro e w2 ⟨rfl, hb_w2⟩
  have HB_w2 := Lib.hid (HB_w1.out.trans (hb_w2.mono hs_w1))
  have hs_w2 : g ≤ w2.heap.size := Nat.le_trans hs_w1 hb_w2.size
  have HN_w2 := Lib.hid (HH.out.keep (by rw [HG.out]; exact HB_w2.out))
  have HX_w2 := Lib.hid (HX_w1.out.keep hb_w2)
  clear hb_w2 HC_w2 d0 d1 d2 d3

  have HC_w3 := Lib.hid (Check_any w2 ⟨pA, pl, pc, kA, kl, kc, cA, cl, cc⟩ ⟨leaf, ps, ks, cs⟩ HN_w2.out HF7.out a1)
  simp only [nv, ncs] at HC_w3
  rw [hR] at HC_w3
  obtain ⟨d0, d1, d2, d3⟩ := HX_w2.out.cells
  go_wp2_with fail
  refine HC_w3.out.mono ?_
  rintro e w3 ⟨rfl, hb_w3⟩
  have HB_w3 := Lib.hid (HB_w2.out.trans (hb_w3.mono hs_w2))
  have hs_w3 : g ≤ w3.heap.size := Nat.le_trans hs_w2 hb_w3.size
  have HN_w3 := Lib.hid (HH.out.keep (by rw [HG.out]; exact HB_w3.out))
  have HX_w3 := Lib.hid (HX_w2.out.keep hb_w3)
  clear hb_w3 HC_w3 d0 d1 d2 d3

  by_cases hR0 : R = 0
  case neg =>
    by_cases hrg : 64 ≤ a1 ∧ a1 ≤ 4096
    case neg =>
      have hrd : (decide (64 ≤ a1) && decide (a1 ≤ 4096)) = false := by
        by_cases h1 : 64 ≤ a1
        · rw [decide_eq_false (show ¬ a1 ≤ 4096 from fun h2 => hrg ⟨h1, h2⟩), Bool.and_false]
        · rw [decide_eq_false h1]; rfl
      have HMN := Lib.hid (fun w => Most_no a1 hrg w)
      have HRN : Hid (∀ w, _) := fun w => Range_any a1 w
      rw [hrd] at HRN
      have HC_w4 := Lib.hid (Bytes_no w3 ⟨pA, pl, pc, kA, kl, kc, cA, cl, cc⟩ ⟨leaf, ps, ks, cs⟩ HN_w3.out HF7.out a1 (by rw [hR]; exact hR0))
      simp only [nv, ncs] at HC_w4
      rw [hR] at HC_w4
      obtain ⟨d0, d1, d2, d3⟩ := HX_w3.out.cells
      go_wp2_with fail
      refine HC_w4.out.mono ?_
      rintro e w4 ⟨rfl, hb_w4⟩
      have HB_w4 := Lib.hid (HB_w3.out.trans (hb_w4.mono hs_w3))
      have hs_w4 : g ≤ w4.heap.size := Nat.le_trans hs_w3 hb_w4.size
      have HN_w4 := Lib.hid (HH.out.keep (by rw [HG.out]; exact HB_w4.out))
      have HX_w4 := Lib.hid (HX_w3.out.keep hb_w4)
      clear hb_w4 HC_w4 d0 d1 d2 d3

      clear hrg hrd hR
      have HR0 := Lib.hid hR0
      clear hR0
      go_wp2_with fail
      refine (HMN.out w4).mono ?_
      rintro e _ ⟨rfl, rfl⟩

      go_wp2_with fail
      have HB_x0 : Hid (Below g w w4.drew) := HB_w4.out.drew
      have hs_x0 : g ≤ w4.drew.heap.size := hs_w4
      have HN_x0 : Hid (NdAt w4.drew ⟨pA, pl, pc, kA, kl, kc, cA, cl, cc⟩ ⟨leaf, ps, ks, cs⟩) := HN_w4.out.keep (Below.refl _ _).drew
      have HX_x0 : Hid (Bx w4.drew g ⟨pA, pl, pc, kA, kl, kc, cA, cl, cc⟩ leaf) := HX_w4.out.keep (Below.refl _ _).drew
      have HSZ1 := Lib.hid (Size_any w4.drew ⟨pA, pl, pc, kA, kl, kc, cA, cl, cc⟩ ⟨leaf, ps, ks, cs⟩ HN_x0.out HF7.out)
      simp only [nv, ncs] at HSZ1
      obtain ⟨SZ, hSZ⟩ : ∃ SZ, Nd.size ⟨leaf, ps, ks, cs⟩ = SZ := ⟨_, rfl⟩
      rw [hSZ] at HSZ1
      have HSZE := Lib.hid hSZ
      clear hSZ
      refine wp_region_held_drew (S := fun W => W.cell? ⟨g, 0, none⟩ = some (.bool leaf) ∧ W.cell? ⟨g, 1, none⟩ = some (.slice pA pl pc) ∧ W.cell? ⟨g, 2, none⟩ = some (.slice kA kl kc) ∧ W.cell? ⟨g, 3, none⟩ = some (.slice cA cl cc)) (by kernel_rfl) (HX_x0.out.cells) (fun hHeld => ?_)
      refine wpAnyH_take (i := 0) (oi := { dst := some 31, op := Go.Op.move (Go.Operand.tmp 6), type := 28, pos := "law.go:44", after := #[], guard := none }) (v := ?va0) rfl (by kernel_rfl) (by kernel_rfl) (by kernel_rfl) (fun _ _ _ h => h) (Or.inl ⟨by rfl, ?hya0⟩) hHeld ?_
      case hya0 => (intro w hSw; (try dsimp only at hSw); go_simp; first | done | with_reducible rfl)
      try simp only [Act.put, List.setIfInBounds_toArray, List.set_cons_zero, List.set_cons_succ]
      refine wpAnyH_take (i := 1) (oi := { dst := some 32, op := Go.Op.move (Go.Operand.tmp 5), type := 28, pos := "law.go:44", after := #[], guard := none }) (v := ?va1) rfl (by kernel_rfl) (by kernel_rfl) (by kernel_rfl) (fun _ _ _ h => h) (Or.inl ⟨by rfl, ?hya1⟩) hHeld ?_
      case hya1 => (intro w hSw; (try dsimp only at hSw); go_simp; first | done | with_reducible rfl)
      try simp only [Act.put, List.setIfInBounds_toArray, List.set_cons_zero, List.set_cons_succ]
      refine wpAnyH_take (i := 2) (oi := { dst := some 33, op := Go.Op.binOp Go.BinOp.neq 28 (Go.Operand.tmp 31) (Go.Operand.tmp 32) 28, type := 4, pos := "law.go:44", after := #[{ on := 0, ground := Go.Ground.data }, { on := 1, ground := Go.Ground.data }], guard := none }) (v := ?va2) rfl (by kernel_rfl) (by kernel_rfl) (by kernel_rfl) (fun _ _ _ h => h) (Or.inl ⟨by rfl, ?hya2⟩) hHeld ?_
      case hya2 => (intro w hSw; (try dsimp only at hSw); go_simp; first | done | with_reducible rfl)
      try simp only [Act.put, List.setIfInBounds_toArray, List.set_cons_zero, List.set_cons_succ]
      refine wpAnyH_take (i := 3) (oi := { dst := some 34, op := Go.Op.move (Go.Operand.tmp 33), type := 4, pos := "law.go:44", after := #[{ on := 2, ground := Go.Ground.data }], guard := none }) (v := ?va3) rfl (by kernel_rfl) (by kernel_rfl) (by kernel_rfl) (fun _ _ _ h => h) (Or.inl ⟨by rfl, ?hya3⟩) hHeld ?_
      case hya3 => (intro w hSw; (try dsimp only at hSw); go_simp; first | done | with_reducible rfl)
      try simp only [Act.put, List.setIfInBounds_toArray, List.set_cons_zero, List.set_cons_succ]
      refine wpAnyH_take (i := 4) (oi := { dst := some 35, op := Go.Op.move (Go.Operand.tmp 8), type := 28, pos := "law.go:44", after := #[{ on := 3, ground := Go.Ground.guard }], guard := some (3, false) }) (v := ?va4) rfl (by kernel_rfl) (by kernel_rfl) (by kernel_rfl) (fun _ _ _ h => h) (Or.inl ⟨by rfl, ?hya4⟩) hHeld ?_
      case hya4 => (intro w hSw; (try dsimp only at hSw); go_simp; first | done | with_reducible rfl)
      try simp only [Act.put, List.setIfInBounds_toArray, List.set_cons_zero, List.set_cons_succ]
      refine wpAnyH_take (i := 5) (oi := { dst := some 36, op := Go.Op.move (Go.Operand.tmp 5), type := 28, pos := "law.go:44", after := #[{ on := 3, ground := Go.Ground.guard }], guard := some (3, false) }) (v := ?va5) rfl (by kernel_rfl) (by kernel_rfl) (by kernel_rfl) (fun _ _ _ h => h) (Or.inl ⟨by rfl, ?hya5⟩) hHeld ?_
      case hya5 => (intro w hSw; (try dsimp only at hSw); go_simp; first | done | with_reducible rfl)
      try simp only [Act.put, List.setIfInBounds_toArray, List.set_cons_zero, List.set_cons_succ]
      refine wpAnyH_take (i := 6) (oi := { dst := some 37, op := Go.Op.binOp Go.BinOp.neq 28 (Go.Operand.tmp 35) (Go.Operand.tmp 36) 28, type := 4, pos := "law.go:44", after := #[{ on := 4, ground := Go.Ground.data }, { on := 5, ground := Go.Ground.data }, { on := 3, ground := Go.Ground.guard }], guard := some (3, false) }) (v := ?va6) rfl (by kernel_rfl) (by kernel_rfl) (by kernel_rfl) (fun _ _ _ h => h) (Or.inl ⟨by rfl, ?hya6⟩) hHeld ?_
      case hya6 => (intro w hSw; (try dsimp only at hSw); go_simp; first | done | with_reducible rfl)
      try simp only [Act.put, List.setIfInBounds_toArray, List.set_cons_zero, List.set_cons_succ]
      refine wpAnyH_take (i := 7) (oi := { dst := some 38, op := Go.Op.pick (Go.Operand.tmp 34) (Go.Operand.const (Go.Value.bool true)) (Go.Operand.tmp 37), type := 4, pos := "law.go:44", after := #[{ on := 3, ground := Go.Ground.data }, { on := 6, ground := Go.Ground.data }], guard := none }) (v := ?va7) rfl (by kernel_rfl) (by kernel_rfl) (by kernel_rfl) (fun _ _ _ h => h) (Or.inl ⟨by rfl, ?hya7⟩) hHeld ?_
      case hya7 => (intro w hSw; (try dsimp only at hSw); go_simp; first | done | with_reducible rfl)
      try simp only [Act.put, List.setIfInBounds_toArray, List.set_cons_zero, List.set_cons_succ]
      refine wpAnyH_take (i := 8) (oi := { dst := some 39, op := Go.Op.move (Go.Operand.tmp 38), type := 4, pos := "law.go:44", after := #[{ on := 7, ground := Go.Ground.data }, { on := 3, ground := Go.Ground.chain }], guard := none }) (v := ?va8) rfl (by kernel_rfl) (by kernel_rfl) (by kernel_rfl) (fun _ _ _ h => h) (Or.inl ⟨by rfl, ?hya8⟩) hHeld ?_
      case hya8 => (intro w hSw; (try dsimp only at hSw); go_simp; first | done | with_reducible rfl)
      try simp only [Act.put, List.setIfInBounds_toArray, List.set_cons_zero, List.set_cons_succ]
      refine wpAnyH_take (i := 9) (oi := { dst := some 40, op := Go.Op.load 26 (Go.Operand.tmp 2), type := 26, pos := "law.go:44", after := #[{ on := 8, ground := Go.Ground.guard }], guard := some (8, false) }) (v := ?va9) rfl (by kernel_rfl) (by kernel_rfl) (by kernel_rfl) (fun _ _ _ h => h) (Or.inl ⟨by rfl, ?hya9⟩) hHeld ?_
      case hya9 => (intro w hSw; (try dsimp only at hSw); go_simp; first | done | with_reducible rfl)
      try simp only [Act.put, List.setIfInBounds_toArray, List.set_cons_zero, List.set_cons_succ]
      refine wpAnyH_take (i := 11) (oi := { dst := some 42, op := Go.Op.load 26 (Go.Operand.tmp 2), type := 26, pos := "law.go:44", after := #[{ on := 8, ground := Go.Ground.guard }], guard := some (8, false) }) (v := ?va11) rfl (by kernel_rfl) (by kernel_rfl) (by kernel_rfl) (fun _ _ _ h => h) (Or.inl ⟨by rfl, ?hya11⟩) hHeld ?_
      case hya11 => (intro w hSw; (try dsimp only at hSw); go_simp; first | done | with_reducible rfl)
      try simp only [Act.put, List.setIfInBounds_toArray, List.set_cons_zero, List.set_cons_succ]
      refine wpAnyH_ready (rs := [10]) (by kernel_rfl) (by simp) ?_
      refine AllReadyH.cons (o := { dst := some 41, op := Go.Op.call { callee := Go.Callee.value (Go.Operand.func 13), args := #[Go.Operand.tmp 40], argTypes := #[26] }, type := 3, pos := "law.go:44", after := #[{ on := 9, ground := Go.Ground.data }, { on := 8, ground := Go.Ground.chain }, { on := 8, ground := Go.Ground.guard }], guard := some (8, false) }) rfl (fun K hK => ?_) AllReadyH.nil
      go_simp
      refine HSZ1.out.mono ?_
      rintro e y1 ⟨rfl, hb_y1⟩
      have HB_y1 := Lib.hid (HB_x0.out.trans (hb_y1.mono hs_x0))
      have hs_y1 : g ≤ y1.heap.size := Nat.le_trans hs_x0 hb_y1.size
      have HN_y1 := Lib.hid (HH.out.keep (by rw [HG.out]; exact HB_y1.out))
      have HX_y1 := Lib.hid (HX_x0.out.keep hb_y1)
      clear hb_y1 HSZ1
      have HSZ2 := Lib.hid (rSize_any y1 ⟨pA, pl, pc, kA, kl, kc, cA, cl, cc⟩ ⟨leaf, ps, ks, cs⟩ HN_y1.out HF7.out)
      simp only [nv, ncs] at HSZ2
      rw [HSZE.out] at HSZ2
      go_wp2_with fail
      refine hK.out _ _ (HX_y1.out.cells) (fun hHeld => ?_)
      clear hK K
      try simp only [Act.put, List.setIfInBounds_toArray, List.set_cons_zero, List.set_cons_succ]
      refine wpAnyH_ready (rs := [12]) (by kernel_rfl) (by simp) ?_
      refine AllReadyH.cons (o := { dst := some 43, op := Go.Op.call { callee := Go.Callee.value (Go.Operand.func 14), args := #[Go.Operand.tmp 42], argTypes := #[26] }, type := 3, pos := "law.go:44", after := #[{ on := 11, ground := Go.Ground.data }, { on := 10, ground := Go.Ground.chain }, { on := 8, ground := Go.Ground.guard }], guard := some (8, false) }) rfl (fun K hK => ?_) AllReadyH.nil
      go_simp
      refine HSZ2.out.mono ?_
      rintro e y2 ⟨rfl, hb_y2⟩
      have HB_y2 := Lib.hid (HB_y1.out.trans (hb_y2.mono hs_y1))
      have hs_y2 : g ≤ y2.heap.size := Nat.le_trans hs_y1 hb_y2.size
      have HN_y2 := Lib.hid (HH.out.keep (by rw [HG.out]; exact HB_y2.out))
      have HX_y2 := Lib.hid (HX_y1.out.keep hb_y2)
      clear hb_y2 HSZ2
      go_wp2_with fail
      refine hK.out _ _ (HX_y2.out.cells) (fun hHeld => ?_)
      clear hK K
      try simp only [Act.put, List.setIfInBounds_toArray, List.set_cons_zero, List.set_cons_succ]
      refine wpAnyH_take (i := 13) (oi := { dst := some 44, op := Go.Op.binOp Go.BinOp.neq 3 (Go.Operand.tmp 41) (Go.Operand.tmp 43) 3, type := 4, pos := "law.go:44", after := #[{ on := 10, ground := Go.Ground.data }, { on := 12, ground := Go.Ground.data }, { on := 8, ground := Go.Ground.guard }], guard := some (8, false) }) (v := ?va13) rfl (by kernel_rfl) (by kernel_rfl) (by kernel_rfl) (fun _ _ _ h => h) (Or.inl ⟨by rfl, ?hya13⟩) hHeld ?_
      case hya13 => (intro w hSw; (try dsimp only at hSw); go_simp; first | done | with_reducible rfl)
      try simp only [Act.put, List.setIfInBounds_toArray, List.set_cons_zero, List.set_cons_succ]
      refine wpAnyH_take (i := 14) (oi := { dst := some 45, op := Go.Op.pick (Go.Operand.tmp 39) (Go.Operand.const (Go.Value.bool true)) (Go.Operand.tmp 44), type := 4, pos := "law.go:44", after := #[{ on := 8, ground := Go.Ground.data }, { on := 13, ground := Go.Ground.data }], guard := none }) (v := ?va14) rfl (by kernel_rfl) (by kernel_rfl) (by kernel_rfl) (fun _ _ _ h => h) (Or.inl ⟨by rfl, ?hya14⟩) hHeld ?_
      case hya14 => (intro w hSw; (try dsimp only at hSw); go_simp; first | done | with_reducible rfl)
      try simp only [Act.put, List.setIfInBounds_toArray, List.set_cons_zero, List.set_cons_succ]
      refine wpAnyH_done (by kernel_rfl) ?_ _

      go_wp2_with fail
      refine (HRN.out _).mono ?_
      rintro e _ ⟨rfl, rfl⟩
      go_wp2_with fail
      refine (awake_any _).mono ?_
      rintro e y3 ⟨rfl, hb_y3⟩
      have HB_y3 := Lib.hid (HB_y2.out.trans (hb_y3.mono hs_y2))
      clear hb_y3
      go_wp2
      go_ret
      exact ⟨rfl, HB_y3.out⟩
    obtain ⟨n, rfl⟩ := Int.eq_ofNat_of_zero_le (show 0 ≤ a1 by omega)
    have hn1 : 64 ≤ n := by omega
    have hn2 : n ≤ 4096 := by omega
    have hrd : (decide (64 ≤ (n : Int)) && decide ((n : Int) ≤ 4096)) = true := by rw [decide_eq_true hrg.1, decide_eq_true hrg.2]; rfl
    have HMN := Lib.hid (fun w => Most_yes n hn1 hn2 w)
    have HRM := Lib.hid (fun w => rMost_yes n hn1 hn2 w)
    obtain ⟨most, hmost⟩ : ∃ most, (n - 16) / 4 - 4 = most := ⟨_, rfl⟩
    rw [hmost] at HMN HRM
    have HRN : Hid (∀ w, _) := fun w => Range_any (n : Int) w
    rw [hrd] at HRN
    have HC_w4 := Lib.hid (Bytes_no w3 ⟨pA, pl, pc, kA, kl, kc, cA, cl, cc⟩ ⟨leaf, ps, ks, cs⟩ HN_w3.out HF7.out (n : Int) (by rw [hR]; exact hR0))
    simp only [nv, ncs] at HC_w4
    rw [hR] at HC_w4
    obtain ⟨d0, d1, d2, d3⟩ := HX_w3.out.cells
    go_wp2_with fail
    refine HC_w4.out.mono ?_
    rintro e w4 ⟨rfl, hb_w4⟩
    have HB_w4 := Lib.hid (HB_w3.out.trans (hb_w4.mono hs_w3))
    have hs_w4 : g ≤ w4.heap.size := Nat.le_trans hs_w3 hb_w4.size
    have HN_w4 := Lib.hid (HH.out.keep (by rw [HG.out]; exact HB_w4.out))
    have HX_w4 := Lib.hid (HX_w3.out.keep hb_w4)
    clear hb_w4 HC_w4 d0 d1 d2 d3

    clear hrg hrd hR hmost
    have hR1 : (R != 0) = true := by simpa using hR0
    have HR1 := Lib.hid hR1
    clear hR1 hR0
    go_wp2_with fail
    refine (HMN.out w4).mono ?_
    rintro e _ ⟨rfl, rfl⟩

    go_wp2_with fail
    have HB_x0 : Hid (Below g w w4.drew) := HB_w4.out.drew
    have hs_x0 : g ≤ w4.drew.heap.size := hs_w4
    have HN_x0 : Hid (NdAt w4.drew ⟨pA, pl, pc, kA, kl, kc, cA, cl, cc⟩ ⟨leaf, ps, ks, cs⟩) := HN_w4.out.keep (Below.refl _ _).drew
    have HX_x0 : Hid (Bx w4.drew g ⟨pA, pl, pc, kA, kl, kc, cA, cl, cc⟩ leaf) := HX_w4.out.keep (Below.refl _ _).drew
    have HSZ1 := Lib.hid (Size_any w4.drew ⟨pA, pl, pc, kA, kl, kc, cA, cl, cc⟩ ⟨leaf, ps, ks, cs⟩ HN_x0.out HF7.out)
    simp only [nv, ncs] at HSZ1
    obtain ⟨SZ, hSZ⟩ : ∃ SZ, Nd.size ⟨leaf, ps, ks, cs⟩ = SZ := ⟨_, rfl⟩
    rw [hSZ] at HSZ1
    have HSZE := Lib.hid hSZ
    clear hSZ
    refine wp_region_held_drew (S := fun W => W.cell? ⟨g, 0, none⟩ = some (.bool leaf) ∧ W.cell? ⟨g, 1, none⟩ = some (.slice pA pl pc) ∧ W.cell? ⟨g, 2, none⟩ = some (.slice kA kl kc) ∧ W.cell? ⟨g, 3, none⟩ = some (.slice cA cl cc)) (by kernel_rfl) (HX_x0.out.cells) (fun hHeld => ?_)
    refine wpAnyH_take (i := 0) (oi := { dst := some 31, op := Go.Op.move (Go.Operand.tmp 6), type := 28, pos := "law.go:44", after := #[], guard := none }) (v := ?vb0) rfl (by kernel_rfl) (by kernel_rfl) (by kernel_rfl) (fun _ _ _ h => h) (Or.inl ⟨by rfl, ?hyb0⟩) hHeld ?_
    case hyb0 => (intro w hSw; (try dsimp only at hSw); go_simp; first | done | with_reducible rfl)
    try simp only [Act.put, List.setIfInBounds_toArray, List.set_cons_zero, List.set_cons_succ]
    refine wpAnyH_take (i := 1) (oi := { dst := some 32, op := Go.Op.move (Go.Operand.tmp 5), type := 28, pos := "law.go:44", after := #[], guard := none }) (v := ?vb1) rfl (by kernel_rfl) (by kernel_rfl) (by kernel_rfl) (fun _ _ _ h => h) (Or.inl ⟨by rfl, ?hyb1⟩) hHeld ?_
    case hyb1 => (intro w hSw; (try dsimp only at hSw); go_simp; first | done | with_reducible rfl)
    try simp only [Act.put, List.setIfInBounds_toArray, List.set_cons_zero, List.set_cons_succ]
    refine wpAnyH_take (i := 2) (oi := { dst := some 33, op := Go.Op.binOp Go.BinOp.neq 28 (Go.Operand.tmp 31) (Go.Operand.tmp 32) 28, type := 4, pos := "law.go:44", after := #[{ on := 0, ground := Go.Ground.data }, { on := 1, ground := Go.Ground.data }], guard := none }) (v := ?vb2) rfl (by kernel_rfl) (by kernel_rfl) (by kernel_rfl) (fun _ _ _ h => h) (Or.inl ⟨by rfl, ?hyb2⟩) hHeld ?_
    case hyb2 => (intro w hSw; (try dsimp only at hSw); go_simp; first | done | with_reducible rfl)
    try simp only [Act.put, List.setIfInBounds_toArray, List.set_cons_zero, List.set_cons_succ]
    refine wpAnyH_take (i := 3) (oi := { dst := some 34, op := Go.Op.move (Go.Operand.tmp 33), type := 4, pos := "law.go:44", after := #[{ on := 2, ground := Go.Ground.data }], guard := none }) (v := ?vb3) rfl (by kernel_rfl) (by kernel_rfl) (by kernel_rfl) (fun _ _ _ h => h) (Or.inl ⟨by rfl, ?hyb3⟩) hHeld ?_
    case hyb3 => (intro w hSw; (try dsimp only at hSw); go_simp; first | done | with_reducible rfl)
    try simp only [Act.put, List.setIfInBounds_toArray, List.set_cons_zero, List.set_cons_succ]
    refine wpAnyH_take (i := 4) (oi := { dst := some 35, op := Go.Op.move (Go.Operand.tmp 8), type := 28, pos := "law.go:44", after := #[{ on := 3, ground := Go.Ground.guard }], guard := some (3, false) }) (v := ?vb4) rfl (by kernel_rfl) (by kernel_rfl) (by kernel_rfl) (fun _ _ _ h => h) (Or.inl ⟨by rfl, ?hyb4⟩) hHeld ?_
    case hyb4 => (intro w hSw; (try dsimp only at hSw); go_simp; first | done | with_reducible rfl)
    try simp only [Act.put, List.setIfInBounds_toArray, List.set_cons_zero, List.set_cons_succ]
    refine wpAnyH_take (i := 5) (oi := { dst := some 36, op := Go.Op.move (Go.Operand.tmp 5), type := 28, pos := "law.go:44", after := #[{ on := 3, ground := Go.Ground.guard }], guard := some (3, false) }) (v := ?vb5) rfl (by kernel_rfl) (by kernel_rfl) (by kernel_rfl) (fun _ _ _ h => h) (Or.inl ⟨by rfl, ?hyb5⟩) hHeld ?_
    case hyb5 => (intro w hSw; (try dsimp only at hSw); go_simp; first | done | with_reducible rfl)
    try simp only [Act.put, List.setIfInBounds_toArray, List.set_cons_zero, List.set_cons_succ]
    refine wpAnyH_take (i := 6) (oi := { dst := some 37, op := Go.Op.binOp Go.BinOp.neq 28 (Go.Operand.tmp 35) (Go.Operand.tmp 36) 28, type := 4, pos := "law.go:44", after := #[{ on := 4, ground := Go.Ground.data }, { on := 5, ground := Go.Ground.data }, { on := 3, ground := Go.Ground.guard }], guard := some (3, false) }) (v := ?vb6) rfl (by kernel_rfl) (by kernel_rfl) (by kernel_rfl) (fun _ _ _ h => h) (Or.inl ⟨by rfl, ?hyb6⟩) hHeld ?_
    case hyb6 => (intro w hSw; (try dsimp only at hSw); go_simp; first | done | with_reducible rfl)
    try simp only [Act.put, List.setIfInBounds_toArray, List.set_cons_zero, List.set_cons_succ]
    refine wpAnyH_take (i := 7) (oi := { dst := some 38, op := Go.Op.pick (Go.Operand.tmp 34) (Go.Operand.const (Go.Value.bool true)) (Go.Operand.tmp 37), type := 4, pos := "law.go:44", after := #[{ on := 3, ground := Go.Ground.data }, { on := 6, ground := Go.Ground.data }], guard := none }) (v := ?vb7) rfl (by kernel_rfl) (by kernel_rfl) (by kernel_rfl) (fun _ _ _ h => h) (Or.inl ⟨by rfl, ?hyb7⟩) hHeld ?_
    case hyb7 => (intro w hSw; (try dsimp only at hSw); go_simp; first | done | with_reducible rfl)
    try simp only [Act.put, List.setIfInBounds_toArray, List.set_cons_zero, List.set_cons_succ]
    refine wpAnyH_take (i := 8) (oi := { dst := some 39, op := Go.Op.move (Go.Operand.tmp 38), type := 4, pos := "law.go:44", after := #[{ on := 7, ground := Go.Ground.data }, { on := 3, ground := Go.Ground.chain }], guard := none }) (v := ?vb8) rfl (by kernel_rfl) (by kernel_rfl) (by kernel_rfl) (fun _ _ _ h => h) (Or.inl ⟨by rfl, ?hyb8⟩) hHeld ?_
    case hyb8 => (intro w hSw; (try dsimp only at hSw); go_simp; first | done | with_reducible rfl)
    try simp only [Act.put, List.setIfInBounds_toArray, List.set_cons_zero, List.set_cons_succ]
    refine wpAnyH_take (i := 9) (oi := { dst := some 40, op := Go.Op.load 26 (Go.Operand.tmp 2), type := 26, pos := "law.go:44", after := #[{ on := 8, ground := Go.Ground.guard }], guard := some (8, false) }) (v := ?vb9) rfl (by kernel_rfl) (by kernel_rfl) (by kernel_rfl) (fun _ _ _ h => h) (Or.inl ⟨by rfl, ?hyb9⟩) hHeld ?_
    case hyb9 => (intro w hSw; (try dsimp only at hSw); go_simp; first | done | with_reducible rfl)
    try simp only [Act.put, List.setIfInBounds_toArray, List.set_cons_zero, List.set_cons_succ]
    refine wpAnyH_take (i := 11) (oi := { dst := some 42, op := Go.Op.load 26 (Go.Operand.tmp 2), type := 26, pos := "law.go:44", after := #[{ on := 8, ground := Go.Ground.guard }], guard := some (8, false) }) (v := ?vb11) rfl (by kernel_rfl) (by kernel_rfl) (by kernel_rfl) (fun _ _ _ h => h) (Or.inl ⟨by rfl, ?hyb11⟩) hHeld ?_
    case hyb11 => (intro w hSw; (try dsimp only at hSw); go_simp; first | done | with_reducible rfl)
    try simp only [Act.put, List.setIfInBounds_toArray, List.set_cons_zero, List.set_cons_succ]
    refine wpAnyH_ready (rs := [10]) (by kernel_rfl) (by simp) ?_
    refine AllReadyH.cons (o := { dst := some 41, op := Go.Op.call { callee := Go.Callee.value (Go.Operand.func 13), args := #[Go.Operand.tmp 40], argTypes := #[26] }, type := 3, pos := "law.go:44", after := #[{ on := 9, ground := Go.Ground.data }, { on := 8, ground := Go.Ground.chain }, { on := 8, ground := Go.Ground.guard }], guard := some (8, false) }) rfl (fun K hK => ?_) AllReadyH.nil
    go_simp
    refine HSZ1.out.mono ?_
    rintro e y1 ⟨rfl, hb_y1⟩
    have HB_y1 := Lib.hid (HB_x0.out.trans (hb_y1.mono hs_x0))
    have hs_y1 : g ≤ y1.heap.size := Nat.le_trans hs_x0 hb_y1.size
    have HN_y1 := Lib.hid (HH.out.keep (by rw [HG.out]; exact HB_y1.out))
    have HX_y1 := Lib.hid (HX_x0.out.keep hb_y1)
    clear hb_y1 HSZ1
    have HSZ2 := Lib.hid (rSize_any y1 ⟨pA, pl, pc, kA, kl, kc, cA, cl, cc⟩ ⟨leaf, ps, ks, cs⟩ HN_y1.out HF7.out)
    simp only [nv, ncs] at HSZ2
    rw [HSZE.out] at HSZ2
    go_wp2_with fail
    refine hK.out _ _ (HX_y1.out.cells) (fun hHeld => ?_)
    clear hK K
    try simp only [Act.put, List.setIfInBounds_toArray, List.set_cons_zero, List.set_cons_succ]
    refine wpAnyH_ready (rs := [12]) (by kernel_rfl) (by simp) ?_
    refine AllReadyH.cons (o := { dst := some 43, op := Go.Op.call { callee := Go.Callee.value (Go.Operand.func 14), args := #[Go.Operand.tmp 42], argTypes := #[26] }, type := 3, pos := "law.go:44", after := #[{ on := 11, ground := Go.Ground.data }, { on := 10, ground := Go.Ground.chain }, { on := 8, ground := Go.Ground.guard }], guard := some (8, false) }) rfl (fun K hK => ?_) AllReadyH.nil
    go_simp
    refine HSZ2.out.mono ?_
    rintro e y2 ⟨rfl, hb_y2⟩
    have HB_y2 := Lib.hid (HB_y1.out.trans (hb_y2.mono hs_y1))
    have hs_y2 : g ≤ y2.heap.size := Nat.le_trans hs_y1 hb_y2.size
    have HN_y2 := Lib.hid (HH.out.keep (by rw [HG.out]; exact HB_y2.out))
    have HX_y2 := Lib.hid (HX_y1.out.keep hb_y2)
    clear hb_y2 HSZ2
    go_wp2_with fail
    refine hK.out _ _ (HX_y2.out.cells) (fun hHeld => ?_)
    clear hK K
    try simp only [Act.put, List.setIfInBounds_toArray, List.set_cons_zero, List.set_cons_succ]
    refine wpAnyH_take (i := 13) (oi := { dst := some 44, op := Go.Op.binOp Go.BinOp.neq 3 (Go.Operand.tmp 41) (Go.Operand.tmp 43) 3, type := 4, pos := "law.go:44", after := #[{ on := 10, ground := Go.Ground.data }, { on := 12, ground := Go.Ground.data }, { on := 8, ground := Go.Ground.guard }], guard := some (8, false) }) (v := ?vb13) rfl (by kernel_rfl) (by kernel_rfl) (by kernel_rfl) (fun _ _ _ h => h) (Or.inl ⟨by rfl, ?hyb13⟩) hHeld ?_
    case hyb13 => (intro w hSw; (try dsimp only at hSw); go_simp; first | done | with_reducible rfl)
    try simp only [Act.put, List.setIfInBounds_toArray, List.set_cons_zero, List.set_cons_succ]
    refine wpAnyH_take (i := 14) (oi := { dst := some 45, op := Go.Op.pick (Go.Operand.tmp 39) (Go.Operand.const (Go.Value.bool true)) (Go.Operand.tmp 44), type := 4, pos := "law.go:44", after := #[{ on := 8, ground := Go.Ground.data }, { on := 13, ground := Go.Ground.data }], guard := none }) (v := ?vb14) rfl (by kernel_rfl) (by kernel_rfl) (by kernel_rfl) (fun _ _ _ h => h) (Or.inl ⟨by rfl, ?hyb14⟩) hHeld ?_
    case hyb14 => (intro w hSw; (try dsimp only at hSw); go_simp; first | done | with_reducible rfl)
    try simp only [Act.put, List.setIfInBounds_toArray, List.set_cons_zero, List.set_cons_succ]
    refine wpAnyH_done (by kernel_rfl) ?_ _

    go_wp2_with fail
    refine (HRN.out _).mono ?_
    rintro e _ ⟨rfl, rfl⟩
    go_wp2_with fail
    refine (HRM.out _).mono ?_
    rintro e _ ⟨rfl, rfl⟩
    have hR1 := HR1.out
    go_wp2_with fail
    refine (awake_any _).mono ?_
    rintro e y3 ⟨rfl, hb_y3⟩
    have HB_y3 := Lib.hid (HB_y2.out.trans (hb_y3.mono hs_y2))
    clear hb_y3
    go_wp2
    go_ret
    exact ⟨rfl, HB_y3.out⟩
  subst hR0
  obtain ⟨hr1, hr2, _, _⟩ := chk_zero hR
  obtain ⟨n, rfl⟩ := Int.eq_ofNat_of_zero_le (show 0 ≤ a1 by omega)
  have hz0 := hR
  have hn1 : 64 ≤ n := by omega
  have hn2 : n ≤ 4096 := by omega
  have hrd : (decide (64 ≤ (n : Int)) && decide ((n : Int) ≤ 4096)) = true := by rw [decide_eq_true hr1, decide_eq_true hr2]; rfl
  have HMN := Lib.hid (fun w => Most_yes n hn1 hn2 w)
  have HRM := Lib.hid (fun w => rMost_yes n hn1 hn2 w)
  obtain ⟨most, hmost⟩ : ∃ most, (n - 16) / 4 - 4 = most := ⟨_, rfl⟩
  rw [hmost] at HMN HRM
  have HRN : Hid (∀ w, _) := fun w => Range_any (n : Int) w
  rw [hrd] at HRN
  clear hr1 hr2 hrd hmost hR
  have HZ0 := Lib.hid hz0
  have HC_w4 := Lib.hid (Bytes_yes w3 ⟨pA, pl, pc, kA, kl, kc, cA, cl, cc⟩ ⟨leaf, ps, ks, cs⟩ HN_w3.out HF7.out n hz0)
  simp only [nv, ncs] at HC_w4
  obtain ⟨d0, d1, d2, d3⟩ := HX_w3.out.cells
  go_wp2_with fail
  refine HC_w4.out.mono ?_
  rintro e w4 ⟨⟨z, rfl, hz4, hBk⟩, hb_w4⟩
  have HB_w4 := Lib.hid (HB_w3.out.trans (hb_w4.mono hs_w3))
  have hs_w4 : g ≤ w4.heap.size := Nat.le_trans hs_w3 hb_w4.size
  have HN_w4 := Lib.hid (HH.out.keep (by rw [HG.out]; exact HB_w4.out))
  have HX_w4 := Lib.hid (HX_w3.out.keep hb_w4)
  clear hb_w4 HC_w4 d0 d1 d2 d3

  obtain ⟨BDE, hBDE⟩ : ∃ BDE, (Nd.body ⟨leaf, ps, ks, cs⟩ ++ zeros (n - (Nd.body ⟨leaf, ps, ks, cs⟩).length)) = BDE := ⟨_, rfl⟩
  rw [hBDE] at hBk
  have hlen : BDE.length = n := by
    obtain ⟨_, _, hfit, hsz⟩ := chk_zero HZ0.out
    have := fits_body hfit
    rw [← hBDE, List.length_append, zeros_length]; omega
  obtain ⟨g4, hg4⟩ : ∃ g4, w4.heap.size = g4 := ⟨_, rfl⟩
  have hr4 : Rd w4 (some ⟨z, 0, none⟩) n n BDE := hBk.all' n n hlen (Nat.le_refl _)
  obtain ⟨vb, hvb⟩ : ∃ vb, Value.slice (some ⟨z, 0, none⟩) n n = vb := ⟨_, rfl⟩
  obtain ⟨SB, hSB⟩ : ∃ SB : ByteArray, ⟨BDE.toArray⟩ = SB := ⟨_, rfl⟩
  have HCV : Hid (∀ W, Below g4 w4 W → (convert 30 9 vb).run Try.prog W = .ok (.string SB) W) := fun W hW => by
    rw [← hvb, ← hSB]; exact string_rd W _ _ _ _ (hr4.keep (by rw [hg4]; exact hW))
  have HB4_w4 : Hid (Below g4 w4 w4) := Below.refl _ _
  have hs4_w4 : g4 ≤ w4.heap.size := by omega
  have HBDE := Lib.hid hBDE
  have HSB := Lib.hid hSB
  rw [hvb]
  clear hBk hlen hr4 hvb hz4 hBDE hSB hz0 hg4
  go_wp2_with fail
  refine (HMN.out w4).mono ?_
  rintro e _ ⟨rfl, rfl⟩

  go_wp2_with fail
  have HB_x0 : Hid (Below g w w4.drew) := HB_w4.out.drew
  have hs_x0 : g ≤ w4.drew.heap.size := hs_w4
  have HN_x0 : Hid (NdAt w4.drew ⟨pA, pl, pc, kA, kl, kc, cA, cl, cc⟩ ⟨leaf, ps, ks, cs⟩) := HN_w4.out.keep (Below.refl _ _).drew
  have HX_x0 : Hid (Bx w4.drew g ⟨pA, pl, pc, kA, kl, kc, cA, cl, cc⟩ leaf) := HX_w4.out.keep (Below.refl _ _).drew
  have HSZ1 := Lib.hid (Size_any w4.drew ⟨pA, pl, pc, kA, kl, kc, cA, cl, cc⟩ ⟨leaf, ps, ks, cs⟩ HN_x0.out HF7.out)
  simp only [nv, ncs] at HSZ1
  obtain ⟨SZ, hSZ⟩ : ∃ SZ, Nd.size ⟨leaf, ps, ks, cs⟩ = SZ := ⟨_, rfl⟩
  rw [hSZ] at HSZ1
  have HSZE := Lib.hid hSZ
  clear hSZ
  refine wp_region_held_drew (S := fun W => W.cell? ⟨g, 0, none⟩ = some (.bool leaf) ∧ W.cell? ⟨g, 1, none⟩ = some (.slice pA pl pc) ∧ W.cell? ⟨g, 2, none⟩ = some (.slice kA kl kc) ∧ W.cell? ⟨g, 3, none⟩ = some (.slice cA cl cc)) (by kernel_rfl) (HX_x0.out.cells) (fun hHeld => ?_)
  refine wpAnyH_take (i := 0) (oi := { dst := some 31, op := Go.Op.move (Go.Operand.tmp 6), type := 28, pos := "law.go:44", after := #[], guard := none }) (v := ?vc0) rfl (by kernel_rfl) (by kernel_rfl) (by kernel_rfl) (fun _ _ _ h => h) (Or.inl ⟨by rfl, ?hyc0⟩) hHeld ?_
  case hyc0 => (intro w hSw; (try dsimp only at hSw); go_simp; first | done | with_reducible rfl)
  try simp only [Act.put, List.setIfInBounds_toArray, List.set_cons_zero, List.set_cons_succ]
  refine wpAnyH_take (i := 1) (oi := { dst := some 32, op := Go.Op.move (Go.Operand.tmp 5), type := 28, pos := "law.go:44", after := #[], guard := none }) (v := ?vc1) rfl (by kernel_rfl) (by kernel_rfl) (by kernel_rfl) (fun _ _ _ h => h) (Or.inl ⟨by rfl, ?hyc1⟩) hHeld ?_
  case hyc1 => (intro w hSw; (try dsimp only at hSw); go_simp; first | done | with_reducible rfl)
  try simp only [Act.put, List.setIfInBounds_toArray, List.set_cons_zero, List.set_cons_succ]
  refine wpAnyH_take (i := 2) (oi := { dst := some 33, op := Go.Op.binOp Go.BinOp.neq 28 (Go.Operand.tmp 31) (Go.Operand.tmp 32) 28, type := 4, pos := "law.go:44", after := #[{ on := 0, ground := Go.Ground.data }, { on := 1, ground := Go.Ground.data }], guard := none }) (v := ?vc2) rfl (by kernel_rfl) (by kernel_rfl) (by kernel_rfl) (fun _ _ _ h => h) (Or.inl ⟨by rfl, ?hyc2⟩) hHeld ?_
  case hyc2 => (intro w hSw; (try dsimp only at hSw); go_simp; first | done | with_reducible rfl)
  try simp only [Act.put, List.setIfInBounds_toArray, List.set_cons_zero, List.set_cons_succ]
  refine wpAnyH_take (i := 3) (oi := { dst := some 34, op := Go.Op.move (Go.Operand.tmp 33), type := 4, pos := "law.go:44", after := #[{ on := 2, ground := Go.Ground.data }], guard := none }) (v := ?vc3) rfl (by kernel_rfl) (by kernel_rfl) (by kernel_rfl) (fun _ _ _ h => h) (Or.inl ⟨by rfl, ?hyc3⟩) hHeld ?_
  case hyc3 => (intro w hSw; (try dsimp only at hSw); go_simp; first | done | with_reducible rfl)
  try simp only [Act.put, List.setIfInBounds_toArray, List.set_cons_zero, List.set_cons_succ]
  refine wpAnyH_take (i := 4) (oi := { dst := some 35, op := Go.Op.move (Go.Operand.tmp 8), type := 28, pos := "law.go:44", after := #[{ on := 3, ground := Go.Ground.guard }], guard := some (3, false) }) (v := ?vc4) rfl (by kernel_rfl) (by kernel_rfl) (by kernel_rfl) (fun _ _ _ h => h) (Or.inl ⟨by rfl, ?hyc4⟩) hHeld ?_
  case hyc4 => (intro w hSw; (try dsimp only at hSw); go_simp; first | done | with_reducible rfl)
  try simp only [Act.put, List.setIfInBounds_toArray, List.set_cons_zero, List.set_cons_succ]
  refine wpAnyH_take (i := 5) (oi := { dst := some 36, op := Go.Op.move (Go.Operand.tmp 5), type := 28, pos := "law.go:44", after := #[{ on := 3, ground := Go.Ground.guard }], guard := some (3, false) }) (v := ?vc5) rfl (by kernel_rfl) (by kernel_rfl) (by kernel_rfl) (fun _ _ _ h => h) (Or.inl ⟨by rfl, ?hyc5⟩) hHeld ?_
  case hyc5 => (intro w hSw; (try dsimp only at hSw); go_simp; first | done | with_reducible rfl)
  try simp only [Act.put, List.setIfInBounds_toArray, List.set_cons_zero, List.set_cons_succ]
  refine wpAnyH_take (i := 6) (oi := { dst := some 37, op := Go.Op.binOp Go.BinOp.neq 28 (Go.Operand.tmp 35) (Go.Operand.tmp 36) 28, type := 4, pos := "law.go:44", after := #[{ on := 4, ground := Go.Ground.data }, { on := 5, ground := Go.Ground.data }, { on := 3, ground := Go.Ground.guard }], guard := some (3, false) }) (v := ?vc6) rfl (by kernel_rfl) (by kernel_rfl) (by kernel_rfl) (fun _ _ _ h => h) (Or.inl ⟨by rfl, ?hyc6⟩) hHeld ?_
  case hyc6 => (intro w hSw; (try dsimp only at hSw); go_simp; first | done | with_reducible rfl)
  try simp only [Act.put, List.setIfInBounds_toArray, List.set_cons_zero, List.set_cons_succ]
  refine wpAnyH_take (i := 7) (oi := { dst := some 38, op := Go.Op.pick (Go.Operand.tmp 34) (Go.Operand.const (Go.Value.bool true)) (Go.Operand.tmp 37), type := 4, pos := "law.go:44", after := #[{ on := 3, ground := Go.Ground.data }, { on := 6, ground := Go.Ground.data }], guard := none }) (v := ?vc7) rfl (by kernel_rfl) (by kernel_rfl) (by kernel_rfl) (fun _ _ _ h => h) (Or.inl ⟨by rfl, ?hyc7⟩) hHeld ?_
  case hyc7 => (intro w hSw; (try dsimp only at hSw); go_simp; first | done | with_reducible rfl)
  try simp only [Act.put, List.setIfInBounds_toArray, List.set_cons_zero, List.set_cons_succ]
  refine wpAnyH_take (i := 8) (oi := { dst := some 39, op := Go.Op.move (Go.Operand.tmp 38), type := 4, pos := "law.go:44", after := #[{ on := 7, ground := Go.Ground.data }, { on := 3, ground := Go.Ground.chain }], guard := none }) (v := ?vc8) rfl (by kernel_rfl) (by kernel_rfl) (by kernel_rfl) (fun _ _ _ h => h) (Or.inl ⟨by rfl, ?hyc8⟩) hHeld ?_
  case hyc8 => (intro w hSw; (try dsimp only at hSw); go_simp; first | done | with_reducible rfl)
  try simp only [Act.put, List.setIfInBounds_toArray, List.set_cons_zero, List.set_cons_succ]
  refine wpAnyH_take (i := 9) (oi := { dst := some 40, op := Go.Op.load 26 (Go.Operand.tmp 2), type := 26, pos := "law.go:44", after := #[{ on := 8, ground := Go.Ground.guard }], guard := some (8, false) }) (v := ?vc9) rfl (by kernel_rfl) (by kernel_rfl) (by kernel_rfl) (fun _ _ _ h => h) (Or.inl ⟨by rfl, ?hyc9⟩) hHeld ?_
  case hyc9 => (intro w hSw; (try dsimp only at hSw); go_simp; first | done | with_reducible rfl)
  try simp only [Act.put, List.setIfInBounds_toArray, List.set_cons_zero, List.set_cons_succ]
  refine wpAnyH_take (i := 11) (oi := { dst := some 42, op := Go.Op.load 26 (Go.Operand.tmp 2), type := 26, pos := "law.go:44", after := #[{ on := 8, ground := Go.Ground.guard }], guard := some (8, false) }) (v := ?vc11) rfl (by kernel_rfl) (by kernel_rfl) (by kernel_rfl) (fun _ _ _ h => h) (Or.inl ⟨by rfl, ?hyc11⟩) hHeld ?_
  case hyc11 => (intro w hSw; (try dsimp only at hSw); go_simp; first | done | with_reducible rfl)
  try simp only [Act.put, List.setIfInBounds_toArray, List.set_cons_zero, List.set_cons_succ]
  refine wpAnyH_ready (rs := [10]) (by kernel_rfl) (by simp) ?_
  refine AllReadyH.cons (o := { dst := some 41, op := Go.Op.call { callee := Go.Callee.value (Go.Operand.func 13), args := #[Go.Operand.tmp 40], argTypes := #[26] }, type := 3, pos := "law.go:44", after := #[{ on := 9, ground := Go.Ground.data }, { on := 8, ground := Go.Ground.chain }, { on := 8, ground := Go.Ground.guard }], guard := some (8, false) }) rfl (fun K hK => ?_) AllReadyH.nil
  go_simp
  refine HSZ1.out.mono ?_
  rintro e y1 ⟨rfl, hb_y1⟩
  have HB4_y1 : Hid (Below g4 w4 y1) := HB4_w4.out.drew.trans (hb_y1.mono hs4_w4)
  have hs4_y1 : g4 ≤ y1.heap.size := Nat.le_trans hs4_w4 hb_y1.size
  have HB_y1 := Lib.hid (HB_x0.out.trans (hb_y1.mono hs_x0))
  have hs_y1 : g ≤ y1.heap.size := Nat.le_trans hs_x0 hb_y1.size
  have HN_y1 := Lib.hid (HH.out.keep (by rw [HG.out]; exact HB_y1.out))
  have HX_y1 := Lib.hid (HX_x0.out.keep hb_y1)
  clear hb_y1 HSZ1
  have HSZ2 := Lib.hid (rSize_any y1 ⟨pA, pl, pc, kA, kl, kc, cA, cl, cc⟩ ⟨leaf, ps, ks, cs⟩ HN_y1.out HF7.out)
  simp only [nv, ncs] at HSZ2
  rw [HSZE.out] at HSZ2
  go_wp2_with fail
  refine hK.out _ _ (HX_y1.out.cells) (fun hHeld => ?_)
  clear hK K
  try simp only [Act.put, List.setIfInBounds_toArray, List.set_cons_zero, List.set_cons_succ]
  refine wpAnyH_ready (rs := [12]) (by kernel_rfl) (by simp) ?_
  refine AllReadyH.cons (o := { dst := some 43, op := Go.Op.call { callee := Go.Callee.value (Go.Operand.func 14), args := #[Go.Operand.tmp 42], argTypes := #[26] }, type := 3, pos := "law.go:44", after := #[{ on := 11, ground := Go.Ground.data }, { on := 10, ground := Go.Ground.chain }, { on := 8, ground := Go.Ground.guard }], guard := some (8, false) }) rfl (fun K hK => ?_) AllReadyH.nil
  go_simp
  refine HSZ2.out.mono ?_
  rintro e y2 ⟨rfl, hb_y2⟩
  have HB4Y : Hid (Below g4 w4 y2) := HB4_y1.out.trans (hb_y2.mono hs4_y1)
  have HB_y2 := Lib.hid (HB_y1.out.trans (hb_y2.mono hs_y1))
  have hs_y2 : g ≤ y2.heap.size := Nat.le_trans hs_y1 hb_y2.size
  have HN_y2 := Lib.hid (HH.out.keep (by rw [HG.out]; exact HB_y2.out))
  have HX_y2 := Lib.hid (HX_y1.out.keep hb_y2)
  clear hb_y2 HSZ2
  go_wp2_with fail
  refine hK.out _ _ (HX_y2.out.cells) (fun hHeld => ?_)
  clear hK K
  try simp only [Act.put, List.setIfInBounds_toArray, List.set_cons_zero, List.set_cons_succ]
  refine wpAnyH_take (i := 13) (oi := { dst := some 44, op := Go.Op.binOp Go.BinOp.neq 3 (Go.Operand.tmp 41) (Go.Operand.tmp 43) 3, type := 4, pos := "law.go:44", after := #[{ on := 10, ground := Go.Ground.data }, { on := 12, ground := Go.Ground.data }, { on := 8, ground := Go.Ground.guard }], guard := some (8, false) }) (v := ?vc13) rfl (by kernel_rfl) (by kernel_rfl) (by kernel_rfl) (fun _ _ _ h => h) (Or.inl ⟨by rfl, ?hyc13⟩) hHeld ?_
  case hyc13 => (intro w hSw; (try dsimp only at hSw); go_simp; first | done | with_reducible rfl)
  try simp only [Act.put, List.setIfInBounds_toArray, List.set_cons_zero, List.set_cons_succ]
  refine wpAnyH_take (i := 14) (oi := { dst := some 45, op := Go.Op.pick (Go.Operand.tmp 39) (Go.Operand.const (Go.Value.bool true)) (Go.Operand.tmp 44), type := 4, pos := "law.go:44", after := #[{ on := 8, ground := Go.Ground.data }, { on := 13, ground := Go.Ground.data }], guard := none }) (v := ?vc14) rfl (by kernel_rfl) (by kernel_rfl) (by kernel_rfl) (fun _ _ _ h => h) (Or.inl ⟨by rfl, ?hyc14⟩) hHeld ?_
  case hyc14 => (intro w hSw; (try dsimp only at hSw); go_simp; first | done | with_reducible rfl)
  try simp only [Act.put, List.setIfInBounds_toArray, List.set_cons_zero, List.set_cons_succ]
  refine wpAnyH_done (by kernel_rfl) ?_ _

  have HB4_y2 : Hid (Below g4 w4 y2) := HB4Y
  have hs4_y2 : g4 ≤ y2.heap.size := by have := HB4_y2.out.size; omega
  go_wp2_with fail
  refine (HRN.out _).mono ?_
  rintro e _ ⟨rfl, rfl⟩
  go_wp2_with fail
  refine (HRM.out _).mono ?_
  rintro e _ ⟨rfl, rfl⟩
  have HB4_v0 : Hid (Below g4 w4 y2.drew) := HB4_y2.out.drew
  have hs4_v0 : g4 ≤ y2.drew.heap.size := hs4_y2
  have hz0 := HZ0.out
  have hBDE := HBDE.out
  go_wp2_with fail
  have HB_v0 : Hid (Below g w y2.drew) := HB_y2.out.drew
  have hs_v0 : g ≤ y2.drew.heap.size := hs_y2
  have HN_v0 : Hid (NdAt y2.drew ⟨pA, pl, pc, kA, kl, kc, cA, cl, cc⟩ ⟨leaf, ps, ks, cs⟩) := HN_y2.out.keep (Below.refl _ _).drew
  have HX_v0 : Hid (Bx y2.drew g ⟨pA, pl, pc, kA, kl, kc, cA, cl, cc⟩ leaf) := HX_y2.out.keep (Below.refl _ _).drew
  refine wp_region_held_drew (S := fun W => W.cell? ⟨g, 0, none⟩ = some (.bool leaf) ∧ W.cell? ⟨g, 1, none⟩ = some (.slice pA pl pc) ∧ W.cell? ⟨g, 2, none⟩ = some (.slice kA kl kc) ∧ W.cell? ⟨g, 3, none⟩ = some (.slice cA cl cc) ∧ (convert 30 9 vb).run Try.prog W = .ok (.string SB) W) (by kernel_rfl) (⟨HX_v0.out.cells.1, HX_v0.out.cells.2.1, HX_v0.out.cells.2.2.1, HX_v0.out.cells.2.2.2, HCV.out _ HB4_v0.out⟩) (fun hHeld => ?_)
  refine wpAnyH_ready (rs := [0]) (by kernel_rfl) (by simp) ?_
  refine AllReadyH.cons (o := { dst := some 79, op := Go.Op.call { callee := Go.Callee.value (Go.Operand.func 16), args := #[], argTypes := #[] }, type := 4, pos := "law.go:56", after := #[], guard := none }) rfl (fun K hK => ?_) AllReadyH.nil
  go_simp
  refine (awake_any _).mono ?_
  rintro e z1 ⟨rfl, hb_z1⟩
  have HB4_z1 := Lib.hid (HB4_v0.out.trans (hb_z1.mono hs4_v0))
  have hs4_z1 : g4 ≤ z1.heap.size := Nat.le_trans hs4_v0 hb_z1.size
  have HB_z1 := Lib.hid (HB_v0.out.trans (hb_z1.mono hs_v0))
  have hs_z1 : g ≤ z1.heap.size := Nat.le_trans hs_v0 hb_z1.size
  have HN_z1 := Lib.hid (HH.out.keep (by rw [HG.out]; exact HB_z1.out))
  have HX_z1 := Lib.hid (HX_v0.out.keep hb_z1)
  clear hb_z1
  have hcv1 := HCV.out z1 HB4_z1.out
  have HRB := Lib.hid (rBytes_any z1 ⟨pA, pl, pc, kA, kl, kc, cA, cl, cc⟩ ⟨leaf, ps, ks, cs⟩ HN_z1.out HF7.out n hz0)
  simp only [nv, ncs] at HRB
  rw [hBDE] at HRB
  go_wp2_with fail
  refine hK.out _ _ (⟨HX_z1.out.cells.1, HX_z1.out.cells.2.1, HX_z1.out.cells.2.2.1, HX_z1.out.cells.2.2.2, hcv1⟩) (fun hHeld => ?_)
  clear hK K
  try simp only [Act.put, List.setIfInBounds_toArray, List.set_cons_zero, List.set_cons_succ]
  refine wpAnyH_take (i := 1) (oi := { dst := some 80, op := Go.Op.move (Go.Operand.tmp 79), type := 4, pos := "law.go:56", after := #[{ on := 0, ground := Go.Ground.data }, { on := 0, ground := Go.Ground.chain }], guard := none }) (v := ?vd1) rfl (by kernel_rfl) (by kernel_rfl) (by kernel_rfl) (fun _ _ _ h => h) (Or.inl ⟨by rfl, ?hyd1⟩) hHeld ?_
  case hyd1 => (intro w hSw; (try dsimp only at hSw); go_simp; first | done | with_reducible rfl)
  try simp only [Act.put, List.setIfInBounds_toArray, List.set_cons_zero, List.set_cons_succ]
  refine wpAnyH_take (i := 2) (oi := { dst := some 81, op := Go.Op.move (Go.Operand.tmp 7), type := 30, pos := "law.go:56", after := #[{ on := 1, ground := Go.Ground.guard }], guard := some (1, true) }) (v := ?vd2) rfl (by kernel_rfl) (by kernel_rfl) (by kernel_rfl) (fun _ _ _ h => h) (Or.inl ⟨by rfl, ?hyd2⟩) hHeld ?_
  case hyd2 => (intro w hSw; (try dsimp only at hSw); go_simp; first | done | with_reducible rfl)
  try simp only [Act.put, List.setIfInBounds_toArray, List.set_cons_zero, List.set_cons_succ]
  refine wpAnyH_take (i := 4) (oi := { dst := some 83, op := Go.Op.load 26 (Go.Operand.tmp 2), type := 26, pos := "law.go:56", after := #[{ on := 1, ground := Go.Ground.guard }], guard := some (1, true) }) (v := ?vd4) rfl (by kernel_rfl) (by kernel_rfl) (by kernel_rfl) (fun _ _ _ h => h) (Or.inl ⟨by rfl, ?hyd4⟩) hHeld ?_
  case hyd4 => (intro w hSw; (try dsimp only at hSw); go_simp; first | done | with_reducible rfl)
  try simp only [Act.put, List.setIfInBounds_toArray, List.set_cons_zero, List.set_cons_succ]
  refine wpAnyH_take (i := 5) (oi := { dst := some 84, op := Go.Op.move (Go.Operand.tmp 1), type := 3, pos := "law.go:56", after := #[{ on := 1, ground := Go.Ground.guard }], guard := some (1, true) }) (v := ?vd5) rfl (by kernel_rfl) (by kernel_rfl) (by kernel_rfl) (fun _ _ _ h => h) (Or.inl ⟨by rfl, ?hyd5⟩) hHeld ?_
  case hyd5 => (intro w hSw; (try dsimp only at hSw); go_simp; first | done | with_reducible rfl)
  try simp only [Act.put, List.setIfInBounds_toArray, List.set_cons_zero, List.set_cons_succ]
  refine wpAnyH_take (i := 3) (oi := { dst := some 82, op := Go.Op.convert 30 9 (Go.Operand.tmp 81), type := 9, pos := "law.go:56", after := #[{ on := 2, ground := Go.Ground.data }, { on := 1, ground := Go.Ground.guard }], guard := some (1, true) }) (v := ?vd3) rfl (by kernel_rfl) (by kernel_rfl) (by kernel_rfl) (fun _ _ _ h => h) (Or.inl ⟨by rfl, ?hyd3⟩) hHeld ?_
  case hyd3 => (intro w hSw; (try dsimp only at hSw); go_simp; first | done | with_reducible rfl)
  try simp only [Act.put, List.setIfInBounds_toArray, List.set_cons_zero, List.set_cons_succ]
  refine wpAnyH_ready (rs := [6]) (by kernel_rfl) (by simp) ?_
  refine AllReadyH.cons (o := { dst := some 85, op := Go.Op.call { callee := Go.Callee.value (Go.Operand.func 18), args := #[Go.Operand.tmp 83, Go.Operand.tmp 84], argTypes := #[26, 3] }, type := 30, pos := "law.go:56", after := #[{ on := 4, ground := Go.Ground.data }, { on := 5, ground := Go.Ground.data }, { on := 1, ground := Go.Ground.chain }, { on := 1, ground := Go.Ground.guard }], guard := some (1, true) }) rfl (fun K hK => ?_) AllReadyH.nil
  go_simp
  refine HRB.out.mono ?_
  rintro e z2 ⟨⟨A2, c2, rfl, hr2⟩, hb_z2⟩
  have HB4_z2 := Lib.hid (HB4_z1.out.trans (hb_z2.mono hs4_z1))
  have HB_z2 := Lib.hid (HB_z1.out.trans (hb_z2.mono hs_z1))
  have hs_z2 : g ≤ z2.heap.size := Nat.le_trans hs_z1 hb_z2.size
  have HN_z2 := Lib.hid (HH.out.keep (by rw [HG.out]; exact HB_z2.out))
  have HX_z2 := Lib.hid (HX_z1.out.keep hb_z2)
  clear hb_z2 HRB
  have hcv2 := HCV.out z2 HB4_z2.out
  have e5 := string_rd z2 _ _ _ _ hr2
  generalize Value.slice A2 n c2 = v5 at e5 ⊢
  go_wp2_with fail
  refine hK.out _ _ (⟨HX_z2.out.cells.1, HX_z2.out.cells.2.1, HX_z2.out.cells.2.2.1, HX_z2.out.cells.2.2.2, hcv2⟩) (fun hHeld => ?_)
  clear hK K
  try simp only [Act.put, List.setIfInBounds_toArray, List.set_cons_zero, List.set_cons_succ]
  refine wpAnyH_ready (rs := [7]) (by kernel_rfl) (by simp) ?_
  refine AllReadyH.cons (o := { dst := some 86, op := Go.Op.convert 30 9 (Go.Operand.tmp 85), type := 9, pos := "law.go:56", after := #[{ on := 6, ground := Go.Ground.data }, { on := 1, ground := Go.Ground.guard }], guard := some (1, true) }) rfl (fun K hK => ?_) AllReadyH.nil
  go_simp
  refine hK.out _ _ (hHeld) (fun hHeld => ?_)
  clear hK K
  try simp only [Act.put, List.setIfInBounds_toArray, List.set_cons_zero, List.set_cons_succ]
  refine wpAnyH_take (i := 8) (oi := { dst := some 87, op := Go.Op.binOp Go.BinOp.eql 9 (Go.Operand.tmp 82) (Go.Operand.tmp 86) 9, type := 4, pos := "law.go:56", after := #[{ on := 3, ground := Go.Ground.data }, { on := 7, ground := Go.Ground.data }, { on := 1, ground := Go.Ground.guard }], guard := some (1, true) }) (v := ?vd8) rfl (by kernel_rfl) (by kernel_rfl) (by kernel_rfl) (fun _ _ _ h => h) (Or.inl ⟨by rfl, ?hyd8⟩) hHeld ?_
  case hyd8 => (intro w hSw; (try dsimp only at hSw); go_simp; first | done | with_reducible rfl)
  try simp only [Act.put, List.setIfInBounds_toArray, List.set_cons_zero, List.set_cons_succ]
  refine wpAnyH_take (i := 9) (oi := { dst := some 88, op := Go.Op.pick (Go.Operand.tmp 80) (Go.Operand.tmp 87) (Go.Operand.const (Go.Value.bool false)), type := 4, pos := "law.go:56", after := #[{ on := 1, ground := Go.Ground.data }, { on := 8, ground := Go.Ground.data }], guard := none }) (v := ?vd9) rfl (by kernel_rfl) (by kernel_rfl) (by kernel_rfl) (fun _ _ _ h => h) (Or.inl ⟨by rfl, ?hyd9⟩) hHeld ?_
  case hyd9 => (intro w hSw; (try dsimp only at hSw); go_simp; first | done | with_reducible rfl)
  try simp only [Act.put, List.setIfInBounds_toArray, List.set_cons_zero, List.set_cons_succ]
  refine wpAnyH_take (i := 10) (oi := { dst := some 4, op := Go.Op.assign (Go.Operand.tmp 88), type := 4, pos := "law.go:56", after := #[{ on := 9, ground := Go.Ground.data }, { on := 6, ground := Go.Ground.chain }, { on := 0, ground := Go.Ground.phase }, { on := 1, ground := Go.Ground.phase }, { on := 2, ground := Go.Ground.phase }, { on := 3, ground := Go.Ground.phase }, { on := 4, ground := Go.Ground.phase }, { on := 5, ground := Go.Ground.phase }, { on := 6, ground := Go.Ground.phase }, { on := 7, ground := Go.Ground.phase }, { on := 8, ground := Go.Ground.phase }, { on := 9, ground := Go.Ground.phase }], guard := none }) (v := ?vd10) rfl (by kernel_rfl) (by kernel_rfl) (by kernel_rfl) (fun _ _ _ h => h) (Or.inl ⟨by rfl, ?hyd10⟩) hHeld ?_
  case hyd10 => (intro w hSw; (try dsimp only at hSw); go_simp; first | done | with_reducible rfl)
  try simp only [Act.put, List.setIfInBounds_toArray, List.set_cons_zero, List.set_cons_succ]
  refine wpAnyH_done (by kernel_rfl) ?_ _

  go_wp2
  go_ret
  refine ⟨?_, HB_z2.out⟩
  have hfin : (SB.toList == BDE) = true := by rw [← HSB.out, ByteArray.toList_eq]; simp
  show Ending.returned (Value.bool (SB.toList == BDE)) = _
  rw [hfin]

set_option maxRecDepth 100000 in
theorem lifted (os : Os) (started : os.Started) (H : Type) (enc : TypeId × Value → H) :
    ReturnsInHanded {} Try.checked os 3 .any (Rows.nodeLaysSpec.pre6 enc Try.prog Try.f3 Rows.nodeLaysRow.domain false) (Rows.nodeLaysSpec.post enc Try.prog Try.f3 false true false false) := by
  refine returnsInHanded_of_change_sized (C := Try.checked) own started (by kernel_rfl) Try.func3
    (ChangeSpec.witness6 (enc := enc) (C := Try.checked) false ⟨#[], #[.agg #[.bool false, .slice none 0 0, .slice none 0 0, .slice none 0 0], .int .i64 0], []⟩ 8 (by kernel_rfl) (by kernel_rfl) (by kernel_rfl) (by kernel_rfl)) ?_
  intro W base args ds gs before hval0 hW hcnd hsz0 _
  have hval : ∀ (j : Nat) t v, Try.f3.params[j]? = some t → args[j]? = some v → Value.okWide Try.prog W .any base t v := hval0
  have hsz : (DataW.weightsEach Try.prog (Try.f3.params.toList ++ Rows.nodeLaysSpec.plain.varTypes Try.prog) (ds ++ gs)).all (· ≤ reachBytes) = true := hsz0
  have hW' := hW
  obtain ⟨p, q, hA0, hV, rfl, hfz, hnd⟩ := hW
  have hA : DataW.TrodAll enc Try.prog W 0 (fun _ => true) true Try.f3.params.toList args.toList ds p := hA0
  rw [Try.params3] at hA hval hsz
  obtain ⟨v0, vs0, d0, ds0, p0, q0, hargs, rfl, rfl, t0, r0⟩ := trodAll_cons hA
  obtain ⟨v1, vs1, d1, ds1, p1, q1, rfl, rfl, rfl, t1, r1⟩ := trodAll_cons r0
  obtain ⟨rfl, rfl, rfl⟩ := trodAll_nil r1
  obtain rfl : args = #[v0, v1] := by cases args; simp_all
  obtain ⟨rfl, rfl⟩ := trodVars_none hV
  have k0 := t0
  have lt0 : ∀ x ∈ p0, x.block < W.heap.size := by obtain ⟨m, hm⟩ := k0; exact DataW.trod_lt m _ _ _ hm
  obtain ⟨h0, N0, rfl, w0⟩ := (IsN.of (hval 0 26 v0 rfl rfl) k0 (fun n hn => by
    have := List.all_eq_true.1 hsz n (DataW.weights_mem_each (j := 0) (t := 26) rfl rfl n hn)
    simpa using this)).ex
  obtain ⟨a1, rfl, rfl, rfl, w1⟩ := open_int Try.underlying3 (hval 1 3 v1 rfl rfl) t1
  clear hA0 hval0
  refine (walk h0 N0 a1 W w0 w1).mono fun e W' ⟨he, bel⟩ => ?_
  subst he
  exact ⟨_, rfl, _, _, _, [], _, [], hW', trodAll_mk1 (shut_bool Try.underlying4 _), (trodAll_cons_mk (Below.trod laidOut (by kernel_rfl) (of_decide_eq_true (by kernel_rfl)) k0 bel lt0) (trodAll_cons_mk (shut_int Try.underlying3 w1) trodAll_mk0)), rfl, bel.frame _, fun h => by cases h⟩

theorem over : Rows.nodeLaysRow.holds Try.pinned (OpenSpec.ofChange Rows.nodeLaysSpec) :=
  OpenClaim.holds_of_wide 3 Try.f3 rfl rfl rfl rfl rfl rfl rfl ⟨rfl, rfl, rfl, rfl, rfl⟩ rfl rfl rfl rfl rfl (by kernel_rfl) Try.func3 (by kernel_rfl)
    (of_decide_eq_true (by kernel_rfl)) (by unfold Func.isWrapper; first | (rw [if_pos (by decide +kernel)]; kernel_rfl) | (rw [if_neg (by decide +kernel)]; exact ⟨rfl, rfl⟩))
    (fun os started H enc _ => lifted os started H enc)

/-- the statement. -/
theorem proved : Rows.NodeLaysSaid := over
#print axioms proved
end Go.Proofs.Ytedhcohpcdkgnaa.nodeLays
