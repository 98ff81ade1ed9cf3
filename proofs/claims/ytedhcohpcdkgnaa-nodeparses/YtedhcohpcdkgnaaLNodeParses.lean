/-
  The statement 'NodeParses' (chandlerylaw08) holds at every input: the call returns true and leaves its arguments as they were. Conditions: none beyond the row's own.
-/
import Derived.Test.YtedhcohpcdkgnaaRows
import Derived.Test.YtedhcohpcdkgnaaArgN
import Derived.Test.YtedhcohpcdkgnaaNO
import Derived.Test.YtedhcohpcdkgnaaNA
import Derived.Test.YtedhcohpcdkgnaaNL
import Derived.Test.YtedhcohpcdkgnaaNM
import Derived.WalkKit
import Derived.ProofKit
import Derived.OpenShut
import Derived.ChangeOld
import Derived.Below
namespace Go.Proofs.Ytedhcohpcdkgnaa.nodeParses
open Go.ChangeShapes Go.WideShapes Go.ChangeAt Go.RowKit Go.Bs 
open Go.ChangeMaps (open_string shut_string)
set_option linter.unusedVariables false

theorem own : ownKnob Try.prog.godebug = none := by kernel_rfl
theorem laidOut : laidOutB Try.prog = true := by kernel_rfl


set_option maxRecDepth 100000 in
set_option maxHeartbeats 4000000 in
theorem walk (a0 : Option Addr) (len0 cap0 : Nat) (w : World) (w0 : IsB w a0 len0 cap0) :
    Calls Try.prog 4 #[.slice a0 len0 cap0] w fun e w' => e = .returned (.bool true) ∧ Below w.heap.size w w' := by
  obtain ⟨hlb, bs, hRB⟩ := w0
  have HRB := Lib.hid hRB
  have HBL := Lib.hid hRB.len
  have hbcap := hRB.cap
  unfold maxLen at hlb
  obtain ⟨g, hg⟩ : ∃ g, w.heap.size = g := ⟨_, rfl⟩
  have HG := Lib.hid hg
  by_cases hbig : 5000 < len0
  · go_enter Try.func4, Try.ntmps4
    go_wp2
    go_ret
    exact ⟨rfl, Below.refl _ _⟩
  have hn5 : len0 ≤ 5000 := by omega
  rw [hg]
  obtain ⟨W1, hW1⟩ : ∃ W1, w.alloc (.cells #[] 5) = W1 := ⟨_, rfl⟩
  have hE1 := Go.Bs.Own.empty w 5
  rw [hW1, hg] at hE1
  have hbW1 : Below g w W1 := by rw [← hW1, ← hg]; exact (Below.refl _ _).alloc (Nat.le_refl _) _
  have hsW1 : g ≤ W1.heap.size := by rw [← hW1]; simp [hg]
  have hRB1 := hRB.keep (by rw [hg]; exact hbW1)
  clear hRB
  go_enter Try.func4, Try.ntmps4
  go_wp2_with (at_builtin; refine wpList_app _ rfl (.tmp 11) (.tmp 12) 30 rfl g 5 Try.underlying30 u8_info _ [] rfl hE1 a0 len0 cap0 bs rfl hRB1 (by simp; omega) hsW1 ?_; intro v1 w1 ho1 hb1; obtain ⟨A1, c1, hv1, hr1⟩ := ho1.slice len0 (by simpa using HBL.out); subst hv1; rw [List.nil_append] at hr1; have HR1 := Lib.hid hr1; have HB_w1 := Lib.hid (hbW1.trans hb1); have hs_w1 : g ≤ w1.heap.size := (by have := HB_w1.out.size; omega); have HO1 := Lib.hid ho1; clear ho1 hb1 hE1 hRB1 hr1)
  refine (Parse_any w1 A1 len0 c1 bs HR1.out hn5).mono ?_
  rintro e p1 ⟨hpr, hb_p1⟩
  have HB_p1 := Lib.hid (HB_w1.out.trans (hb_p1.mono hs_w1))
  have hs_p1 : g ≤ p1.heap.size := Nat.le_trans hs_w1 hb_p1.size
  have HR2 := Lib.hid (HR1.out.keep hb_p1)
  clear hb_p1
  rcases hpr with ⟨hok, hd2, rfl, hnd2⟩ | ⟨hno, rfl⟩
  · obtain ⟨pA1, pl1, pc1, kA1, kl1, kc1, cA1, cl1, cc1⟩ := hd2
    have hfw := rdN_few bs (by rw [HBL.out]; exact hn5) hok.2.1
    obtain ⟨N, hN⟩ : ∃ N, (rdN bs).1 = N := ⟨_, rfl⟩
    rw [hN] at hfw hnd2
    obtain ⟨lf, hlf⟩ : ∃ lf, N.leaf = lf := ⟨_, rfl⟩
    have HN := Lib.hid hN
    have HLF := Lib.hid hlf
    simp only [nv, ncs]
    rw [hN, hlf]
    obtain ⟨P1, hP1⟩ : ∃ P, p1.alloc (.cells #[.bool lf, .slice pA1 pl1 pc1, .slice kA1 kl1 kc1, .slice cA1 cl1 cc1] 26) = P := ⟨_, rfl⟩
    have hbP1 : Below p1.heap.size p1 P1 := by rw [← hP1]; exact (Below.refl _ _).alloc (Nat.le_refl _) _
    have HR_P1 : Hid (P1.heap[p1.heap.size]? = some (.cells #[.bool lf, .slice pA1 pl1 pc1, .slice kA1 kl1 kc1, .slice cA1 cl1 cc1] 26 (0, 0))) := by rw [← hP1]; exact heap_alloc_new _ _
    have HB_P1 := Lib.hid (HB_p1.out.trans (hbP1.mono hs_p1))
    have hs_P1 : g ≤ P1.heap.size := Nat.le_trans hs_p1 hbP1.size
    obtain ⟨y1, hy1⟩ : ∃ y, p1.heap.size = y := ⟨_, rfl⟩
    rw [hy1] at HR_P1
    have hyl1 : y1 < P1.heap.size := (Array.getElem?_eq_some_iff.1 HR_P1.out).1
    have HND1 := Lib.hid (hnd2.keep hbP1)
    have HFW := Lib.hid hfw
    have HRP := Lib.hid (rParse_any P1 a0 len0 cap0 bs (HRB.out.keep (by rw [HG.out]; exact HB_P1.out)) hn5)
    clear hfw hnd2 hN hlf hbP1
    go_wp2_with fail
    refine HRP.out.mono ?_
    rintro e p2 ⟨hpr, hb_p2⟩
    have hpr2 := hpr.resolve_right (fun h => h.1 hok)
    obtain ⟨_, hd3, rfl, hnd3⟩ := hpr2
    obtain ⟨pA2, pl2, pc2, kA2, kl2, kc2, cA2, cl2, cc2⟩ := hd3
    rw [HN.out] at hnd3 ⊢
    rw [HLF.out]
    have HB_p2 := Lib.hid (HB_P1.out.trans (hb_p2.mono hs_P1))
    have hs_p2 : g ≤ p2.heap.size := Nat.le_trans hs_P1 hb_p2.size
    have HX2 : Hid (p2.heap[y1]? = some (.cells #[.bool lf, .slice pA1 pl1 pc1, .slice kA1 kl1 kc1, .slice cA1 cl1 cc1] 26 (0, 0))) := (hb_p2.block y1 hyl1).trans HR_P1.out
    have HBp12 := Lib.hid hb_p2
    simp only [nv, ncs]
    obtain ⟨P2, hP2⟩ : ∃ P, p2.alloc (.cells #[.bool lf, .slice pA2 pl2 pc2, .slice kA2 kl2 kc2, .slice cA2 cl2 cc2] 26) = P := ⟨_, rfl⟩
    have hbP2 : Below p2.heap.size p2 P2 := by rw [← hP2]; exact (Below.refl _ _).alloc (Nat.le_refl _) _
    have HR_P2 : Hid (P2.heap[p2.heap.size]? = some (.cells #[.bool lf, .slice pA2 pl2 pc2, .slice kA2 kl2 kc2, .slice cA2 cl2 cc2] 26 (0, 0))) := by rw [← hP2]; exact heap_alloc_new _ _
    have HB_P2 := Lib.hid (HB_p2.out.trans (hbP2.mono hs_p2))
    have hs_P2 : g ≤ P2.heap.size := Nat.le_trans hs_p2 hbP2.size
    obtain ⟨y2, hy2⟩ : ∃ y, p2.heap.size = y := ⟨_, rfl⟩
    rw [hy2] at HR_P2
    have hyl2 : y2 < P2.heap.size := (Array.getElem?_eq_some_iff.1 HR_P2.out).1
    have HBP12 : Hid (Below P1.heap.size P1 P2) := HBp12.out.trans (hbP2.mono HBp12.out.size)
    have HND2 := Lib.hid (hnd3.keep hbP2)
    have HBp1P2 : Hid (Below p1.heap.size p1 P2) := by
      have h1 : Below p1.heap.size p1 P1 := by rw [← hP1]; exact (Below.refl _ _).alloc (Nat.le_refl _) _
      exact h1.trans (HBP12.out.mono h1.size)
    have cv1 := string_rd P2 _ _ _ _ (HR2.out.keep HBp1P2.out)
    have cv2 := string_rd P2 _ _ _ _ (HRB.out.keep (by rw [HG.out]; exact HB_P2.out))
    clear hpr hnd3 hb_p2 hbP2 hok
    go_wp2_with fail
    refine (awake_any P2).mono ?_
    rintro e p3 ⟨rfl, hb_p3⟩
    have HB_p3 := Lib.hid (HB_P2.out.trans (hb_p3.mono hs_P2))
    have hs_p3 : g ≤ p3.heap.size := Nat.le_trans hs_P2 hb_p3.size
    have HX3 : Hid (p3.heap[y1]? = some (.cells #[.bool lf, .slice pA1 pl1 pc1, .slice kA1 kl1 kc1, .slice cA1 cl1 cc1] 26 (0, 0))) := ((HBP12.out.trans (hb_p3.mono HBP12.out.size)).block y1 hyl1).trans HR_P1.out
    have HY3 : Hid (p3.heap[y2]? = some (.cells #[.bool lf, .slice pA2 pl2 pc2, .slice kA2 kl2 kc2, .slice cA2 cl2 cc2] 26 (0, 0))) := (hb_p3.block y2 hyl2).trans HR_P2.out
    have d0 : p3.cell? ⟨y1, 0, none⟩ = some (.bool lf) := by rw [cell_of_row p3 y1 _ _ 26 (0, 0) HX3.out]; rfl
    have d1 : p3.cell? ⟨y1, 1, none⟩ = some (.slice pA1 pl1 pc1) := by rw [cell_of_row p3 y1 _ _ 26 (0, 0) HX3.out]; rfl
    have d2 : p3.cell? ⟨y1, 2, none⟩ = some (.slice kA1 kl1 kc1) := by rw [cell_of_row p3 y1 _ _ 26 (0, 0) HX3.out]; rfl
    have d3 : p3.cell? ⟨y1, 3, none⟩ = some (.slice cA1 cl1 cc1) := by rw [cell_of_row p3 y1 _ _ 26 (0, 0) HX3.out]; rfl
    have r0 : p3.cell? ⟨y2, 0, none⟩ = some (.bool lf) := by rw [cell_of_row p3 y2 _ _ 26 (0, 0) HY3.out]; rfl
    have r1 : p3.cell? ⟨y2, 1, none⟩ = some (.slice pA2 pl2 pc2) := by rw [cell_of_row p3 y2 _ _ 26 (0, 0) HY3.out]; rfl
    have r2 : p3.cell? ⟨y2, 2, none⟩ = some (.slice kA2 kl2 kc2) := by rw [cell_of_row p3 y2 _ _ 26 (0, 0) HY3.out]; rfl
    have r3 : p3.cell? ⟨y2, 3, none⟩ = some (.slice cA2 cl2 cc2) := by rw [cell_of_row p3 y2 _ _ 26 (0, 0) HY3.out]; rfl
    have HSA := Lib.hid (Same_any p3 ⟨pA1, pl1, pc1, kA1, kl1, kc1, cA1, cl1, cc1⟩ ⟨pA2, pl2, pc2, kA2, kl2, kc2, cA2, cl2, cc2⟩ N (HND1.out.keep (HBP12.out.trans (hb_p3.mono HBP12.out.size))) (HND2.out.keep hb_p3) HFW.out)
    simp only [nv, ncs] at HSA
    rw [HLF.out] at HSA
    clear hb_p3 cv1 cv2
    go_wp2_with fail
    refine HSA.out.mono ?_
    rintro e p4 ⟨rfl, hb_p4⟩
    have HB_p4 := Lib.hid (HB_p3.out.trans (hb_p4.mono hs_p3))
    clear hb_p4 d0 d1 d2 d3 r0 r1 r2 r3
    go_wp2
    go_ret
    exact ⟨rfl, HB_p4.out⟩
  · simp only [nv, ncs, hd0]
    obtain ⟨P1, hP1⟩ : ∃ P, p1.alloc (.cells #[.bool false, .slice none 0 0, .slice none 0 0, .slice none 0 0] 26) = P := ⟨_, rfl⟩
    have hbP1 : Below p1.heap.size p1 P1 := by rw [← hP1]; exact (Below.refl _ _).alloc (Nat.le_refl _) _
    have HR_P1 : Hid (P1.heap[p1.heap.size]? = some (.cells #[.bool false, .slice none 0 0, .slice none 0 0, .slice none 0 0] 26 (0, 0))) := by rw [← hP1]; exact heap_alloc_new _ _
    have HB_P1 := Lib.hid (HB_p1.out.trans (hbP1.mono hs_p1))
    have hs_P1 : g ≤ P1.heap.size := Nat.le_trans hs_p1 hbP1.size
    obtain ⟨y1, hy1⟩ : ∃ y, p1.heap.size = y := ⟨_, rfl⟩
    rw [hy1] at HR_P1
    have hyl1 : y1 < P1.heap.size := (Array.getElem?_eq_some_iff.1 HR_P1.out).1
    have HRP := Lib.hid (rParse_any P1 a0 len0 cap0 bs (HRB.out.keep (by rw [HG.out]; exact HB_P1.out)) hn5)
    have HP1 := Lib.hid hP1
    have HBp1P1 := Lib.hid hbP1
    clear hbP1 hP1
    go_wp2_with fail
    rw [HP1.out]
    refine HRP.out.mono ?_
    rintro e p2 ⟨hpr, hb_p2⟩
    have hpr2 := hpr.resolve_left (fun h => hno h.1)
    obtain ⟨_, rfl⟩ := hpr2
    have HB_p2 := Lib.hid (HB_P1.out.trans (hb_p2.mono hs_P1))
    have hs_p2 : g ≤ p2.heap.size := Nat.le_trans hs_P1 hb_p2.size
    have HBp12 := Lib.hid hb_p2
    simp only [nv, ncs, hd0]
    obtain ⟨P2, hP2⟩ : ∃ P, p2.alloc (.cells #[.bool false, .slice none 0 0, .slice none 0 0, .slice none 0 0] 26) = P := ⟨_, rfl⟩
    have hbP2 : Below p2.heap.size p2 P2 := by rw [← hP2]; exact (Below.refl _ _).alloc (Nat.le_refl _) _
    have HR_P2 : Hid (P2.heap[p2.heap.size]? = some (.cells #[.bool false, .slice none 0 0, .slice none 0 0, .slice none 0 0] 26 (0, 0))) := by rw [← hP2]; exact heap_alloc_new _ _
    have HB_P2 := Lib.hid (HB_p2.out.trans (hbP2.mono hs_p2))
    have hs_P2 : g ≤ P2.heap.size := Nat.le_trans hs_p2 hbP2.size
    obtain ⟨y2, hy2⟩ : ∃ y, p2.heap.size = y := ⟨_, rfl⟩
    rw [hy2] at HR_P2
    have hyl2 : y2 < P2.heap.size := (Array.getElem?_eq_some_iff.1 HR_P2.out).1
    have HBP12 : Hid (Below P1.heap.size P1 P2) := HBp12.out.trans (hbP2.mono HBp12.out.size)
    have HBp1P2 : Hid (Below p1.heap.size p1 P2) := HBp1P1.out.trans (HBP12.out.mono HBp1P1.out.size)
    have cv1 := string_rd P2 _ _ _ _ (HR2.out.keep HBp1P2.out)
    have cv2 := string_rd P2 _ _ _ _ (HRB.out.keep (by rw [HG.out]; exact HB_P2.out))
    rw [← hP2] at cv1 cv2
    have HP2 := Lib.hid hP2
    clear hpr hb_p2 hbP2 hP2
    go_wp2_with fail
    rw [HP2.out]
    refine (awake_any P2).mono ?_
    rintro e p3 ⟨rfl, hb_p3⟩
    have HB_p3 := Lib.hid (HB_P2.out.trans (hb_p3.mono hs_P2))
    have hs_p3 : g ≤ p3.heap.size := Nat.le_trans hs_P2 hb_p3.size
    have HX3 : Hid (p3.heap[y1]? = some (.cells #[.bool false, .slice none 0 0, .slice none 0 0, .slice none 0 0] 26 (0, 0))) := ((HBP12.out.trans (hb_p3.mono HBP12.out.size)).block y1 hyl1).trans HR_P1.out
    have d0 : p3.cell? ⟨y1, 0, none⟩ = some (.bool false) := by rw [cell_of_row p3 y1 _ _ 26 (0, 0) HX3.out]; rfl
    have d1 : p3.cell? ⟨y1, 1, none⟩ = some (.slice none 0 0) := by rw [cell_of_row p3 y1 _ _ 26 (0, 0) HX3.out]; rfl
    have d2 : p3.cell? ⟨y1, 2, none⟩ = some (.slice none 0 0) := by rw [cell_of_row p3 y1 _ _ 26 (0, 0) HX3.out]; rfl
    have d3 : p3.cell? ⟨y1, 3, none⟩ = some (.slice none 0 0) := by rw [cell_of_row p3 y1 _ _ 26 (0, 0) HX3.out]; rfl
    have HSA := Lib.hid (Same_any p3 ⟨none, 0, 0, none, 0, 0, none, 0, 0⟩ ⟨none, 0, 0, none, 0, 0, none, 0, 0⟩ ⟨false, [], [], []⟩ ⟨RdP.nil _ _ _, RdS.nil _ _ _, RdI.nil _ _ _⟩ ⟨RdP.nil _ _ _, RdS.nil _ _ _, RdI.nil _ _ _⟩ ⟨by simp, by simp, by simp, by simp, by simp⟩)
    simp only [nv, ncs] at HSA
    clear hb_p3 cv1 cv2
    go_wp2_with fail
    refine HSA.out.mono ?_
    rintro e p4 ⟨rfl, hb_p4⟩
    have HB_p4 := Lib.hid (HB_p3.out.trans (hb_p4.mono hs_p3))
    clear hb_p4 d0 d1 d2 d3
    go_wp2
    go_ret
    exact ⟨rfl, HB_p4.out⟩

set_option maxRecDepth 100000 in
theorem lifted (os : Os) (started : os.Started) (H : Type) (enc : TypeId × Value → H) :
    ReturnsInHanded {} Try.checked os 4 .any (Rows.nodeParsesSpec.pre6 enc Try.prog Try.f4 Rows.nodeParsesRow.domain false) (Rows.nodeParsesSpec.post enc Try.prog Try.f4 false true false false) := by
  refine returnsInHanded_of_change_sized (C := Try.checked) own started (by kernel_rfl) Try.func4
    (ChangeSpec.witness6 (enc := enc) (C := Try.checked) false ⟨#[], #[.slice none 0 0], []⟩ 8 (by kernel_rfl) (by kernel_rfl) (by kernel_rfl) (by kernel_rfl)) ?_
  intro W base args ds gs before hval0 hW hcnd hsz0 _
  have hval : ∀ (j : Nat) t v, Try.f4.params[j]? = some t → args[j]? = some v → Value.okWide Try.prog W .any base t v := hval0
  have hsz : (DataW.weightsEach Try.prog (Try.f4.params.toList ++ Rows.nodeParsesSpec.plain.varTypes Try.prog) (ds ++ gs)).all (· ≤ reachBytes) = true := hsz0
  have hW' := hW
  obtain ⟨p, q, hA0, hV, rfl, hfz, hnd⟩ := hW
  have hA : DataW.TrodAll enc Try.prog W 0 (fun _ => true) true Try.f4.params.toList args.toList ds p := hA0
  rw [Try.params4] at hA hval hsz
  obtain ⟨v0, vs0, d0, ds0, p0, q0, hargs, rfl, rfl, t0, r0⟩ := trodAll_cons hA
  obtain ⟨rfl, rfl, rfl⟩ := trodAll_nil r0
  obtain rfl : args = #[v0] := by cases args; simp_all
  obtain ⟨rfl, rfl⟩ := trodVars_none hV
  obtain ⟨a0, len0, cap0, rfl⟩ := okWide_slice Try.underlying30 (hval 0 30 v0 rfl rfl)
  have k0 := t0
  have lt0 : ∀ x ∈ p0, x.block < W.heap.size := by obtain ⟨m, hm⟩ := k0; exact DataW.trod_lt m _ _ _ hm
  have w0 : IsB W a0 len0 cap0 := by
    obtain ⟨fuel, hf⟩ := t0
    exact IsB.of hf
  clear hA0 hval0
  refine (walk a0 len0 cap0 W w0).mono fun e W' ⟨he, bel⟩ => ?_
  subst he
  exact ⟨_, rfl, _, _, _, [], _, [], hW', trodAll_mk1 (shut_bool Try.underlying4 _), (trodAll_cons_mk (Below.trod laidOut (by kernel_rfl) (of_decide_eq_true (by kernel_rfl)) k0 bel lt0) trodAll_mk0), rfl, bel.frame _, fun h => by cases h⟩

theorem over : Rows.nodeParsesRow.holds Try.pinned (OpenSpec.ofChange Rows.nodeParsesSpec) :=
  OpenClaim.holds_of_wide 4 Try.f4 rfl rfl rfl rfl rfl rfl rfl ⟨rfl, rfl, rfl, rfl, rfl⟩ rfl rfl rfl rfl rfl (by kernel_rfl) Try.func4 (by kernel_rfl)
    (of_decide_eq_true (by kernel_rfl)) (by unfold Func.isWrapper; first | (rw [if_pos (by decide +kernel)]; kernel_rfl) | (rw [if_neg (by decide +kernel)]; exact ⟨rfl, rfl⟩))
    (fun os started H enc _ => lifted os started H enc)

/-- the statement. -/
theorem proved : Rows.NodeParsesSaid := over
#print axioms proved
end Go.Proofs.Ytedhcohpcdkgnaa.nodeParses
