/-
  The statement 'NodePlaces' (chandlerylaw08) holds at every input: the call returns true and leaves its arguments as they were. Conditions: none beyond the row's own.
-/
import Derived.Test.YtedhcohpcdkgnaaRows
import Derived.Test.YtedhcohpcdkgnaaArgN
import Derived.Test.YtedhcohpcdkgnaaN3
import Derived.Test.YtedhcohpcdkgnaaNB
import Derived.Test.YtedhcohpcdkgnaaNA
import Derived.WalkKit
import Derived.ProofKit
import Derived.OpenShut
import Derived.ChangeOld
import Derived.Below
namespace Go.Proofs.Ytedhcohpcdkgnaa.nodePlaces
open Go.ChangeShapes Go.WideShapes Go.ChangeAt Go.RowKit Go.Bs 
open Go.ChangeMaps (open_string shut_string)
set_option linter.unusedVariables false

theorem own : ownKnob Try.prog.godebug = none := by kernel_rfl
theorem laidOut : laidOutB Try.prog = true := by kernel_rfl

theorem placeR_pair {N : Nd} {key : ByteArray} {v : Value} (h : Go.Proofs.Ytedhcohpcdkgnaa.PlaceR N key v) : ∃ (k : Nat) (b : Bool), v = .tuple #[.int .i64 (k : Int), .bool b] := by
  unfold PlaceR at h
  cases hl : N.leaf
  · rw [hl] at h
    exact ⟨_, _, h⟩
  · rw [hl] at h
    obtain ⟨k, _, e⟩ := h
    exact ⟨_, _, e⟩

set_option maxRecDepth 100000 in
set_option maxHeartbeats 4000000 in
theorem walk (h0 : Hd) (N0 : Nd) (a1 : ByteArray) (w : World) (w0 : NdA w h0 N0) (w1 : a1.size ≤ maxLen) :
    Calls Try.prog 6 #[nv h0 N0.leaf, .string a1] w fun e w' => e = .returned (.bool true) ∧ Below w.heap.size w w' := by
  have w0' := w0
  obtain ⟨leaf, ps, ks, cs⟩ := N0
  obtain ⟨pA, pl, pc, kA, kl, kc, cA, cl, cc⟩ := h0
  obtain ⟨hN, hpm, hkm, hcm⟩ := w0
  have HH := Lib.hid hN
  have HPL : Hid (ps.length = pl) := hN.p.len
  have HKL : Hid (ks.length = kl) := hN.k.len
  have HCL : Hid (cs.length = cl) := hN.c.len
  have hpc : pl ≤ pc := hN.p.cap
  have hkc : kl ≤ kc := hN.k.cap
  have hcc : cl ≤ cc := hN.c.cap
  simp only at hpm hkm hcm
  clear hN
  obtain ⟨g, hg⟩ : ∃ g, w.heap.size = g := ⟨_, rfl⟩
  have HG := Lib.hid hg
  obtain ⟨W, hW⟩ : ∃ W, w.alloc (.cells (ncs ⟨pA, pl, pc, kA, kl, kc, cA, cl, cc⟩ leaf) 26) = W := ⟨_, rfl⟩
  have hbx : Bx W g ⟨pA, pl, pc, kA, kl, kc, cA, cl, cc⟩ leaf := by rw [← hW, ← hg]; exact Bx.new _ _ _
  have hbw : Below g w W := by rw [← hW, ← hg]; exact (Below.refl _ _).alloc (Nat.le_refl _) _
  obtain ⟨c0, c1, c2, c3⟩ := hbx.cells
  have HBX := Lib.hid hbx
  have HBW := Lib.hid hbw
  have hWg : g ≤ W.heap.size := by have := hbw.size; rw [hg] at this; exact this
  have HFEW := Lib.hid (few_any W ⟨pA, pl, pc, kA, kl, kc, cA, cl, cc⟩ ⟨leaf, ps, ks, cs⟩ (HH.out.keep (by rw [HG.out]; exact hbw)) hpm hkm hcm)
  simp only [nv, ncs] at HFEW
  unfold maxLen at hpm hkm hcm
  clear hbx hbw
  simp only [nv]
  rw [hg]
  unfold maxLen at w1
  clear w0'
  go_enter Try.func6, Try.ntmps6
  go_wp2_with fail
  refine HFEW.out.mono ?_
  rintro e w1 ⟨rfl | ⟨rfl, hfew⟩, hb1⟩
  · have HB1 := Lib.hid (HBW.out.trans (hb1.mono hWg))
    clear hb1 HFEW
    go_wp2
    go_ret
    exact ⟨rfl, HB1.out⟩
  have HB1 := Lib.hid (HBW.out.trans (hb1.mono hWg))
  have HBX1 := Lib.hid (HBX.out.keep hb1)
  have HF7 := Lib.hid (hfew.mono (show 200 ≤ 7000 by omega))
  have hpl2 : pl ≤ 200 := by rw [← HPL.out]; exact hfew.p
  have hkl2 : kl ≤ 200 := by rw [← HKL.out]; exact hfew.k
  clear hb1 hfew HFEW c0 c1 c2 c3
  by_cases hkey : 2000 < a1.size
  · go_wp2
    go_ret
    exact ⟨rfl, HB1.out⟩
  go_wp2
  go_loopw [5] (fun i wr => ∃ k : Nat, 1 ≤ k ∧ k ≤ pl + 1 ∧ i = .int .i64 k ∧ Bx wr g ⟨pA, pl, pc, kA, kl, kc, cA, cl, cc⟩ leaf ∧ Below g w wr) (fun i _ => pl + 1 - (intOf i).toNat)
  case atStart => exact ⟨1, Nat.le_refl _, by omega, rfl, HBX1.out, HB1.out⟩
  case round =>
    clear HB1 HBX1
    obtain ⟨k, hk0, hk1, rfl, hbx, hbl⟩ := hrel
    have hgs := hbl.size
    rw [HG.out] at hgs
    obtain ⟨d0, d1, d2, d3⟩ := hbx.cells
    have HBX2 := Lib.hid hbx
    have HBL := Lib.hid hbl
    clear hbx hbl
    by_cases hlt : k < pl
    · have hRP : RdP wr pA pl pc ps := HH.out.p.keep (by rw [HG.out]; exact HBL.out)
      obtain ⟨q, o, rfl, hq, hcell⟩ := hRP.cells (by omega)
      obtain ⟨e0, _⟩ := hcell k hlt
      obtain ⟨e1, _⟩ := hcell (k - 1) (by omega)
      obtain ⟨x, hx⟩ : ∃ x, (pAt ps k).1 = x := ⟨_, rfl⟩
      obtain ⟨y, hy⟩ : ∃ y, (pAt ps (k - 1)).1 = y := ⟨_, rfl⟩
      rw [hx] at e0
      rw [hy] at e1
      have q1 : IntKind.i64.wrap ((k : Int) - 1) = ((k - 1 : Nat) : Int) := by rw [IntWalk.i64_in _ (by omega)]; omega
      clear hx hy hcell hRP
      cases h1 : sle x y with
      | true =>
        go_wp2_with fail
        go_quiet (fail)
        go_wp2
        go_ret
        exact ⟨rfl, below_drewN HBL.out _⟩
      | false =>
        go_wp2_with fail
        go_quiet (fail)
        go_wp2
        go_roundw
        case rel => exact ⟨k + 1, by omega, by omega, by go_num, HBX2.out, below_drewN HBL.out _⟩
        case measure => simp [intOf]; omega
    · go_wp2
      go_loopw [6] (fun i wr => ∃ k : Nat, 1 ≤ k ∧ k ≤ kl + 1 ∧ i = .int .i64 k ∧ (∀ j, 1 ≤ j → j < k → sle (sAt ks j) (sAt ks (j - 1)) = false) ∧ Bx wr g ⟨pA, pl, pc, kA, kl, kc, cA, cl, cc⟩ leaf ∧ Below g w wr) (fun i _ => kl + 1 - (intOf i).toNat)
      case atStart => exact ⟨1, Nat.le_refl _, by omega, rfl, fun j h1 h2 => absurd h1 (by omega), HBX2.out, HBL.out⟩
      case round =>
        clear HBL HBX2 hgs d0 d1 d2 d3 hk0 hk1 hlt
        obtain ⟨k, hk0, hk1, rfl, hpr, hbx, hbl⟩ := hrel
        have HPR := Lib.hid hpr
        have hgs := hbl.size
        rw [HG.out] at hgs
        obtain ⟨d0, d1, d2, d3⟩ := hbx.cells
        have HBX2 := Lib.hid hbx
        have HBL := Lib.hid hbl
        clear hbx hbl hpr
        by_cases hlt : k < kl
        · have hRS : RdS wr kA kl kc ks := HH.out.k.keep (by rw [HG.out]; exact HBL.out)
          obtain ⟨q, o, rfl, hq, hcell⟩ := hRS.cells (by omega)
          have e0 := hcell k hlt
          have e1 := hcell (k - 1) (by omega)
          obtain ⟨x, hx⟩ : ∃ x, sAt ks k = x := ⟨_, rfl⟩
          obtain ⟨y, hy⟩ : ∃ y, sAt ks (k - 1) = y := ⟨_, rfl⟩
          rw [show ks.getD k ByteArray.empty = x from hx] at e0
          rw [show ks.getD (k - 1) ByteArray.empty = y from hy] at e1
          have HX := Lib.hid hx
          have HY := Lib.hid hy
          have q1 : IntKind.i64.wrap ((k : Int) - 1) = ((k - 1 : Nat) : Int) := by rw [IntWalk.i64_in _ (by omega)]; omega
          clear hx hy hcell hRS
          cases h1 : sle x y with
          | true =>
            go_wp2_with fail
            go_quiet (fail)
            go_wp2
            go_ret
            exact ⟨rfl, below_drewN HBL.out _⟩
          | false =>
            go_wp2_with fail
            go_quiet (fail)
            go_wp2
            go_roundw
            case rel =>
              refine ⟨k + 1, by omega, by omega, by go_num, fun j hj1 hj2 => ?_, HBX2.out, below_drewN HBL.out _⟩
              rcases Nat.lt_or_ge j k with h | h
              · exact HPR.out j hj1 h
              · obtain rfl : j = k := by omega
                rw [HX.out, HY.out]; exact h1
            case measure => simp [intOf]; omega
        · have HR : Hid (RiseS ks) := fun i h1 h2 => HPR.out i h1 (by rw [HKL.out] at h2; omega)
          have HPC := Lib.hid (Place_any wr ⟨pA, pl, pc, kA, kl, kc, cA, cl, cc⟩ ⟨leaf, ps, ks, cs⟩ (HH.out.keep (by rw [HG.out]; exact HBL.out)) HF7.out a1)
          simp only [nv, ncs] at HPC
          go_wp2_with fail
          refine HPC.out.mono ?_
          rintro e w3 ⟨⟨v, rfl, hv⟩, hb3⟩
          obtain ⟨i, b, hib⟩ := placeR_pair hv
          subst hib
          have HV := Lib.hid hv
          have HB3 := Lib.hid (HBL.out.trans (hb3.mono hgs))
          obtain ⟨f0, f1, f2, f3⟩ := (HBX2.out.keep hb3).cells
          have hgs3 : g ≤ w3.heap.size := Nat.le_trans hgs hb3.size
          have HRC := Lib.hid (rPlace_any w3 ⟨pA, pl, pc, kA, kl, kc, cA, cl, cc⟩ ⟨leaf, ps, ks, cs⟩ (HH.out.keep (by rw [HG.out]; exact HB3.out)) HF7.out a1)
          simp only [nv, ncs] at HRC
          clear hv hb3 HPC d0 d1 d2 d3
          go_wp2_with fail
          refine HRC.out.mono ?_
          rintro e w4 ⟨⟨v, rfl, hv⟩, hb4⟩
          have hsame := place_same HV.out hv (fun _ => HR.out)
          subst hsame
          have HB4 := Lib.hid (HB3.out.trans (hb4.mono hgs3))
          have hgs4 : g ≤ w4.heap.size := Nat.le_trans hgs3 hb4.size
          clear hv hb4 HRC
          go_wp2_with fail
          refine (awake_any w4).mono ?_
          rintro e w5 ⟨rfl, hb5⟩
          have HB5 := Lib.hid (HB4.out.trans (hb5.mono hgs4))
          clear hb5
          cases b <;> (go_wp2; go_ret; exact ⟨rfl, HB5.out⟩)

set_option maxRecDepth 100000 in
theorem lifted (os : Os) (started : os.Started) (H : Type) (enc : TypeId × Value → H) :
    ReturnsInHanded {} Try.checked os 6 .any (Rows.nodePlacesSpec.pre6 enc Try.prog Try.f6 Rows.nodePlacesRow.domain false) (Rows.nodePlacesSpec.post enc Try.prog Try.f6 false true false false) := by
  refine returnsInHanded_of_change_sized (C := Try.checked) own started (by kernel_rfl) Try.func6
    (ChangeSpec.witness6 (enc := enc) (C := Try.checked) false ⟨#[], #[.agg #[.bool false, .slice none 0 0, .slice none 0 0, .slice none 0 0], .string ByteArray.empty], []⟩ 8 (by kernel_rfl) (by kernel_rfl) (by kernel_rfl) (by kernel_rfl)) ?_
  intro W base args ds gs before hval0 hW hcnd hsz0 _
  have hval : ∀ (j : Nat) t v, Try.f6.params[j]? = some t → args[j]? = some v → Value.okWide Try.prog W .any base t v := hval0
  have hsz : (DataW.weightsEach Try.prog (Try.f6.params.toList ++ Rows.nodePlacesSpec.plain.varTypes Try.prog) (ds ++ gs)).all (· ≤ reachBytes) = true := hsz0
  have hW' := hW
  obtain ⟨p, q, hA0, hV, rfl, hfz, hnd⟩ := hW
  have hA : DataW.TrodAll enc Try.prog W 0 (fun _ => true) true Try.f6.params.toList args.toList ds p := hA0
  rw [Try.params6] at hA hval hsz
  obtain ⟨v0, vs0, d0, ds0, p0, q0, hargs, rfl, rfl, t0, r0⟩ := trodAll_cons hA
  obtain ⟨v1, vs1, d1, ds1, p1, q1, rfl, rfl, rfl, t1, r1⟩ := trodAll_cons r0
  obtain ⟨rfl, rfl, rfl⟩ := trodAll_nil r1
  obtain rfl : args = #[v0, v1] := by cases args; simp_all
  obtain ⟨rfl, rfl⟩ := trodVars_none hV
  have k0 := t0
  have lt0 : ∀ x ∈ p0, x.block < W.heap.size := by obtain ⟨m, hm⟩ := k0; exact DataW.trod_lt m _ _ _ hm
  obtain ⟨h0, N0, rfl, w0⟩ := (IsN.of (hval 0 26 v0 rfl rfl) k0 (fun n hn => by
    have := List.all_eq_true.1 hsz n (DataW.weights_mem_each (j := 0) (t := 26) rfl rfl n hn)
    simpa using this)).ex
  obtain ⟨a1, rfl, rfl, rfl, w1⟩ := open_string Try.underlying9 (hval 1 9 v1 rfl rfl) t1
  clear hA0 hval0
  refine (walk h0 N0 a1 W w0 w1).mono fun e W' ⟨he, bel⟩ => ?_
  subst he
  exact ⟨_, rfl, _, _, _, [], _, [], hW', trodAll_mk1 (shut_bool Try.underlying4 _), (trodAll_cons_mk (Below.trod laidOut (by kernel_rfl) (of_decide_eq_true (by kernel_rfl)) k0 bel lt0) (trodAll_cons_mk (shut_string Try.underlying9 w1) trodAll_mk0)), rfl, bel.frame _, fun h => by cases h⟩

theorem over : Rows.nodePlacesRow.holds Try.pinned (OpenSpec.ofChange Rows.nodePlacesSpec) :=
  OpenClaim.holds_of_wide 6 Try.f6 rfl rfl rfl rfl rfl rfl rfl ⟨rfl, rfl, rfl, rfl, rfl⟩ rfl rfl rfl rfl rfl (by kernel_rfl) Try.func6 (by kernel_rfl)
    (of_decide_eq_true (by kernel_rfl)) (by unfold Func.isWrapper; first | (rw [if_pos (by decide +kernel)]; kernel_rfl) | (rw [if_neg (by decide +kernel)]; exact ⟨rfl, rfl⟩))
    (fun os started H enc _ => lifted os started H enc)

/-- the statement. -/
theorem proved : Rows.NodePlacesSaid := over
#print axioms proved
end Go.Proofs.Ytedhcohpcdkgnaa.nodePlaces
