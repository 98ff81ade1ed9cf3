/- Whether a node may be, the document's answer. Conditions: none. -/
import Derived.Test.YtedhcohpcdkgnaaN2b
import Derived.Test.YtedhcohpcdkgnaaN7
namespace Go.Proofs.Ytedhcohpcdkgnaa
theorem wpQuiet_skip {P : Program} {ops : Array Oper} {C : World → Prop} {Q : Act → Prop} {a : Act} {o : Oper} {rest : List Oper} (hw : Region.wanted o (yielded ops a.tmps) = false) (h : wpQuiet P ops C Q rest (a.put o.dst undef)) : wpQuiet P ops C Q (o :: rest) a := by
  simp only [wpQuiet, hw]
  exact h
end Go.Proofs.Ytedhcohpcdkgnaa
namespace Go.Bs
open Go.RowKit
theorem sle_nil_left {x : ByteArray} (h : x.toList.isEmpty = true) (l : ByteArray) : sle x l = true := by
  have h1 : x.toList = [] := List.isEmpty_iff.1 h
  unfold sle
  rw [h1]
  cases l.toList <;> rfl
theorem sle_nil_right {x : ByteArray} (h : x.toList.isEmpty = false) : sle x ⟨#[]⟩ = false := by
  unfold sle
  have : (⟨#[]⟩ : ByteArray).toList = [] := by rw [ByteArray.toList_eq]
  rw [this]
  cases hx : x.toList with
  | nil => rw [hx] at h; cases h
  | cons a l => rfl
def Nd.shape (N : Nd) : Bool := if N.leaf then (N.ks.length == 0 && N.cs.length == 0) else (N.ps.length == 0 && N.cs.length == N.ks.length + 1)
theorem fits_eq (N : Nd) (m : Nat) : N.fits m = (N.shape && (allOk N.ps.length (badP m N.ps) && (allOk N.ks.length (badS m N.ks) && allOk N.cs.length (badC N.cs)))) := by
  unfold Nd.fits Nd.shape
  have z : ∀ f, allOk 0 f = true := fun f => rfl
  cases N.leaf
  · simp only [Bool.false_eq_true, if_false]
    by_cases h : N.ps.length = 0
    · rw [h, z]
      cases allOk N.ks.length (badS m N.ks) <;> cases (N.cs.length == N.ks.length + 1) <;> cases allOk N.cs.length (badC N.cs) <;> rfl
    · have : (N.ps.length == 0) = false := by simpa using h
      rw [this]; rfl
  · simp only [if_true]
    by_cases h : N.ks.length = 0
    · by_cases h2 : N.cs.length = 0
      · rw [h, h2, z, z]
        cases allOk N.ps.length (badP m N.ps) <;> rfl
      · have : (N.cs.length == 0) = false := by simpa using h2
        rw [this, Bool.and_false]; rfl
    · have : (N.ks.length == 0) = false := by simpa using h
      rw [this]; rfl
end Go.Bs
namespace Go.Proofs.Ytedhcohpcdkgnaa
open Go.RowKit Go.Bs

set_option maxRecDepth 100000 in
set_option maxHeartbeats 8000000 in
theorem rCheck_any (w : World) (h : Hd) (N : Nd) (H : NdAt w h N) (hF : N.Few 7000) (b : Int) :
    Calls Try.prog 9 #[nv h N.leaf, .int .i64 b] w fun e w' => e = .returned (.int .i64 (N.chk b)) ∧ Below w.heap.size w w' := by
  by_cases hrg : 64 ≤ b ∧ b ≤ 4096
  case neg =>
    have hR : N.chk b = 1 := by unfold Nd.chk; rw [if_neg hrg]
    rw [hR]
    have hrd : (decide (64 ≤ b) && decide (b ≤ 4096)) = false := by
      by_cases h1 : 64 ≤ b
      · rw [decide_eq_false (show ¬ b ≤ 4096 from fun h2 => hrg ⟨h1, h2⟩), Bool.and_false]
      · rw [decide_eq_false h1]; rfl
    have HRA := Lib.hid (Range_any b (w.alloc (.cells (ncs h N.leaf) 26)))
    rw [hrd] at HRA
    have HBB : Hid (Below w.heap.size w (w.alloc (.cells (ncs h N.leaf) 26))) := (Below.refl _ _).alloc (Nat.le_refl _) _
    simp only [nv]
    clear H hF hR hrd hrg
    go_enter Try.func9, Try.ntmps9
    go_wp2_with fail
    refine HRA.out.mono ?_
    rintro e w1 ⟨rfl, rfl⟩
    go_wp2
    go_ret
    exact ⟨rfl, HBB.out⟩
  obtain ⟨n, rfl⟩ := Int.eq_ofNat_of_zero_le (show 0 ≤ b by omega)
  have hn1 : 64 ≤ n := by omega
  have hn2 : n ≤ 4096 := by omega
  have hrd : (decide (64 ≤ (n : Int)) && decide ((n : Int) ≤ 4096)) = true := by rw [decide_eq_true hrg.1, decide_eq_true hrg.2]; rfl
  obtain ⟨R, hR⟩ : ∃ R, N.chk (n : Int) = R := ⟨_, rfl⟩
  rw [hR]
  have hchk : R = if N.fits (mostN n) then (if (n : Int) < (N.size : Int) then 2 else 0) else 1 := by
    rw [← hR]; unfold Nd.chk; rw [if_pos hrg]; rfl
  rw [fits_eq] at hchk
  obtain ⟨S, hS⟩ : ∃ S, N.size = S := ⟨_, rfl⟩
  rw [hS] at hchk
  have HS := Lib.hid hS
  clear hR hrg hS
  have HH := Lib.hid H
  have HF := Lib.hid hF
  obtain ⟨leaf, ps, ks, cs⟩ := N
  obtain ⟨pA, pl, pc, kA, kl, kc, cA, cl, cc⟩ := h
  have hpl : ps.length = pl := H.p.len
  have hkl : ks.length = kl := H.k.len
  have hcl : cs.length = cl := H.c.len
  have hpc : pl ≤ pc := H.p.cap
  have hkc : kl ≤ kc := H.k.cap
  have hcc : cl ≤ cc := H.c.cap
  have hp := hF.p
  have hk := hF.k
  have hc := hF.c
  simp only at hp hk hc
  rw [hpl] at hp
  rw [hkl] at hk
  rw [hcl] at hc
  clear hF
  have HPL := Lib.hid hpl
  have HKL := Lib.hid hkl
  have HCL := Lib.hid hcl
  clear H hpl hkl hcl
  obtain ⟨g, hg⟩ : ∃ g, w.heap.size = g := ⟨_, rfl⟩
  have HG := Lib.hid hg
  obtain ⟨W, hW⟩ : ∃ W, w.alloc (.cells (ncs ⟨pA, pl, pc, kA, kl, kc, cA, cl, cc⟩ leaf) 26) = W := ⟨_, rfl⟩
  have hbx : Bx W g ⟨pA, pl, pc, kA, kl, kc, cA, cl, cc⟩ leaf := by rw [← hW, ← hg]; exact Bx.new _ _ _
  have hbw : Below g w W := by rw [← hW, ← hg]; exact (Below.refl _ _).alloc (Nat.le_refl _) _
  obtain ⟨c0, c1, c2, c3⟩ := hbx.cells
  have HBX := Lib.hid hbx
  have HBW := Lib.hid hbw
  clear hbx hbw
  simp only [nv]
  rw [hg]
  have hbw2 : Below w.heap.size w W := by rw [HG.out]; exact HBW.out
  have hWg : g ≤ W.heap.size := by have := HBW.out.size; rw [HG.out] at this; exact this
  have HRA := Lib.hid (Range_any (n : Int) W)
  have HMO := Lib.hid (rMost_yes n hn1 hn2 W)
  rw [hrd] at HRA
  obtain ⟨most, hmost⟩ : ∃ most, mostN n = most := ⟨_, rfl⟩
  rw [show (n - 16) / 4 - 4 = most from hmost] at HMO
  have hmle : most ≤ 1100 := by rw [← hmost]; exact mostN_le n hn2
  rw [hmost] at hchk
  simp only [Nd.shape] at hchk
  rw [HPL.out, HKL.out, HCL.out] at hchk
  clear hbw2 hrd hmost
  obtain ⟨sh, hsh⟩ : ∃ sh, (if leaf = true then (kl == 0 && cl == 0) else (pl == 0 && cl == kl + 1)) = sh := ⟨_, rfl⟩
  rw [hsh] at hchk
  cases sh with
  | false =>
    have HR : Hid (R = 1) := by show R = 1; rw [hchk]; rfl
    clear hchk
    cases leaf with
    | true =>
      simp only [if_true, Bool.and_eq_false_iff] at hsh
      have hpos : 0 < kl + cl := by
        rcases hsh with h | h
        · have : kl ≠ 0 := by simpa using h
          omega
        · have : cl ≠ 0 := by simpa using h
          omega
      clear hsh
      go_enter Try.func9, Try.ntmps9
      go_wp2_with fail
      refine HRA.out.mono ?_
      rintro e w1 ⟨rfl, rfl⟩
      go_wp2_with fail
      refine HMO.out.mono ?_
      rintro e w1 ⟨rfl, rfl⟩
      go_wp2
      go_ret
      exact ⟨by rw [HR.out]; rfl, HBW.out⟩
    | false =>
      simp only [Bool.false_eq_true, if_false, Bool.and_eq_false_iff] at hsh
      by_cases hp0 : 0 < pl
      · clear hsh
        go_enter Try.func9, Try.ntmps9
        go_wp2_with fail
        refine HRA.out.mono ?_
        rintro e w1 ⟨rfl, rfl⟩
        go_wp2_with fail
        refine HMO.out.mono ?_
        rintro e w1 ⟨rfl, rfl⟩
        go_wp2
        go_ret
        exact ⟨by rw [HR.out]; rfl, HBW.out⟩
      · have hne : ((cl : Int) != (kl : Int) + 1) = true := by
          rcases hsh with h | h
          · have : pl ≠ 0 := by simpa using h
            omega
          · have : cl ≠ kl + 1 := by simpa using h
            simp; omega
        have hne2 : ¬ cl = kl + 1 := by
          intro e; subst e; simp at hne
        clear hsh
        go_enter Try.func9, Try.ntmps9
        go_wp2_with fail
        refine HRA.out.mono ?_
        rintro e w1 ⟨rfl, rfl⟩
        go_wp2_with fail
        refine HMO.out.mono ?_
        rintro e w1 ⟨rfl, rfl⟩
        go_wp2
        go_ret
        exact ⟨by rw [HR.out]; rfl, HBW.out⟩
  | true =>
    have HR1 : Hid ((allOk pl (badP most ps) && (allOk kl (badS most ks) && allOk cl (badC cs))) = false → R = 1) := by
      intro h; rw [hchk, h]; rfl
    have HR2 : Hid ((allOk pl (badP most ps) && (allOk kl (badS most ks) && allOk cl (badC cs))) = true → R = if (n : Int) < (S : Int) then 2 else 0) := by
      intro h; rw [hchk, h]; rfl
    clear hchk
    cases leaf with
    | true =>
      simp only [if_true, Bool.and_eq_true, beq_iff_eq] at hsh
      obtain ⟨hk0, hc0⟩ := hsh
      subst hk0 hc0
      go_enter Try.func9, Try.ntmps9
      go_wp2_with fail
      refine HRA.out.mono ?_
      rintro e w1 ⟨rfl, rfl⟩
      go_wp2_with fail
      refine HMO.out.mono ?_
      rintro e w1 ⟨rfl, rfl⟩
      go_wp2
      go_loopw [6] (fun i wr => ∃ k : Nat, k ≤ pl ∧ i = .int .i64 k ∧ (∀ j, j < k → badP most ps j = false) ∧ Bx wr g ⟨pA, pl, pc, kA, 0, kc, cA, 0, cc⟩ true ∧ Below g w wr) (fun i _ => pl - (intOf i).toNat)
      case atStart => exact ⟨0, Nat.zero_le _, rfl, fun j hj => absurd hj (by omega), HBX.out, HBW.out⟩
      case round =>
        obtain ⟨k, hk1, rfl, hpr, hbx, hbl⟩ := hrel
        have HPR := Lib.hid hpr
        have hgs := hbl.size
        rw [HG.out] at hgs
        obtain ⟨d0, d1, d2, d3⟩ := hbx.cells
        have HBX2 := Lib.hid hbx
        have HBL := Lib.hid hbl
        clear hbx hbl hpr c0 c1 c2 c3
        by_cases hlt : k < pl
        · have hRP : RdP wr pA pl pc ps := HH.out.p.keep (by rw [HG.out]; exact HBL.out)
          have hsz := hRP.sizes (pAt ps k) (pAt_mem ps k (by rw [HPL.out]; exact hlt))
          obtain ⟨q, o, rfl, hq, hcell⟩ := hRP.cells (by omega)
          obtain ⟨e0, e1⟩ := hcell k hlt
          have hbad : badP most ps k = (sle (pAt ps k).1 (lastP ps k) || (decide (255 < (pAt ps k).1.size) || (decide (255 < (pAt ps k).2.size) || decide (most < (pAt ps k).1.size + (pAt ps k).2.size)))) := rfl
          obtain ⟨x, hx⟩ : ∃ x, (pAt ps k).1 = x := ⟨_, rfl⟩
          obtain ⟨y, hy⟩ : ∃ y, (pAt ps k).2 = y := ⟨_, rfl⟩
          rw [hx] at hsz e0 hbad
          rw [hy] at hsz e1 hbad
          have hs0 := hsz.1
          have hs1 := hsz.2
          obtain ⟨z, hz⟩ : ∃ z, wr.heap.size = z := ⟨_, rfl⟩
          obtain ⟨X, hX⟩ : ∃ X, wr.alloc (.cells #[.string x, .string y] 49) = X := ⟨_, rfl⟩
          have hbX : Below wr.heap.size wr X := by rw [← hX]; exact (Below.refl _ _).alloc (Nat.le_refl _) _
          have hzX : X.heap[z]? = some (.cells #[.string x, .string y] 49 (0, 0)) := by rw [← hX, ← hz]; exact heap_alloc_new wr _
          have z0 : X.cell? ⟨z, 0, none⟩ = some (.string x) := by rw [cell_of_row X z _ _ 49 (0, 0) hzX]; rfl
          have z1 : X.cell? ⟨z, 1, none⟩ = some (.string y) := by rw [cell_of_row X z _ _ 49 (0, 0) hzX]; rfl
          obtain ⟨f0, f1, f2, f3⟩ := (HBX2.out.keep hbX).cells
          have HBL3 := Lib.hid (HBL.out.trans (hbX.mono hgs))
          have HBX3 := Lib.hid (HBX2.out.keep hbX)
          have hprev : ∀ i, i < pl → X.cell? ⟨q, o + i * 2, none⟩ = some (.string (pAt ps i).1) := fun i hi => (hbX.cell (p := ⟨q, o + i * 2, none⟩) hq).trans (hcell i hi).1
          have HPV := Lib.hid hprev
          have q1 : IntKind.i64.wrap ((x.size : Int) + (y.size : Int)) = (x.size : Int) + (y.size : Int) := IntWalk.i64_in _ (by omega)
          clear hx hy hbX hzX hcell hRP hsz hprev
          have HGOOD : Hid (badP most ps k = false → ∀ j, j < k + 1 → badP most ps j = false) := fun hb j hj => by
            rcases Nat.lt_or_ge j k with h | h
            · exact HPR.out j h
            · obtain rfl : j = k := by omega
              exact hb
          have HBAD : Hid (badP most ps k = true → R = 1) := fun hb => HR1.out (by rw [allOk_bad (j := k) hlt hb]; rfl)
          cases h1 : x.toList.isEmpty with
          | true =>
            have HRR : Hid (R = 1) := HBAD.out (by rw [hbad, sle_nil_left h1]; rfl)
            clear hbad HPV
            go_wp2_with fail
            refine wp_region_quiet_lit ?_ ?_ ?_
            · kernel_rfl
            · kernel_rfl
            repeat (first | (with_reducible refine wpQuiet_step (fun K hK => ?_); go_simp; (refine hK _ ?_; clear hK K)) | ((with_reducible refine wpQuiet_skip ?hwq ?_); (case hwq => rfl); simp only [Act.put, List.setIfInBounds_toArray, List.set_cons_zero, List.set_cons_succ]))
            with_reducible refine wpQuiet_nil ?_
            rintro _ ⟨nq, rfl⟩
            go_wp2
            go_ret
            exact ⟨by rw [HRR.out]; rfl, below_drewN HBL3.out _⟩
          | false =>
          by_cases h2 : 255 < x.size
          · have g2 : decide ((255 : Int) < (x.size : Int)) = true := decide_eq_true (by omega)
            have HRR : Hid (R = 1) := HBAD.out (by rw [hbad, decide_eq_true h2]; simp)
            clear hbad HPV
            go_wp2_with fail
            refine wp_region_quiet_lit ?_ ?_ ?_
            · kernel_rfl
            · kernel_rfl
            repeat (first | (with_reducible refine wpQuiet_step (fun K hK => ?_); go_simp; (refine hK _ ?_; clear hK K)) | ((with_reducible refine wpQuiet_skip ?hwq ?_); (case hwq => rfl); simp only [Act.put, List.setIfInBounds_toArray, List.set_cons_zero, List.set_cons_succ]))
            with_reducible refine wpQuiet_nil ?_
            rintro _ ⟨nq, rfl⟩
            go_wp2
            go_ret
            exact ⟨by rw [HRR.out]; rfl, below_drewN HBL3.out _⟩
          have g2 : decide ((255 : Int) < (x.size : Int)) = false := decide_eq_false (by omega)
          by_cases h3 : 255 < y.size
          · have g3 : decide ((255 : Int) < (y.size : Int)) = true := decide_eq_true (by omega)
            have HRR : Hid (R = 1) := HBAD.out (by rw [hbad, decide_eq_true h3]; simp)
            clear hbad HPV
            go_wp2_with fail
            refine wp_region_quiet_lit ?_ ?_ ?_
            · kernel_rfl
            · kernel_rfl
            repeat (first | (with_reducible refine wpQuiet_step (fun K hK => ?_); go_simp; (refine hK _ ?_; clear hK K)) | ((with_reducible refine wpQuiet_skip ?hwq ?_); (case hwq => rfl); simp only [Act.put, List.setIfInBounds_toArray, List.set_cons_zero, List.set_cons_succ]))
            with_reducible refine wpQuiet_nil ?_
            rintro _ ⟨nq, rfl⟩
            go_wp2
            go_ret
            exact ⟨by rw [HRR.out]; rfl, below_drewN HBL3.out _⟩
          have g3 : decide ((255 : Int) < (y.size : Int)) = false := decide_eq_false (by omega)
          by_cases h4 : most < x.size + y.size
          · have g4 : decide ((most : Int) < (x.size : Int) + (y.size : Int)) = true := decide_eq_true (by omega)
            have HRR : Hid (R = 1) := HBAD.out (by rw [hbad, decide_eq_true h4]; simp)
            clear hbad HPV
            go_wp2_with fail
            refine wp_region_quiet_lit ?_ ?_ ?_
            · kernel_rfl
            · kernel_rfl
            repeat (first | (with_reducible refine wpQuiet_step (fun K hK => ?_); go_simp; (refine hK _ ?_; clear hK K)) | ((with_reducible refine wpQuiet_skip ?hwq ?_); (case hwq => rfl); simp only [Act.put, List.setIfInBounds_toArray, List.set_cons_zero, List.set_cons_succ]))
            with_reducible refine wpQuiet_nil ?_
            rintro _ ⟨nq, rfl⟩
            go_wp2
            go_ret
            exact ⟨by rw [HRR.out]; rfl, below_drewN HBL3.out _⟩
          have g4 : decide ((most : Int) < (x.size : Int) + (y.size : Int)) = false := decide_eq_false (by omega)
          by_cases hk0 : 0 < k
          · have g5 : decide ((0 : Int) < (k : Int)) = true := decide_eq_true (by omega)
            have p0 := HPV.out (k - 1) (by omega)
            have hls : lastP ps k = (pAt ps (k - 1)).1 := by unfold lastP; rw [if_neg (by omega)]
            obtain ⟨l, hl⟩ : ∃ l, (pAt ps (k - 1)).1 = l := ⟨_, rfl⟩
            rw [hls, hl] at hbad
            rw [hl] at p0
            have q2 : IntKind.i64.wrap ((k : Int) - 1) = ((k - 1 : Nat) : Int) := by rw [IntWalk.i64_in _ (by omega)]; omega
            have hix : k - 1 < pl := by omega
            have hix2 : ((k - 1 : Nat) : Int) < (pl : Int) := by omega
            clear hls hl HPV
            cases h5 : sle x l with
            | true =>
              have HRR : Hid (R = 1) := HBAD.out (by rw [hbad, h5]; rfl)
              clear hbad
              go_wp2_with fail
              refine wp_region_quiet_lit ?_ ?_ ?_
              · kernel_rfl
              · kernel_rfl
              repeat (first | (with_reducible refine wpQuiet_step (fun K hK => ?_); go_simp; (refine hK _ ?_; clear hK K)) | ((with_reducible refine wpQuiet_skip ?hwq ?_); (case hwq => rfl); simp only [Act.put, List.setIfInBounds_toArray, List.set_cons_zero, List.set_cons_succ]))
              with_reducible refine wpQuiet_nil ?_
              rintro _ ⟨nq, rfl⟩
              go_wp2
              go_ret
              exact ⟨by rw [HRR.out]; rfl, below_drewN HBL3.out _⟩
            | false =>
              have HG2 := Lib.hid (HGOOD.out (by rw [hbad, h5, decide_eq_false h2, decide_eq_false h3, decide_eq_false h4]; rfl))
              clear hbad
              go_wp2_with fail
              refine wp_region_quiet_lit ?_ ?_ ?_
              · kernel_rfl
              · kernel_rfl
              repeat (first | (with_reducible refine wpQuiet_step (fun K hK => ?_); go_simp; (refine hK _ ?_; clear hK K)) | ((with_reducible refine wpQuiet_skip ?hwq ?_); (case hwq => rfl); simp only [Act.put, List.setIfInBounds_toArray, List.set_cons_zero, List.set_cons_succ]))
              with_reducible refine wpQuiet_nil ?_
              rintro _ ⟨nq, rfl⟩
              go_wp2
              go_roundw
              case rel => exact ⟨k + 1, by omega, by go_num, HG2.out, HBX3.out.keep (below_drewN (Below.refl _ _) _), below_drewN HBL3.out _⟩
              case measure => simp [intOf]; omega
          · have g5 : decide ((0 : Int) < (k : Int)) = false := decide_eq_false (by omega)
            have hls : lastP ps k = ⟨#[]⟩ := by unfold lastP; rw [if_pos (by omega)]
            rw [hls] at hbad
            have HG2 := Lib.hid (HGOOD.out (by rw [hbad, sle_nil_right h1, decide_eq_false h2, decide_eq_false h3, decide_eq_false h4]; rfl))
            clear hbad HPV hls
            go_wp2_with fail
            refine wp_region_quiet_lit ?_ ?_ ?_
            · kernel_rfl
            · kernel_rfl
            repeat (first | (with_reducible refine wpQuiet_step (fun K hK => ?_); go_simp; (refine hK _ ?_; clear hK K)) | ((with_reducible refine wpQuiet_skip ?hwq ?_); (case hwq => rfl); simp only [Act.put, List.setIfInBounds_toArray, List.set_cons_zero, List.set_cons_succ]))
            with_reducible refine wpQuiet_nil ?_
            rintro _ ⟨nq, rfl⟩
            go_wp2
            go_roundw
            case rel => exact ⟨k + 1, by omega, by go_num, HG2.out, HBX3.out.keep (below_drewN (Below.refl _ _) _), below_drewN HBL3.out _⟩
            case measure => simp [intOf]; omega
        · obtain rfl : k = pl := by omega
          have HEND : Hid (R = if (n : Int) < (S : Int) then 2 else 0) := HR2.out (by rw [allOk_good HPR.out]; rfl)
          go_wp2
          go_loopw [8] (fun i wv => i = .int .i64 0 ∧ wv = wr) (fun _ _ => 0)
          case atStart => exact ⟨rfl, rfl⟩
          case round =>
            obtain ⟨rfl, rfl⟩ := hrel
            go_wp2
            go_loopw [9] (fun i wv => i = .int .i64 0 ∧ wv = wr) (fun _ _ => 0)
            case atStart => exact ⟨rfl, rfl⟩
            case round =>
              obtain ⟨rfl, rfl⟩ := hrel
              have HSZ := Lib.hid (rSize_any wr ⟨pA, k, pc, kA, 0, kc, cA, 0, cc⟩ ⟨true, ps, ks, cs⟩ (HH.out.keep (by rw [HG.out]; exact HBL.out)) HF.out)
              simp only [nv, ncs] at HSZ
              rw [HS.out] at HSZ
              go_wp2_with fail
              refine HSZ.out.mono ?_
              rintro e w3 ⟨rfl, hb3⟩
              have HB3 := Lib.hid (HBL.out.trans (hb3.mono hgs))
              clear hb3 HSZ
              by_cases hbig : (n : Int) < (S : Int)
              · have HE2 : Hid (R = 2) := by show R = 2; rw [HEND.out, if_pos hbig]
                go_wp2
                go_ret
                exact ⟨by rw [HE2.out]; rfl, HB3.out⟩
              · have HE2 : Hid (R = 0) := by show R = 0; rw [HEND.out, if_neg hbig]
                go_wp2
                go_ret
                exact ⟨by rw [HE2.out]; rfl, HB3.out⟩

    | false =>
      simp only [Bool.false_eq_true, if_false, Bool.and_eq_true, beq_iff_eq] at hsh
      obtain ⟨hp0, hc0⟩ := hsh
      subst hp0 hc0
      have hne : ((((kl + 1 : Nat)) : Int) != (kl : Int) + 1) = false := by simp
      go_enter Try.func9, Try.ntmps9
      go_wp2_with fail
      refine HRA.out.mono ?_
      rintro e w1 ⟨rfl, rfl⟩
      go_wp2_with fail
      refine HMO.out.mono ?_
      rintro e w1 ⟨rfl, rfl⟩
      go_wp2
      go_loopw [6] (fun i wv => i = .int .i64 0 ∧ wv = W) (fun _ _ => 0)
      case atStart => exact ⟨rfl, rfl⟩
      case round =>
        obtain ⟨rfl, rfl⟩ := hrel
        go_wp2
        go_loopw [8] (fun i wr => ∃ k : Nat, k ≤ kl ∧ i = .int .i64 k ∧ (∀ j, j < k → badS most ks j = false) ∧ Bx wr g ⟨pA, 0, pc, kA, kl, kc, cA, kl + 1, cc⟩ false ∧ Below g w wr) (fun i _ => kl - (intOf i).toNat)
        case atStart => exact ⟨0, Nat.zero_le _, rfl, fun j hj => absurd hj (by omega), HBX.out, HBW.out⟩
        case round =>
          obtain ⟨k, hk1, rfl, hpr, hbx, hbl⟩ := hrel
          have HPR := Lib.hid hpr
          have hgs := hbl.size
          rw [HG.out] at hgs
          obtain ⟨d0, d1, d2, d3⟩ := hbx.cells
          have HBX2 := Lib.hid hbx
          have HBL3 := Lib.hid hbl
          have HBL := Lib.hid hbl
          clear hbx hbl hpr c0 c1 c2 c3
          by_cases hlt : k < kl
          · have hRS : RdS wr kA kl kc ks := HH.out.k.keep (by rw [HG.out]; exact HBL.out)
            have hsz := hRS.sizes (sAt ks k) (sAt_mem ks k (by rw [HKL.out]; exact hlt))
            unfold maxLen at hsz
            obtain ⟨q, o, rfl, hq, hcell⟩ := hRS.cells (by omega)
            have e0 := hcell k hlt
            have HPV := Lib.hid hcell
            have hbad : badS most ks k = (sle (sAt ks k) (lastS ks k) || (decide (255 < (sAt ks k).size) || decide (most < (sAt ks k).size))) := rfl
            obtain ⟨x, hx⟩ : ∃ x, sAt ks k = x := ⟨_, rfl⟩
            rw [show ks.getD k ByteArray.empty = x from hx] at e0
            rw [hx] at hsz hbad
            clear hx hcell hRS
            have HGOOD : Hid (badS most ks k = false → ∀ j, j < k + 1 → badS most ks j = false) := fun hb j hj => by
              rcases Nat.lt_or_ge j k with h | h
              · exact HPR.out j h
              · obtain rfl : j = k := by omega
                exact hb
            have HBAD : Hid (badS most ks k = true → R = 1) := fun hb => HR1.out (by rw [allOk_bad (j := k) hlt hb]; cases allOk 0 (badP most ps) <;> rfl)
            cases h1 : x.toList.isEmpty with
            | true =>
              have HRR : Hid (R = 1) := HBAD.out (by rw [hbad, sle_nil_left h1]; rfl)
              clear hbad HPV
              go_wp2_with fail
              refine wp_region_quiet_lit ?_ ?_ ?_
              · kernel_rfl
              · kernel_rfl
              repeat (first | (with_reducible refine wpQuiet_step (fun K hK => ?_); go_simp; (refine hK _ ?_; clear hK K)) | ((with_reducible refine wpQuiet_skip ?hwq ?_); (case hwq => rfl); simp only [Act.put, List.setIfInBounds_toArray, List.set_cons_zero, List.set_cons_succ]))
              with_reducible refine wpQuiet_nil ?_
              rintro _ ⟨nq, rfl⟩
              go_wp2
              go_ret
              exact ⟨by rw [HRR.out]; rfl, below_drewN HBL3.out _⟩
            | false =>
            by_cases h2 : 255 < x.size
            · have g2 : decide ((255 : Int) < (x.size : Int)) = true := decide_eq_true (by omega)
              have HRR : Hid (R = 1) := HBAD.out (by rw [hbad, decide_eq_true h2]; simp)
              clear hbad HPV
              go_wp2_with fail
              refine wp_region_quiet_lit ?_ ?_ ?_
              · kernel_rfl
              · kernel_rfl
              repeat (first | (with_reducible refine wpQuiet_step (fun K hK => ?_); go_simp; (refine hK _ ?_; clear hK K)) | ((with_reducible refine wpQuiet_skip ?hwq ?_); (case hwq => rfl); simp only [Act.put, List.setIfInBounds_toArray, List.set_cons_zero, List.set_cons_succ]))
              with_reducible refine wpQuiet_nil ?_
              rintro _ ⟨nq, rfl⟩
              go_wp2
              go_ret
              exact ⟨by rw [HRR.out]; rfl, below_drewN HBL3.out _⟩
            have g2 : decide ((255 : Int) < (x.size : Int)) = false := decide_eq_false (by omega)
            by_cases h4 : most < x.size
            · have g4 : decide ((most : Int) < (x.size : Int)) = true := decide_eq_true (by omega)
              have HRR : Hid (R = 1) := HBAD.out (by rw [hbad, decide_eq_true h4]; simp)
              clear hbad HPV
              go_wp2_with fail
              refine wp_region_quiet_lit ?_ ?_ ?_
              · kernel_rfl
              · kernel_rfl
              repeat (first | (with_reducible refine wpQuiet_step (fun K hK => ?_); go_simp; (refine hK _ ?_; clear hK K)) | ((with_reducible refine wpQuiet_skip ?hwq ?_); (case hwq => rfl); simp only [Act.put, List.setIfInBounds_toArray, List.set_cons_zero, List.set_cons_succ]))
              with_reducible refine wpQuiet_nil ?_
              rintro _ ⟨nq, rfl⟩
              go_wp2
              go_ret
              exact ⟨by rw [HRR.out]; rfl, below_drewN HBL3.out _⟩
            have g4 : decide ((most : Int) < (x.size : Int)) = false := decide_eq_false (by omega)
            by_cases hk0 : 0 < k
            · have g5 : decide ((0 : Int) < (k : Int)) = true := decide_eq_true (by omega)
              have p0 := HPV.out (k - 1) (by omega)
              have hls : lastS ks k = sAt ks (k - 1) := by unfold lastS; rw [if_neg (by omega)]
              obtain ⟨l, hl⟩ : ∃ l, sAt ks (k - 1) = l := ⟨_, rfl⟩
              rw [hls, hl] at hbad
              rw [show ks.getD (k - 1) ByteArray.empty = l from hl] at p0
              have q2 : IntKind.i64.wrap ((k : Int) - 1) = ((k - 1 : Nat) : Int) := by rw [IntWalk.i64_in _ (by omega)]; omega
              have hix : k - 1 < kl := by omega
              have hix2 : ((k - 1 : Nat) : Int) < (kl : Int) := by omega
              clear hls hl HPV
              cases h5 : sle x l with
              | true =>
                have HRR : Hid (R = 1) := HBAD.out (by rw [hbad, h5]; rfl)
                clear hbad
                go_wp2_with fail
                refine wp_region_quiet_lit ?_ ?_ ?_
                · kernel_rfl
                · kernel_rfl
                repeat (first | (with_reducible refine wpQuiet_step (fun K hK => ?_); go_simp; (refine hK _ ?_; clear hK K)) | ((with_reducible refine wpQuiet_skip ?hwq ?_); (case hwq => rfl); simp only [Act.put, List.setIfInBounds_toArray, List.set_cons_zero, List.set_cons_succ]))
                with_reducible refine wpQuiet_nil ?_
                rintro _ ⟨nq, rfl⟩
                go_wp2
                go_ret
                exact ⟨by rw [HRR.out]; rfl, below_drewN HBL3.out _⟩
              | false =>
                have HG2 := Lib.hid (HGOOD.out (by rw [hbad, h5, decide_eq_false h2, decide_eq_false h4]; rfl))
                clear hbad
                go_wp2_with fail
                refine wp_region_quiet_lit ?_ ?_ ?_
                · kernel_rfl
                · kernel_rfl
                repeat (first | (with_reducible refine wpQuiet_step (fun K hK => ?_); go_simp; (refine hK _ ?_; clear hK K)) | ((with_reducible refine wpQuiet_skip ?hwq ?_); (case hwq => rfl); simp only [Act.put, List.setIfInBounds_toArray, List.set_cons_zero, List.set_cons_succ]))
                with_reducible refine wpQuiet_nil ?_
                rintro _ ⟨nq, rfl⟩
                go_wp2
                go_roundw
                case rel => exact ⟨k + 1, by omega, by go_num, HG2.out, HBX2.out.keep (below_drewN (Below.refl _ _) _), below_drewN HBL3.out _⟩
                case measure => simp [intOf]; omega
            · have g5 : decide ((0 : Int) < (k : Int)) = false := decide_eq_false (by omega)
              have hls : lastS ks k = ⟨#[]⟩ := by unfold lastS; rw [if_pos (by omega)]
              rw [hls] at hbad
              have HG2 := Lib.hid (HGOOD.out (by rw [hbad, sle_nil_right h1, decide_eq_false h2, decide_eq_false h4]; rfl))
              clear hbad HPV hls
              go_wp2_with fail
              refine wp_region_quiet_lit ?_ ?_ ?_
              · kernel_rfl
              · kernel_rfl
              repeat (first | (with_reducible refine wpQuiet_step (fun K hK => ?_); go_simp; (refine hK _ ?_; clear hK K)) | ((with_reducible refine wpQuiet_skip ?hwq ?_); (case hwq => rfl); simp only [Act.put, List.setIfInBounds_toArray, List.set_cons_zero, List.set_cons_succ]))
              with_reducible refine wpQuiet_nil ?_
              rintro _ ⟨nq, rfl⟩
              go_wp2
              go_roundw
              case rel => exact ⟨k + 1, by omega, by go_num, HG2.out, HBX2.out.keep (below_drewN (Below.refl _ _) _), below_drewN HBL3.out _⟩
              case measure => simp [intOf]; omega
          · obtain rfl : k = kl := by omega
            have HKG : Hid (allOk k (badS most ks) = true) := allOk_good HPR.out
            go_wp2
            go_loopw [9] (fun i wv => ∃ j : Nat, j ≤ k + 1 ∧ i = .int .i64 j ∧ (∀ i, i < j → badC cs i = false) ∧ wv = wr) (fun i _ => k + 1 - (intOf i).toNat)
            case atStart => exact ⟨0, Nat.zero_le _, rfl, fun j hj => absurd hj (by omega), rfl⟩
            case round =>
              obtain ⟨j, hj1, rfl, hpr2, rfl⟩ := hrel
              have HPR2 := Lib.hid hpr2
              clear hpr2
              by_cases hlj : j < k + 1
              · have hRI : RdI wr cA (k + 1) cc cs := HH.out.c.keep (by rw [HG.out]; exact HBL.out)
                obtain ⟨q, o, rfl, hq, hcell⟩ := hRI.cells (by omega)
                have e0 := hcell j hlj
                have hbad : badC cs j = (decide (cs.getD j 0 < 1) || decide (16777215 < cs.getD j 0)) := rfl
                obtain ⟨x, hx⟩ : ∃ x, cs.getD j 0 = x := ⟨_, rfl⟩
                rw [hx] at e0 hbad
                clear hx hcell
                by_cases h2 : x < 1
                · have HRR : Hid (R = 1) := HR1.out (by rw [HKG.out, allOk_bad (j := j) hlj (by rw [hbad, decide_eq_true h2]; rfl)]; cases allOk 0 (badP most ps) <;> rfl)
                  clear hbad
                  go_wp2
                  go_ret
                  exact ⟨by rw [HRR.out]; rfl, HBL.out⟩
                by_cases h4 : 16777215 < x
                · have HRR : Hid (R = 1) := HR1.out (by rw [HKG.out, allOk_bad (j := j) hlj (by rw [hbad, decide_eq_true h4]; simp)]; cases allOk 0 (badP most ps) <;> rfl)
                  clear hbad
                  go_wp2
                  go_ret
                  exact ⟨by rw [HRR.out]; rfl, HBL.out⟩
                have HGD : Hid (badC cs j = false) := by
                  show badC cs j = false
                  rw [hbad, decide_eq_false h2, decide_eq_false h4]; rfl
                clear hbad
                go_wp2
                go_roundw
                case rel =>
                  refine ⟨j + 1, by omega, by go_num, fun i hi => ?_, trivial⟩
                  rcases Nat.lt_or_ge i j with h | h
                  · exact HPR2.out i h
                  · obtain rfl : i = j := by omega
                    exact HGD.out
                case measure => simp [intOf]; omega
              · obtain rfl : j = k + 1 := by omega
                have HEND : Hid (R = if (n : Int) < (S : Int) then 2 else 0) := HR2.out (by rw [HKG.out, allOk_good HPR2.out]; rfl)
                have HSZ := Lib.hid (rSize_any wr ⟨pA, 0, pc, kA, k, kc, cA, k + 1, cc⟩ ⟨false, ps, ks, cs⟩ (HH.out.keep (by rw [HG.out]; exact HBL.out)) HF.out)
                simp only [nv, ncs] at HSZ
                rw [HS.out] at HSZ
                go_wp2_with fail
                refine HSZ.out.mono ?_
                rintro e w3 ⟨rfl, hb3⟩
                have HB3 := Lib.hid (HBL.out.trans (hb3.mono hgs))
                clear hb3 HSZ
                by_cases hbig : (n : Int) < (S : Int)
                · have HE2 : Hid (R = 2) := by show R = 2; rw [HEND.out, if_pos hbig]
                  go_wp2
                  go_ret
                  exact ⟨by rw [HE2.out]; rfl, HB3.out⟩
                · have HE2 : Hid (R = 0) := by show R = 0; rw [HEND.out, if_neg hbig]
                  go_wp2
                  go_ret
                  exact ⟨by rw [HE2.out]; rfl, HB3.out⟩

end Go.Proofs.Ytedhcohpcdkgnaa
