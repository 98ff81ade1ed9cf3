/-
  The statement 'DiskCrashes' (chandlerylaw05) holds at every input: the call returns true and leaves its arguments as they were. Conditions: none beyond the row's own.
-/
import Derived.Test.YtikajhfaoccicaaRows
import Derived.Test.YtikajhfaoccicaaCr
import Derived.Deep.RegionHeld3
import Derived.WalkKit
import Derived.ProofKit
import Derived.OpenShut
import Derived.ChangeOld
import Derived.Below
namespace Go.Proofs.Ytikajhfaoccicaa.diskCrashes
open Go.ChangeShapes Go.WideShapes Go.ChangeAt Go.RowKit Go.Bs Go.Dk
set_option linter.unusedVariables false

theorem own : ownKnob Try.prog.godebug = none := by kernel_rfl
theorem laidOut : laidOutB Try.prog = true := by kernel_rfl

theorem getD_mem (zs : List Int) (k : Nat) (h : k < zs.length) : zs.getD k 0 ∈ zs := by
  rw [List.getD, List.getElem?_eq_getElem h]; exact List.getElem_mem h
theorem u8_val (k n : Nat) (h : k + n < 256) : Value.int .u8 ((k : Int) + (n : Nat)) = B (UInt8.ofNat (k + n)) := by
  show _ = Value.int .u8 (((UInt8.ofNat (k + n)).toNat : Nat) : Int)
  rw [u8_of (k + n) h]; rfl
/-- what the law reckons of a sector, j of the writes behind looked at. -/
def okJ (m s : Nat) (bs : List UInt8) (x : UInt8) (ys : List Int) (ks : List Bool) : Nat → Bool
  | 0 => decide (bs = by16 x)
  | j + 1 => okJ m s bs x ys ks j || (decide (secOf m ys j = s) && (decide (bs = byN (j + 101)) && (decide (j < ks.length) && ks.getD j false)))
theorem okJ_at (m s : Nat) (bs : List UInt8) (x : UInt8) (ys : List Int) (ks : List Bool) (i : Nat) (h1 : secOf m ys i = s) (h2 : bs = byN (i + 101)) (h3 : i < ks.length) (h4 : ks.getD i false = true) : ∀ j, i < j → okJ m s bs x ys ks j = true
  | 0, h => absurd h (by omega)
  | j + 1, h => by
    rw [okJ]
    by_cases hij : i = j
    · subst hij
      simp [h1, ← h2, h3]
      right
      rw [List.getD, List.getElem?_eq_getElem h3] at h4
      exact h4
    · rw [okJ_at m s bs x ys ks i h1 h2 h3 h4 j (by omega)]; rfl
theorem okJ_zero (m s : Nat) (bs : List UInt8) (x : UInt8) (ys : List Int) (ks : List Bool) (h : bs = by16 x) : ∀ j, okJ m s bs x ys ks j = true
  | 0 => by simp [okJ, h]
  | j + 1 => by rw [okJ, okJ_zero m s bs x ys ks h j]; rfl
theorem okJ_true (m s : Nat) (L : Nat → List UInt8) (WW : List UInt8) (ys : List Int) (ks : List Bool) (j : Nat) (h : L s = by16 (WW.getD s 0)) : okJ m s (cur L (kept ks (wrs m 101 ys j)) s) (WW.getD s 0) ys ks j = true := by
  rcases cur_one L (kept ks (wrs m 101 ys j)) s with h1 | ⟨p, hp, h1, h2⟩
  · exact okJ_zero _ _ _ _ _ _ (h1.trans h) j
  · obtain ⟨i, hi1, hi2, hi3, hi4⟩ := kept_at hp
    rw [wrs_get] at hi4
    rw [wrs_length] at hi2
    subst hi4
    refine okJ_at _ _ _ _ _ _ i h1 h2 hi1 ?_ j hi2
    rw [List.getD, List.getElem?_eq_getElem hi1]
    exact hi3
set_option maxRecDepth 100000 in
set_option maxHeartbeats 8000000 in
theorem walkGood (m : Nat) (a1 : Option Addr) (len1 cap1 : Nat) (a2 : Option Addr) (len2 cap2 : Nat) (a3 : Option Addr) (len3 cap3 : Nat) (w : World) (zs ys : List Int) (ks : List Bool) (hr1 : RdI w a1 len1 cap1 zs) (hr2 : RdI w a2 len2 cap2 ys) (hr3 : RdQ w a3 len3 cap3 ks)
    (hm0 : 1 ≤ m) (hm1 : m ≤ 30) (e3 : len1 ≤ 100) (e4 : len2 ≤ 100) (e5 : len3 ≤ 200) :
    Calls Try.prog 4 #[.int .i64 (m : Int), .slice a1 len1 cap1, .slice a2 len2 cap2, .slice a3 len3 cap3] w fun e w' => e = .returned (.bool true) ∧ Below w.heap.size w w' := by
  have hmne : ¬ m = 0 := by omega
  have HR1 := Lib.hid hr1
  have HR2 := Lib.hid hr2
  have HR3 := Lib.hid hr3
  have hN := Lib.hid (New_any m 16 (by omega) (by omega) (by omega) (by omega) w)
  clear hr1 hr2 hr3
  go_enter Try.func4, Try.ntmps4
  go_wp2_with fail
  refine hN.out.mono ?_
  rintro e wA ⟨g, D1, rfl, hd1, hk1, hb1⟩
  have hmk := make_zeros m (by omega) wA
  obtain ⟨z, hz⟩ : ∃ z, wA.heap.size = z := ⟨_, rfl⟩
  obtain ⟨W2, hW2⟩ : ∃ W2, wA.alloc (rowObj 5 (zeros m)) = W2 := ⟨_, rfl⟩
  have HZ : Hid (DZ w W2 g (stW m (fun _ => zeros 16) [] 0) z (zeros m)) := by
    have hbb : Below wA.heap.size wA W2 := by rw [← hW2]; exact (Below.refl _ _).alloc (Nat.le_refl _) _
    refine ⟨D1, DiskAt.below hd1 hbb, fun k hk => ⟨hk1 k hk, ?_⟩, ?_, ?_, bstep hb1 hbb⟩
    · have := hd1.lt k hk; omega
    · rw [← hW2, ← hz]; exact Blk.new wA 5 (zeros m)
    · rw [← hz]; exact hb1.size
  rw [hW2, hz] at hmk
  clear hd1 hk1 hb1 hW2 hz
  go_wp2
  go_loopw [12] (fun i wr => ∃ k : Nat, k ≤ len1 ∧ i = .int .i64 k ∧ DZ w wr g (stW m (fun _ => zeros 16) (wrs m 1 zs k) k) z (wasL m 1 zs k)) (fun i _ => len1 - (intOf i).toNat)
  case atStart => exact ⟨0, Nat.zero_le _, rfl, HZ.out⟩
  case round =>
    obtain ⟨k, hk, rfl, hdz⟩ := hrel
    by_cases hlt : k < len1
    · obtain ⟨ga, oa, rfl, hga, hca⟩ := HR1.out.cells (by omega)
      have hcell := (hdz.bel.cell (p := ⟨ga, oa + k, none⟩) hga).trans (hca k hlt)
      have hwfz := HR1.out.wf _ (getD_mem zs k (by rw [HR1.out.len]; exact hlt))
      have hmod := sec_mod m zs k
      have HCB : Hid (∀ W, Below w.heap.size w W → W.cell? ⟨ga, oa + k, none⟩ = some (.int .i64 (zs.getD k 0))) := fun W hW => (hW.cell (p := ⟨ga, oa + k, none⟩) hga).trans (hca k hlt)
      obtain ⟨q, hq⟩ : ∃ q, zs.getD k 0 = q := ⟨_, rfl⟩
      rw [hq] at hcell hwfz hmod HCB
      have HDZ := Lib.hid hdz
      clear hca hdz hq
      by_cases hneg : q < 0
      · clear hmod
        go_wp2
        go_ret
        exact ⟨rfl, HDZ.out.bel⟩
      · replace hmod := hmod (by omega)
        have hsl := secOf_lt m zs k (by omega)
        have HWQ := Lib.hid (wrs_succ m 1 zs k)
        have HWL : Hid (wasL m 1 zs (k + 1) = (wasL m 1 zs k).set (secOf m zs k) (UInt8.ofNat (k + 1))) := rfl
        obtain ⟨sc, hsc⟩ : ∃ sc, secOf m zs k = sc := ⟨_, rfl⟩
        rw [hsc] at hmod hsl HWQ HWL
        have hbk := HDZ.out.blk
        have hck := hbk.cell sc (by rw [wasL_length]; exact hsl)
        have hfk := hbk.frozen sc
        have hi64 : IntKind.i64.wrap ((k : Int) + 1) = (k : Int) + 1 := IntWalk.i64_in _ (by omega)
        have hu8 : IntKind.u8.wrap ((k : Int) + 1) = (k : Int) + 1 := by rw [IntKind.wrap_u8']; omega
        have hBx := u8_val k 1 (by omega)
        have HBY : Hid (∀ W, Calls Try.prog 28 #[.int .u8 ((k : Int) + 1)] W fun e w' => e = .returned (.slice (some ⟨W.heap.size, 0, none⟩) 16 16) ∧ Blk w' W.heap.size 5 (byN (k + 1)) ∧ Below W.heap.size W w') := fun W => by rw [show ((k : Int) + 1) = ((k : Int) + (1 : Nat)) from rfl, hBx]; exact bytes_any _ W
        obtain ⟨wS, hwS⟩ : ∃ wS, wr.setCell ⟨z, sc, none⟩ (.int .u8 ((k : Int) + 1)) = wS := ⟨_, rfl⟩
        have HS : Hid (DZ w wS g (stW m (fun _ => zeros 16) (wrs m 1 zs k) k) z (wasL m 1 zs (k + 1))) := by
          rw [HWL.out, ← hwS, show ((k : Int) + 1) = ((k : Int) + (1 : Nat)) from rfl, hBx]; exact HDZ.out.set sc _
        have HBS := Lib.hid HS.out.bel
        have HWR : Hid (∀ W, Below wS.heap.size wS W → ∀ A, Rd W A 16 16 (byN (k + 1)) → Calls Try.prog 13 #[.pointer (some ⟨g, 0, none⟩), .int .i64 (sc : Int), .slice A 16 16] W fun e b => e = .returned (.int .i64 0) ∧ DZ w b g (stW m (fun _ => zeros 16) (wrs m 1 zs (k + 1)) (k + 1)) z (wasL m 1 zs (k + 1))) := fun W hW A hA =>
          Write_dz (HS.out.below hW) (stW_fine _ _ _ _ (by rw [wrs_length]; exact Nat.le_refl _)) (by show k < _; omega) (sc : Int) A 16 16 _ hA (by omega) _ _ (by rw [stW_write _ _ _ _ _ hsl _ rfl, HWQ.out])
        clear hbk hBx hsc
        go_wp2_with fail
        clear hck hfk hwS hcell
        have hd1 : Below wS.heap.size wS wS.drew := (Below.refl _ _).drew
        refine wp_region_held_drew (S := fun W => W.cell? ⟨ga, oa + k, none⟩ = some (.int .i64 q)) (by kernel_rfl) (HCB.out _ (bstep HBS.out hd1)) (fun hHeld => ?_)
        refine wpAnyH_take (i := 0) (oi := { dst := some 75, op := Go.Op.move (Go.Operand.tmp 9), type := 25, pos := "law.go:133", after := #[], guard := none }) (v := ?va0) rfl (by kernel_rfl) (by kernel_rfl) (by kernel_rfl) (fun _ _ _ h => h) (Or.inl ⟨by rfl, ?hya0⟩) hHeld ?_
        case hya0 => (intro w hSw; (try dsimp only at hSw); go_simp; first | done | with_reducible rfl)
        try simp only [Act.put, List.setIfInBounds_toArray, List.set_cons_zero, List.set_cons_succ]
        refine wpAnyH_take (i := 1) (oi := { dst := some 76, op := Go.Op.move (Go.Operand.tmp 1), type := 52, pos := "law.go:133", after := #[], guard := none }) (v := ?va1) rfl (by kernel_rfl) (by kernel_rfl) (by kernel_rfl) (fun _ _ _ h => h) (Or.inl ⟨by rfl, ?hya1⟩) hHeld ?_
        case hya1 => (intro w hSw; (try dsimp only at hSw); go_simp; first | done | with_reducible rfl)
        try simp only [Act.put, List.setIfInBounds_toArray, List.set_cons_zero, List.set_cons_succ]
        refine wpAnyH_take (i := 2) (oi := { dst := some 77, op := Go.Op.move (Go.Operand.tmp 12), type := 3, pos := "law.go:133", after := #[], guard := none }) (v := ?va2) rfl (by kernel_rfl) (by kernel_rfl) (by kernel_rfl) (fun _ _ _ h => h) (Or.inl ⟨by rfl, ?hya2⟩) hHeld ?_
        case hya2 => (intro w hSw; (try dsimp only at hSw); go_simp; first | done | with_reducible rfl)
        try simp only [Act.put, List.setIfInBounds_toArray, List.set_cons_zero, List.set_cons_succ]
        refine wpAnyH_take (i := 3) (oi := { dst := some 78, op := Go.Op.indexAddr 52 (Go.Operand.tmp 76) (Go.Operand.tmp 77), type := 0, pos := "law.go:133", after := #[{ on := 1, ground := Go.Ground.data }, { on := 2, ground := Go.Ground.data }], guard := none }) (v := ?va3) rfl (by kernel_rfl) (by kernel_rfl) (by kernel_rfl) (fun _ _ _ h => h) (Or.inl ⟨by rfl, ?hya3⟩) hHeld ?_
        case hya3 => (intro w hSw; (try dsimp only at hSw); go_simp; first | done | with_reducible rfl)
        try simp only [Act.put, List.setIfInBounds_toArray, List.set_cons_zero, List.set_cons_succ]
        refine wpAnyH_take (i := 4) (oi := { dst := some 79, op := Go.Op.load 3 (Go.Operand.tmp 78), type := 3, pos := "law.go:133", after := #[{ on := 3, ground := Go.Ground.data }], guard := none }) (v := ?va4) rfl (by kernel_rfl) (by kernel_rfl) (by kernel_rfl) (fun _ _ _ h => h) (Or.inl ⟨by rfl, ?hya4⟩) hHeld ?_
        case hya4 => (intro w hSw; (try dsimp only at hSw); go_simp; first | done | with_reducible rfl)
        try simp only [Act.put, List.setIfInBounds_toArray, List.set_cons_zero, List.set_cons_succ]
        refine wpAnyH_take (i := 5) (oi := { dst := some 80, op := Go.Op.move (Go.Operand.tmp 0), type := 3, pos := "law.go:133", after := #[], guard := none }) (v := ?va5) rfl (by kernel_rfl) (by kernel_rfl) (by kernel_rfl) (fun _ _ _ h => h) (Or.inl ⟨by rfl, ?hya5⟩) hHeld ?_
        case hya5 => (intro w hSw; (try dsimp only at hSw); go_simp; first | done | with_reducible rfl)
        try simp only [Act.put, List.setIfInBounds_toArray, List.set_cons_zero, List.set_cons_succ]
        refine wpAnyH_take (i := 6) (oi := { dst := some 81, op := Go.Op.binOp Go.BinOp.rem 3 (Go.Operand.tmp 79) (Go.Operand.tmp 80) 3, type := 3, pos := "law.go:133", after := #[{ on := 4, ground := Go.Ground.data }, { on := 5, ground := Go.Ground.data }], guard := none }) (v := ?va6) rfl (by kernel_rfl) (by kernel_rfl) (by kernel_rfl) (fun _ _ _ h => h) (Or.inl ⟨by rfl, ?hya6⟩) hHeld ?_
        case hya6 => (intro w hSw; (try dsimp only at hSw); go_simp; first | done | with_reducible rfl)
        try simp only [Act.put, List.setIfInBounds_toArray, List.set_cons_zero, List.set_cons_succ]
        refine wpAnyH_take (i := 7) (oi := { dst := some 82, op := Go.Op.move (Go.Operand.tmp 12), type := 3, pos := "law.go:133", after := #[], guard := none }) (v := ?va7) rfl (by kernel_rfl) (by kernel_rfl) (by kernel_rfl) (fun _ _ _ h => h) (Or.inl ⟨by rfl, ?hya7⟩) hHeld ?_
        case hya7 => (intro w hSw; (try dsimp only at hSw); go_simp; first | done | with_reducible rfl)
        try simp only [Act.put, List.setIfInBounds_toArray, List.set_cons_zero, List.set_cons_succ]
        refine wpAnyH_take (i := 8) (oi := { dst := some 83, op := Go.Op.binOp Go.BinOp.add 3 (Go.Operand.tmp 82) (Go.Operand.const (Go.Value.int Go.IntKind.i64 1)) 3, type := 3, pos := "law.go:133", after := #[{ on := 7, ground := Go.Ground.data }], guard := none }) (v := ?va8) rfl (by kernel_rfl) (by kernel_rfl) (by kernel_rfl) (fun _ _ _ h => h) (Or.inl ⟨by rfl, ?hya8⟩) hHeld ?_
        case hya8 => (intro w hSw; (try dsimp only at hSw); go_simp; first | done | with_reducible rfl)
        try simp only [Act.put, List.setIfInBounds_toArray, List.set_cons_zero, List.set_cons_succ]
        refine wpAnyH_take (i := 9) (oi := { dst := some 84, op := Go.Op.convert 3 5 (Go.Operand.tmp 83), type := 5, pos := "law.go:133", after := #[{ on := 8, ground := Go.Ground.data }], guard := none }) (v := ?va9) rfl (by kernel_rfl) (by kernel_rfl) (by kernel_rfl) (fun _ _ _ h => h) (Or.inl ⟨by rfl, ?hya9⟩) hHeld ?_
        case hya9 => (intro w hSw; (try dsimp only at hSw); go_simp; first | done | with_reducible rfl)
        try simp only [Act.put, List.setIfInBounds_toArray, List.set_cons_zero, List.set_cons_succ]
        refine wpAnyH_ready (rs := [10]) (by kernel_rfl) (by simp) ?_
        refine AllReadyH.cons (o := { dst := some 85, op := Go.Op.call { callee := Go.Callee.value (Go.Operand.func 28), args := #[Go.Operand.tmp 84], argTypes := #[5] }, type := 32, pos := "law.go:133", after := #[{ on := 9, ground := Go.Ground.data }], guard := none }) rfl (fun K hK => ?_) AllReadyH.nil
        go_simp
        refine (HBY.out _).mono ?_
        rintro e wB ⟨rfl, hkB, hbB⟩
        have hd2 := Bs.below_step hd1 hbB
        have HWC := Lib.hid (HWR.out wB hd2 _ (hkB.all' 16 16 rfl (Nat.le_refl _)))
        clear hkB hbB
        go_wp2_with fail
        refine hK.out _ _ (HCB.out _ (bstep HBS.out hd2)) (fun hHeld => ?_)
        clear hK K
        try simp only [Act.put, List.setIfInBounds_toArray, List.set_cons_zero, List.set_cons_succ]
        refine wpAnyH_ready (rs := [11]) (by kernel_rfl) (by simp) ?_
        refine AllReadyH.cons (o := { dst := some 86, op := Go.Op.call { callee := Go.Callee.value (Go.Operand.func 13), args := #[Go.Operand.tmp 75, Go.Operand.tmp 81, Go.Operand.tmp 85], argTypes := #[25, 3, 32] }, type := 26, pos := "law.go:133", after := #[{ on := 0, ground := Go.Ground.data }, { on := 6, ground := Go.Ground.data }, { on := 10, ground := Go.Ground.data }, { on := 10, ground := Go.Ground.chain }], guard := none }) rfl (fun K hK => ?_) AllReadyH.nil
        go_simp
        refine HWC.out.mono ?_
        rintro e wD ⟨rfl, hdD⟩
        have HDD := Lib.hid hdD
        clear hdD
        go_wp2_with fail
        refine hK.out _ _ (HCB.out _ HDD.out.bel) (fun hHeld => ?_)
        clear hK K
        try simp only [Act.put, List.setIfInBounds_toArray, List.set_cons_zero, List.set_cons_succ]
        refine wpAnyH_take (i := 12) (oi := { dst := some 87, op := Go.Op.binOp Go.BinOp.neq 26 (Go.Operand.tmp 86) (Go.Operand.const (Go.Value.int Go.IntKind.i64 0)) 26, type := 4, pos := "law.go:133", after := #[{ on := 11, ground := Go.Ground.data }], guard := none }) (v := ?va12) rfl (by kernel_rfl) (by kernel_rfl) (by kernel_rfl) (fun _ _ _ h => h) (Or.inl ⟨by rfl, ?hya12⟩) hHeld ?_
        case hya12 => (intro w hSw; (try dsimp only at hSw); go_simp; first | done | with_reducible rfl)
        try simp only [Act.put, List.setIfInBounds_toArray, List.set_cons_zero, List.set_cons_succ]
        refine wpAnyH_done (by kernel_rfl) ?_ _
        go_wp2
        go_roundw
        case rel => exact ⟨k + 1, by omega, by go_num, HDD.out⟩
        case measure => simp [intOf]; omega
    · obtain rfl : k = len1 := by omega
      have HFL := Lib.hid (Flush_dz hdz (by show k < _; omega) _ _ (stW_flush m _ _ k))
      clear hdz
      obtain ⟨L1, hL1⟩ : ∃ L1, cur (fun _ => zeros 16) (wrs m 1 zs k) = L1 := ⟨_, rfl⟩
      obtain ⟨WW, hWW⟩ : ∃ WW, wasL m 1 zs k = WW := ⟨_, rfl⟩
      have HWL := Lib.hid (wasL_length m 1 zs k)
      have HL1 : Hid (∀ s, s < m → L1 s = by16 (WW.getD s 0)) := fun s hs => by rw [← hL1, ← hWW]; exact wasL_cur m 1 zs k s hs
      rw [hL1, hWW] at HFL
      rw [hWW] at HWL
      clear hL1 hWW
      go_wp2_with fail
      refine HFL.out.mono ?_
      rintro e wF ⟨rfl, hdF⟩
      have HF := Lib.hid hdF
      clear hdF
      go_wp2
      go_loopw [13] (fun i wr => ∃ j : Nat, j ≤ len2 ∧ i = .int .i64 j ∧ (∀ i, i < j → 0 ≤ ys.getD i 0) ∧ DZ w wr g (stW m L1 (wrs m 101 ys j) (k + 1 + j)) z WW) (fun i _ => len2 - (intOf i).toNat)
      case atStart => exact ⟨0, Nat.zero_le _, rfl, fun i hi => absurd hi (by omega), HF.out⟩
      case round =>
        obtain ⟨j, hj, rfl, hpos, hdz⟩ := hrel
        have HPOS := Lib.hid hpos
        clear hpos
        by_cases hjlt : j < len2
        · obtain ⟨ga, oa, rfl, hga, hca⟩ := HR2.out.cells (by omega)
          have hcell := (hdz.bel.cell (p := ⟨ga, oa + j, none⟩) hga).trans (hca j hjlt)
          have hwfz := HR2.out.wf _ (getD_mem ys j (by rw [HR2.out.len]; exact hjlt))
          have hmod := sec_mod m ys j
          have HCB : Hid (∀ W, Below w.heap.size w W → W.cell? ⟨ga, oa + j, none⟩ = some (.int .i64 (ys.getD j 0))) := fun W hW => (hW.cell (p := ⟨ga, oa + j, none⟩) hga).trans (hca j hjlt)
          obtain ⟨q, hq⟩ : ∃ q, ys.getD j 0 = q := ⟨_, rfl⟩
          rw [hq] at hcell hwfz hmod HCB
          have HQ := Lib.hid hq
          have HDZ := Lib.hid hdz
          clear hca hdz hq
          by_cases hneg : q < 0
          · clear hmod
            go_wp2
            go_ret
            exact ⟨rfl, HDZ.out.bel⟩
          · replace hmod := hmod (by omega)
            have hsl := secOf_lt m ys j (by omega)
            have HWQ := Lib.hid (wrs_succ m 101 ys j)
            obtain ⟨sc, hsc⟩ : ∃ sc, secOf m ys j = sc := ⟨_, rfl⟩
            rw [hsc] at hmod hsl HWQ
            have hi64 : IntKind.i64.wrap ((j : Int) + 101) = (j : Int) + 101 := IntWalk.i64_in _ (by omega)
            have hu8 : IntKind.u8.wrap ((j : Int) + 101) = (j : Int) + 101 := by rw [IntKind.wrap_u8']; omega
            have hBx := u8_val j 101 (by omega)
            have HBY : Hid (∀ W, Calls Try.prog 28 #[.int .u8 ((j : Int) + 101)] W fun e w' => e = .returned (.slice (some ⟨W.heap.size, 0, none⟩) 16 16) ∧ Blk w' W.heap.size 5 (byN (j + 101)) ∧ Below W.heap.size W w') := fun W => by rw [show ((j : Int) + 101) = ((j : Int) + (101 : Nat)) from rfl, hBx]; exact bytes_any _ W
            have HBS := Lib.hid HDZ.out.bel
            have HWR : Hid (∀ W, Below wr.heap.size wr W → ∀ A, Rd W A 16 16 (byN (j + 101)) → Calls Try.prog 13 #[.pointer (some ⟨g, 0, none⟩), .int .i64 (sc : Int), .slice A 16 16] W fun e b => e = .returned (.int .i64 0) ∧ DZ w b g (stW m L1 (wrs m 101 ys (j + 1)) (k + 1 + (j + 1))) z WW) := fun W hW A hA =>
              Write_dz (HDZ.out.below hW) (stW_fine _ _ _ _ (by rw [wrs_length]; omega)) (by show k + 1 + j < _; omega) (sc : Int) A 16 16 _ hA (by omega) _ _ (by rw [stW_write _ _ _ _ _ hsl _ rfl, HWQ.out]; rfl)
            clear hBx hsc
            go_wp2_with fail
            clear hcell
            have hd1 : Below wr.heap.size wr wr.drew := (Below.refl _ _).drew
            refine wp_region_held_drew (S := fun W => W.cell? ⟨ga, oa + j, none⟩ = some (.int .i64 q)) (by kernel_rfl) (HCB.out _ (bstep HBS.out hd1)) (fun hHeld => ?_)
            refine wpAnyH_take (i := 0) (oi := { dst := some 102, op := Go.Op.move (Go.Operand.tmp 9), type := 25, pos := "law.go:144", after := #[], guard := none }) (v := ?vb0) rfl (by kernel_rfl) (by kernel_rfl) (by kernel_rfl) (fun _ _ _ h => h) (Or.inl ⟨by rfl, ?hyb0⟩) hHeld ?_
            case hyb0 => (intro w hSw; (try dsimp only at hSw); go_simp; first | done | with_reducible rfl)
            try simp only [Act.put, List.setIfInBounds_toArray, List.set_cons_zero, List.set_cons_succ]
            refine wpAnyH_take (i := 1) (oi := { dst := some 103, op := Go.Op.move (Go.Operand.tmp 2), type := 52, pos := "law.go:144", after := #[], guard := none }) (v := ?vb1) rfl (by kernel_rfl) (by kernel_rfl) (by kernel_rfl) (fun _ _ _ h => h) (Or.inl ⟨by rfl, ?hyb1⟩) hHeld ?_
            case hyb1 => (intro w hSw; (try dsimp only at hSw); go_simp; first | done | with_reducible rfl)
            try simp only [Act.put, List.setIfInBounds_toArray, List.set_cons_zero, List.set_cons_succ]
            refine wpAnyH_take (i := 2) (oi := { dst := some 104, op := Go.Op.move (Go.Operand.tmp 13), type := 3, pos := "law.go:144", after := #[], guard := none }) (v := ?vb2) rfl (by kernel_rfl) (by kernel_rfl) (by kernel_rfl) (fun _ _ _ h => h) (Or.inl ⟨by rfl, ?hyb2⟩) hHeld ?_
            case hyb2 => (intro w hSw; (try dsimp only at hSw); go_simp; first | done | with_reducible rfl)
            try simp only [Act.put, List.setIfInBounds_toArray, List.set_cons_zero, List.set_cons_succ]
            refine wpAnyH_take (i := 3) (oi := { dst := some 105, op := Go.Op.indexAddr 52 (Go.Operand.tmp 103) (Go.Operand.tmp 104), type := 0, pos := "law.go:144", after := #[{ on := 1, ground := Go.Ground.data }, { on := 2, ground := Go.Ground.data }], guard := none }) (v := ?vb3) rfl (by kernel_rfl) (by kernel_rfl) (by kernel_rfl) (fun _ _ _ h => h) (Or.inl ⟨by rfl, ?hyb3⟩) hHeld ?_
            case hyb3 => (intro w hSw; (try dsimp only at hSw); go_simp; first | done | with_reducible rfl)
            try simp only [Act.put, List.setIfInBounds_toArray, List.set_cons_zero, List.set_cons_succ]
            refine wpAnyH_take (i := 4) (oi := { dst := some 106, op := Go.Op.load 3 (Go.Operand.tmp 105), type := 3, pos := "law.go:144", after := #[{ on := 3, ground := Go.Ground.data }], guard := none }) (v := ?vb4) rfl (by kernel_rfl) (by kernel_rfl) (by kernel_rfl) (fun _ _ _ h => h) (Or.inl ⟨by rfl, ?hyb4⟩) hHeld ?_
            case hyb4 => (intro w hSw; (try dsimp only at hSw); go_simp; first | done | with_reducible rfl)
            try simp only [Act.put, List.setIfInBounds_toArray, List.set_cons_zero, List.set_cons_succ]
            refine wpAnyH_take (i := 5) (oi := { dst := some 107, op := Go.Op.move (Go.Operand.tmp 0), type := 3, pos := "law.go:144", after := #[], guard := none }) (v := ?vb5) rfl (by kernel_rfl) (by kernel_rfl) (by kernel_rfl) (fun _ _ _ h => h) (Or.inl ⟨by rfl, ?hyb5⟩) hHeld ?_
            case hyb5 => (intro w hSw; (try dsimp only at hSw); go_simp; first | done | with_reducible rfl)
            try simp only [Act.put, List.setIfInBounds_toArray, List.set_cons_zero, List.set_cons_succ]
            refine wpAnyH_take (i := 6) (oi := { dst := some 108, op := Go.Op.binOp Go.BinOp.rem 3 (Go.Operand.tmp 106) (Go.Operand.tmp 107) 3, type := 3, pos := "law.go:144", after := #[{ on := 4, ground := Go.Ground.data }, { on := 5, ground := Go.Ground.data }], guard := none }) (v := ?vb6) rfl (by kernel_rfl) (by kernel_rfl) (by kernel_rfl) (fun _ _ _ h => h) (Or.inl ⟨by rfl, ?hyb6⟩) hHeld ?_
            case hyb6 => (intro w hSw; (try dsimp only at hSw); go_simp; first | done | with_reducible rfl)
            try simp only [Act.put, List.setIfInBounds_toArray, List.set_cons_zero, List.set_cons_succ]
            refine wpAnyH_take (i := 7) (oi := { dst := some 109, op := Go.Op.move (Go.Operand.tmp 13), type := 3, pos := "law.go:144", after := #[], guard := none }) (v := ?vb7) rfl (by kernel_rfl) (by kernel_rfl) (by kernel_rfl) (fun _ _ _ h => h) (Or.inl ⟨by rfl, ?hyb7⟩) hHeld ?_
            case hyb7 => (intro w hSw; (try dsimp only at hSw); go_simp; first | done | with_reducible rfl)
            try simp only [Act.put, List.setIfInBounds_toArray, List.set_cons_zero, List.set_cons_succ]
            refine wpAnyH_take (i := 8) (oi := { dst := some 110, op := Go.Op.binOp Go.BinOp.add 3 (Go.Operand.tmp 109) (Go.Operand.const (Go.Value.int Go.IntKind.i64 101)) 3, type := 3, pos := "law.go:144", after := #[{ on := 7, ground := Go.Ground.data }], guard := none }) (v := ?vb8) rfl (by kernel_rfl) (by kernel_rfl) (by kernel_rfl) (fun _ _ _ h => h) (Or.inl ⟨by rfl, ?hyb8⟩) hHeld ?_
            case hyb8 => (intro w hSw; (try dsimp only at hSw); go_simp; first | done | with_reducible rfl)
            try simp only [Act.put, List.setIfInBounds_toArray, List.set_cons_zero, List.set_cons_succ]
            refine wpAnyH_take (i := 9) (oi := { dst := some 111, op := Go.Op.convert 3 5 (Go.Operand.tmp 110), type := 5, pos := "law.go:144", after := #[{ on := 8, ground := Go.Ground.data }], guard := none }) (v := ?vb9) rfl (by kernel_rfl) (by kernel_rfl) (by kernel_rfl) (fun _ _ _ h => h) (Or.inl ⟨by rfl, ?hyb9⟩) hHeld ?_
            case hyb9 => (intro w hSw; (try dsimp only at hSw); go_simp; first | done | with_reducible rfl)
            try simp only [Act.put, List.setIfInBounds_toArray, List.set_cons_zero, List.set_cons_succ]
            refine wpAnyH_ready (rs := [10]) (by kernel_rfl) (by simp) ?_
            refine AllReadyH.cons (o := { dst := some 112, op := Go.Op.call { callee := Go.Callee.value (Go.Operand.func 28), args := #[Go.Operand.tmp 111], argTypes := #[5] }, type := 32, pos := "law.go:144", after := #[{ on := 9, ground := Go.Ground.data }], guard := none }) rfl (fun K hK => ?_) AllReadyH.nil
            go_simp
            refine (HBY.out _).mono ?_
            rintro e wB ⟨rfl, hkB, hbB⟩
            have hd2 := Bs.below_step hd1 hbB
            have HWC := Lib.hid (HWR.out wB hd2 _ (hkB.all' 16 16 rfl (Nat.le_refl _)))
            clear hkB hbB
            go_wp2_with fail
            refine hK.out _ _ (HCB.out _ (bstep HBS.out hd2)) (fun hHeld => ?_)
            clear hK K
            try simp only [Act.put, List.setIfInBounds_toArray, List.set_cons_zero, List.set_cons_succ]
            refine wpAnyH_ready (rs := [11]) (by kernel_rfl) (by simp) ?_
            refine AllReadyH.cons (o := { dst := some 113, op := Go.Op.call { callee := Go.Callee.value (Go.Operand.func 13), args := #[Go.Operand.tmp 102, Go.Operand.tmp 108, Go.Operand.tmp 112], argTypes := #[25, 3, 32] }, type := 26, pos := "law.go:144", after := #[{ on := 0, ground := Go.Ground.data }, { on := 6, ground := Go.Ground.data }, { on := 10, ground := Go.Ground.data }, { on := 10, ground := Go.Ground.chain }], guard := none }) rfl (fun K hK => ?_) AllReadyH.nil
            go_simp
            refine HWC.out.mono ?_
            rintro e wD ⟨rfl, hdD⟩
            have HDD := Lib.hid hdD
            clear hdD
            go_wp2_with fail
            refine hK.out _ _ (HCB.out _ HDD.out.bel) (fun hHeld => ?_)
            clear hK K
            try simp only [Act.put, List.setIfInBounds_toArray, List.set_cons_zero, List.set_cons_succ]
            refine wpAnyH_take (i := 12) (oi := { dst := some 114, op := Go.Op.binOp Go.BinOp.neq 26 (Go.Operand.tmp 113) (Go.Operand.const (Go.Value.int Go.IntKind.i64 0)) 26, type := 4, pos := "law.go:144", after := #[{ on := 11, ground := Go.Ground.data }], guard := none }) (v := ?vb12) rfl (by kernel_rfl) (by kernel_rfl) (by kernel_rfl) (fun _ _ _ h => h) (Or.inl ⟨by rfl, ?hyb12⟩) hHeld ?_
            case hyb12 => (intro w hSw; (try dsimp only at hSw); go_simp; first | done | with_reducible rfl)
            try simp only [Act.put, List.setIfInBounds_toArray, List.set_cons_zero, List.set_cons_succ]
            refine wpAnyH_done (by kernel_rfl) ?_ _
            go_wp2
            go_roundw
            case rel => exact ⟨j + 1, by omega, by go_num, fun i hi => (by rcases Nat.lt_or_ge i j with h | h; exact HPOS.out i h; obtain rfl : i = j := (by omega); rw [HQ.out]; omega), HDD.out⟩
            case measure => simp [intOf]; omega
        · obtain rfl : j = len2 := by omega
          have HCR := Lib.hid (Crash_dz hdz (by show k + 1 + j < _; omega) a3 len3 cap3 ks (HR3.out.keep hdz.bel))
          clear hdz
          go_wp2_with fail
          refine HCR.out.mono ?_
          rintro e wC ⟨⟨vC, rfl⟩, hdC⟩
          have HO := Lib.hid (On_dz hdC)
          clear hdC
          go_wp2_with fail
          refine HO.out.mono ?_
          rintro e wO ⟨⟨vO, rfl⟩, hdO⟩
          rw [stW_crash] at hdO
          obtain ⟨L2, hL2⟩ : ∃ L2, cur L1 (kept ks (wrs m 101 ys j)) = L2 := ⟨_, rfl⟩
          have HL2 : Hid (∀ s, s < m → okJ m s (L2 s) (WW.getD s 0) ys ks j = true) := fun s hs => by
            rw [← hL2]
            exact okJ_true m s L1 WW ys ks j (HL1.out s hs)
          have HL2n : Hid (∀ s, (L2 s).length = 16) := fun s => by
            obtain ⟨D, h1, _⟩ := hdO
            have := h1.ok.ls s
            rw [← hL2]; exact this
          rw [hL2] at hdO
          have HO2 := Lib.hid hdO
          clear hdO hL2
          go_wp2
          go_loopw [14] (fun i wr => ∃ s : Nat, s ≤ m ∧ i = .int .i64 s ∧ DZ w wr g (stW m L2 [] (k + 1 + j)) z WW) (fun i _ => m - (intOf i).toNat)
          case atStart => exact ⟨0, Nat.zero_le _, rfl, HO2.out⟩
          case round =>
            obtain ⟨s, hs, rfl, hdz⟩ := hrel
            by_cases hslt : s < m
            · have HRD := Lib.hid (Read_dz hdz (s : Int) _ _ (stW_read m L2 [] _ s hslt))
              rw [cur_nil] at HRD
              have HOK := Lib.hid (HL2.out s hslt)
              have HLN := Lib.hid (HL2n.out s)
              clear hdz
              obtain ⟨bs, hbs⟩ : ∃ bs, L2 s = bs := ⟨_, rfl⟩
              rw [hbs] at HRD HOK HLN
              clear hbs
              go_wp2_with fail
              refine HRD.out.mono ?_
              rintro e wR ⟨v, rfl, hv, hdR, _⟩
              obtain ⟨rfl, hkR⟩ := readV_rd hv 16 HLN.out (by omega)
              obtain ⟨zb, hzb⟩ : ∃ zb, wr.heap.size = zb := ⟨_, rfl⟩
              rw [hzb] at hkR ⊢
              obtain ⟨x, hx⟩ : ∃ x, WW.getD s 0 = x := ⟨_, rfl⟩
              have hcz := hdR.blk.cell s (by rw [HWL.out]; exact hslt)
              rw [hx] at hcz HOK
              have HDR := Lib.hid hdR
              have HCV : Hid (∀ W, Below wR.heap.size wR W → (convert 32 9 (.slice (some ⟨zb, 0, none⟩) 16 16)).run Try.prog W = .ok (.string ⟨bs.toArray⟩) W) := fun W hW => string_rd W _ _ _ _ ((hkR.all' 16 16 HLN.out (Nat.le_refl _)).keep hW)
              have HCZ : Hid (∀ W, Below wR.heap.size wR W → W.cell? ⟨z, s, none⟩ = some (B x)) := fun W hW => (hW.cell (p := ⟨z, s, none⟩) HDR.out.blk.lt).trans hcz
              obtain ⟨SA, hSA⟩ : ∃ SA : ByteArray, ⟨bs.toArray⟩ = SA := ⟨_, rfl⟩
              have HSA := Lib.hid hSA
              rw [hSA] at HCV
              clear hv hdR hkR hzb hx hSA hcz
              go_wp2_with fail
              have hd1 : Below wR.heap.size wR wR.drew := (Below.refl _ _).drew
              refine wp_region_held_drew (S := fun W => (convert 32 9 (.slice (some ⟨zb, 0, none⟩) 16 16)).run Try.prog W = .ok (.string SA) W ∧ W.cell? ⟨z, s, none⟩ = some (B x)) (by kernel_rfl) (⟨HCV.out _ hd1, HCZ.out _ hd1⟩) (fun hHeld => ?_)
              refine wpAnyH_take (i := 0) (oi := { dst := some 138, op := Go.Op.move (Go.Operand.tmp 15), type := 32, pos := "law.go:155", after := #[], guard := none }) (v := ?vc0) rfl (by kernel_rfl) (by kernel_rfl) (by kernel_rfl) (fun _ _ _ h => h) (Or.inl ⟨by rfl, ?hyc0⟩) hHeld ?_
              case hyc0 => (intro w hSw; (try dsimp only at hSw); go_simp; first | done | with_reducible rfl)
              try simp only [Act.put, List.setIfInBounds_toArray, List.set_cons_zero, List.set_cons_succ]
              refine wpAnyH_take (i := 1) (oi := { dst := some 139, op := Go.Op.convert 32 9 (Go.Operand.tmp 138), type := 9, pos := "law.go:155", after := #[{ on := 0, ground := Go.Ground.data }], guard := none }) (v := ?vc1) rfl (by kernel_rfl) (by kernel_rfl) (by kernel_rfl) (fun _ _ _ h => h) (Or.inl ⟨by rfl, ?hyc1⟩) hHeld ?_
              case hyc1 => (intro w hSw; (try dsimp only at hSw); go_simp; first | done | with_reducible rfl)
              try simp only [Act.put, List.setIfInBounds_toArray, List.set_cons_zero, List.set_cons_succ]
              refine wpAnyH_take (i := 2) (oi := { dst := some 140, op := Go.Op.move (Go.Operand.tmp 11), type := 32, pos := "law.go:155", after := #[], guard := none }) (v := ?vc2) rfl (by kernel_rfl) (by kernel_rfl) (by kernel_rfl) (fun _ _ _ h => h) (Or.inl ⟨by rfl, ?hyc2⟩) hHeld ?_
              case hyc2 => (intro w hSw; (try dsimp only at hSw); go_simp; first | done | with_reducible rfl)
              try simp only [Act.put, List.setIfInBounds_toArray, List.set_cons_zero, List.set_cons_succ]
              refine wpAnyH_take (i := 3) (oi := { dst := some 141, op := Go.Op.move (Go.Operand.tmp 14), type := 3, pos := "law.go:155", after := #[], guard := none }) (v := ?vc3) rfl (by kernel_rfl) (by kernel_rfl) (by kernel_rfl) (fun _ _ _ h => h) (Or.inl ⟨by rfl, ?hyc3⟩) hHeld ?_
              case hyc3 => (intro w hSw; (try dsimp only at hSw); go_simp; first | done | with_reducible rfl)
              try simp only [Act.put, List.setIfInBounds_toArray, List.set_cons_zero, List.set_cons_succ]
              refine wpAnyH_take (i := 4) (oi := { dst := some 142, op := Go.Op.indexAddr 32 (Go.Operand.tmp 140) (Go.Operand.tmp 141), type := 0, pos := "law.go:155", after := #[{ on := 2, ground := Go.Ground.data }, { on := 3, ground := Go.Ground.data }], guard := none }) (v := ?vc4) rfl (by kernel_rfl) (by kernel_rfl) (by kernel_rfl) (fun _ _ _ h => h) (Or.inl ⟨by rfl, ?hyc4⟩) hHeld ?_
              case hyc4 => (intro w hSw; (try dsimp only at hSw); go_simp; first | done | with_reducible rfl)
              try simp only [Act.put, List.setIfInBounds_toArray, List.set_cons_zero, List.set_cons_succ]
              refine wpAnyH_take (i := 5) (oi := { dst := some 143, op := Go.Op.load 5 (Go.Operand.tmp 142), type := 5, pos := "law.go:155", after := #[{ on := 4, ground := Go.Ground.data }], guard := none }) (v := ?vc5) rfl (by kernel_rfl) (by kernel_rfl) (by kernel_rfl) (fun _ _ _ h => h) (Or.inl ⟨by rfl, ?hyc5⟩) hHeld ?_
              case hyc5 => (intro w hSw; (try dsimp only at hSw); go_simp; first | done | with_reducible rfl)
              try simp only [Act.put, List.setIfInBounds_toArray, List.set_cons_zero, List.set_cons_succ]
              refine wpAnyH_ready (rs := [6]) (by kernel_rfl) (by simp) ?_
              refine AllReadyH.cons (o := { dst := some 144, op := Go.Op.call { callee := Go.Callee.value (Go.Operand.func 28), args := #[Go.Operand.tmp 143], argTypes := #[5] }, type := 32, pos := "law.go:155", after := #[{ on := 5, ground := Go.Ground.data }], guard := none }) rfl (fun K hK => ?_) AllReadyH.nil
              go_simp
              refine (bytes_any x _).mono ?_
              rintro e wB ⟨rfl, hkB, hbB⟩
              have hd2 := Bs.below_step hd1 hbB
              have e3 := string_rd wB _ _ _ _ (hkB.all' 16 16 rfl (Nat.le_refl _))
              obtain ⟨SX, hSX⟩ : ∃ SX : ByteArray, ⟨(by16 x).toArray⟩ = SX := ⟨_, rfl⟩
              rw [hSX] at e3
              have HSX := Lib.hid hSX
              generalize Value.slice (some ⟨wR.drew.heap.size, 0, none⟩) 16 16 = vA at e3 ⊢
              clear hkB hbB hSX
              go_wp2_with fail
              refine hK.out _ _ (⟨HCV.out _ hd2, HCZ.out _ hd2⟩) (fun hHeld => ?_)
              clear hK K
              try simp only [Act.put, List.setIfInBounds_toArray, List.set_cons_zero, List.set_cons_succ]
              refine wpAnyH_ready (rs := [7]) (by kernel_rfl) (by simp) ?_
              refine AllReadyH.cons (o := { dst := some 145, op := Go.Op.convert 32 9 (Go.Operand.tmp 144), type := 9, pos := "law.go:155", after := #[{ on := 6, ground := Go.Ground.data }], guard := none }) rfl (fun K hK => ?_) AllReadyH.nil
              go_simp
              refine hK.out _ _ (hHeld) (fun hHeld => ?_)
              clear hK K
              try simp only [Act.put, List.setIfInBounds_toArray, List.set_cons_zero, List.set_cons_succ]
              refine wpAnyH_take (i := 8) (oi := { dst := some 146, op := Go.Op.binOp Go.BinOp.eql 9 (Go.Operand.tmp 139) (Go.Operand.tmp 145) 9, type := 4, pos := "law.go:155", after := #[{ on := 1, ground := Go.Ground.data }, { on := 7, ground := Go.Ground.data }], guard := none }) (v := ?vc8) rfl (by kernel_rfl) (by kernel_rfl) (by kernel_rfl) (fun _ _ _ h => h) (Or.inl ⟨by rfl, ?hyc8⟩) hHeld ?_
              case hyc8 => (intro w hSw; (try dsimp only at hSw); go_simp; first | done | with_reducible rfl)
              try simp only [Act.put, List.setIfInBounds_toArray, List.set_cons_zero, List.set_cons_succ]
              refine wpAnyH_take (i := 9) (oi := { dst := some 17, op := Go.Op.assign (Go.Operand.tmp 146), type := 4, pos := "law.go:155", after := #[{ on := 8, ground := Go.Ground.data }, { on := 6, ground := Go.Ground.chain }, { on := 0, ground := Go.Ground.phase }, { on := 1, ground := Go.Ground.phase }, { on := 2, ground := Go.Ground.phase }, { on := 3, ground := Go.Ground.phase }, { on := 4, ground := Go.Ground.phase }, { on := 5, ground := Go.Ground.phase }, { on := 6, ground := Go.Ground.phase }, { on := 7, ground := Go.Ground.phase }, { on := 8, ground := Go.Ground.phase }], guard := none }) (v := ?vc9) rfl (by kernel_rfl) (by kernel_rfl) (by kernel_rfl) (fun _ _ _ h => h) (Or.inl ⟨by rfl, ?hyc9⟩) hHeld ?_
              case hyc9 => (intro w hSw; (try dsimp only at hSw); go_simp; first | done | with_reducible rfl)
              try simp only [Act.put, List.setIfInBounds_toArray, List.set_cons_zero, List.set_cons_succ]
              refine wpAnyH_done (by kernel_rfl) ?_ _
              have hb0 : (SA.toList == SX.toList) = okJ m s bs x ys ks 0 := by rw [← HSA.out, ← HSX.out, ByteArray.toList_mk, ByteArray.toList_mk, Bool.eq_iff_iff]; simp [okJ]
              have HD2 := Lib.hid hd2
              clear hd2 hd1 hHeld e3
              rw [hb0]
              go_wp2
              go_loopw [17, 18] (fun ok i wq => ∃ t : Nat, t ≤ j ∧ i = .int .i64 t ∧ ok = .bool (okJ m s bs x ys ks t) ∧ Below wR.heap.size wR wq) (fun _ i _ => j - (intOf i).toNat)
              case atStart => exact ⟨0, Nat.zero_le _, rfl, rfl, HD2.out⟩
              case round =>
                obtain ⟨t, ht, rfl, rfl, hbq⟩ := hrel
                have HBQ := Lib.hid hbq
                clear hbq
                by_cases htl : t < j
                · obtain ⟨gy, oy, rfl, hgy, hcy⟩ := HR2.out.cells (by omega)
                  have hwfz := HR2.out.wf _ (getD_mem ys t (by rw [HR2.out.len]; exact htl))
                  have hmod := sec_mod m ys t (HPOS.out t htl)
                  have HCY : Hid (∀ W, Below wR.heap.size wR W → W.cell? ⟨gy, oy + t, none⟩ = some (.int .i64 (ys.getD t 0))) := fun W hW => ((bstep HDR.out.bel hW).cell (p := ⟨gy, oy + t, none⟩) hgy).trans (hcy t htl)
                  have HSC : Hid (secOf m ys t = secOf m ys t) := rfl
                  have hsl := secOf_lt m ys t (by omega)
                  obtain ⟨q, hq⟩ : ∃ q, ys.getD t 0 = q := ⟨_, rfl⟩
                  rw [hq] at hwfz hmod HCY
                  have HST : Hid (okJ m s bs x ys ks (t + 1) = (okJ m s bs x ys ks t || (decide (secOf m ys t = s) && (decide (bs = byN (t + 101)) && (decide (t < ks.length) && ks.getD t false))))) := rfl
                  obtain ⟨sc, hsc⟩ : ∃ sc, secOf m ys t = sc := ⟨_, rfl⟩
                  rw [hsc] at hmod hsl HST
                  rw [HR3.out.len] at HST
                  have hi64 : IntKind.i64.wrap ((t : Int) + 101) = (t : Int) + 101 := IntWalk.i64_in _ (by omega)
                  have hu8 : IntKind.u8.wrap ((t : Int) + 101) = (t : Int) + 101 := by rw [IntKind.wrap_u8']; omega
                  have hBx := u8_val t 101 (by omega)
                  have HBY : Hid (∀ W, Calls Try.prog 28 #[.int .u8 ((t : Int) + 101)] W fun e w' => e = .returned (.slice (some ⟨W.heap.size, 0, none⟩) 16 16) ∧ Blk w' W.heap.size 5 (byN (t + 101)) ∧ Below W.heap.size W w') := fun W => by rw [show ((t : Int) + 101) = ((t : Int) + (101 : Nat)) from rfl, hBx]; exact bytes_any _ W
                  obtain ⟨vb, hvb⟩ : ∃ v, Value.slice (some ⟨zb, 0, none⟩) 16 16 = v := ⟨_, rfl⟩
                  have HVB := Lib.hid hvb
                  have HCV2 := HCV
                  rw [hvb] at HCV2 ⊢
                  clear hq hsc hBx hcy hvb
                  go_wp2_with fail
                  have hd3 : Below wR.heap.size wR wr.drew := HBQ.out.drew
                  cases ho : okJ m s bs x ys ks t
                  · have HO' := Lib.hid ho
                    rw [ho] at HST
                    clear ho
                    by_cases hss : sc = s
                    · subst hss
                      by_cases hcm : bs = byN (t + 101)
                      · have HCM : Hid (∀ SY : ByteArray, ⟨(byN (t + 101)).toArray⟩ = SY → (SA.toList == SY.toList) = true) := fun SY h => by rw [← h, ← HSA.out, hcm]; simp
                        have HCM2 := Lib.hid hcm
                        clear hcm
                        by_cases htk : t < len3
                        · obtain ⟨gk, ok, rfl, hgk, hck⟩ := HR3.out.cells (by omega)
                          have HCK : Hid (∀ W, Below wR.heap.size wR W → W.cell? ⟨gk, ok + t, none⟩ = some (.bool (ks.getD t false))) := fun W hW => ((bstep HDR.out.bel hW).cell (p := ⟨gk, ok + t, none⟩) hgk).trans (hck t htk)
                          obtain ⟨kb, hkb⟩ : ∃ kb, ks.getD t false = kb := ⟨_, rfl⟩
                          rw [hkb] at HCK HST
                          clear hkb hck
                          have htk' : decide ((t : Int) < (len3 : Int)) = true := decide_eq_true (by omega)
                          have htk2 : decide (t < len3) = true := decide_eq_true htk
                          refine wp_region_held_drew (S := fun W => W.cell? ⟨gy, oy + t, none⟩ = some (.int .i64 q) ∧ (convert 32 9 vb).run Try.prog W = .ok (.string SA) W ∧ W.cell? ⟨gk, ok + t, none⟩ = some (.bool kb)) (by kernel_rfl) (⟨HCY.out _ hd3, HCV2.out _ hd3, HCK.out _ hd3⟩) (fun hHeld => ?_)
                          refine wpAnyH_take (i := 0) (oi := { dst := some 153, op := Go.Op.move (Go.Operand.tmp 17), type := 4, pos := "law.go:157", after := #[], guard := none }) (v := ?vp0) rfl (by kernel_rfl) (by kernel_rfl) (by kernel_rfl) (fun _ _ _ h => h) (Or.inl ⟨by rfl, ?hyp0⟩) hHeld ?_
                          case hyp0 => (intro w hSw; (try dsimp only at hSw); go_simp; first | done | with_reducible rfl)
                          try simp only [Act.put, List.setIfInBounds_toArray, List.set_cons_zero, List.set_cons_succ]
                          refine wpAnyH_take (i := 1) (oi := { dst := some 154, op := Go.Op.move (Go.Operand.tmp 153), type := 4, pos := "law.go:157", after := #[{ on := 0, ground := Go.Ground.data }], guard := none }) (v := ?vp1) rfl (by kernel_rfl) (by kernel_rfl) (by kernel_rfl) (fun _ _ _ h => h) (Or.inl ⟨by rfl, ?hyp1⟩) hHeld ?_
                          case hyp1 => (intro w hSw; (try dsimp only at hSw); go_simp; first | done | with_reducible rfl)
                          try simp only [Act.put, List.setIfInBounds_toArray, List.set_cons_zero, List.set_cons_succ]
                          refine wpAnyH_take (i := 2) (oi := { dst := some 155, op := Go.Op.move (Go.Operand.tmp 2), type := 52, pos := "law.go:157", after := #[{ on := 1, ground := Go.Ground.guard }], guard := some (1, false) }) (v := ?vp2) rfl (by kernel_rfl) (by kernel_rfl) (by kernel_rfl) (fun _ _ _ h => h) (Or.inl ⟨by rfl, ?hyp2⟩) hHeld ?_
                          case hyp2 => (intro w hSw; (try dsimp only at hSw); go_simp; first | done | with_reducible rfl)
                          try simp only [Act.put, List.setIfInBounds_toArray, List.set_cons_zero, List.set_cons_succ]
                          refine wpAnyH_take (i := 3) (oi := { dst := some 156, op := Go.Op.move (Go.Operand.tmp 18), type := 3, pos := "law.go:157", after := #[{ on := 1, ground := Go.Ground.guard }], guard := some (1, false) }) (v := ?vp3) rfl (by kernel_rfl) (by kernel_rfl) (by kernel_rfl) (fun _ _ _ h => h) (Or.inl ⟨by rfl, ?hyp3⟩) hHeld ?_
                          case hyp3 => (intro w hSw; (try dsimp only at hSw); go_simp; first | done | with_reducible rfl)
                          try simp only [Act.put, List.setIfInBounds_toArray, List.set_cons_zero, List.set_cons_succ]
                          refine wpAnyH_take (i := 4) (oi := { dst := some 157, op := Go.Op.indexAddr 52 (Go.Operand.tmp 155) (Go.Operand.tmp 156), type := 0, pos := "law.go:157", after := #[{ on := 2, ground := Go.Ground.data }, { on := 3, ground := Go.Ground.data }, { on := 1, ground := Go.Ground.guard }], guard := some (1, false) }) (v := ?vp4) rfl (by kernel_rfl) (by kernel_rfl) (by kernel_rfl) (fun _ _ _ h => h) (Or.inl ⟨by rfl, ?hyp4⟩) hHeld ?_
                          case hyp4 => (intro w hSw; (try dsimp only at hSw); go_simp; first | done | with_reducible rfl)
                          try simp only [Act.put, List.setIfInBounds_toArray, List.set_cons_zero, List.set_cons_succ]
                          refine wpAnyH_take (i := 5) (oi := { dst := some 158, op := Go.Op.load 3 (Go.Operand.tmp 157), type := 3, pos := "law.go:157", after := #[{ on := 4, ground := Go.Ground.data }, { on := 1, ground := Go.Ground.guard }], guard := some (1, false) }) (v := ?vp5) rfl (by kernel_rfl) (by kernel_rfl) (by kernel_rfl) (fun _ _ _ h => h) (Or.inl ⟨by rfl, ?hyp5⟩) hHeld ?_
                          case hyp5 => (intro w hSw; (try dsimp only at hSw); go_simp; first | done | with_reducible rfl)
                          try simp only [Act.put, List.setIfInBounds_toArray, List.set_cons_zero, List.set_cons_succ]
                          refine wpAnyH_take (i := 6) (oi := { dst := some 159, op := Go.Op.move (Go.Operand.tmp 0), type := 3, pos := "law.go:157", after := #[{ on := 1, ground := Go.Ground.guard }], guard := some (1, false) }) (v := ?vp6) rfl (by kernel_rfl) (by kernel_rfl) (by kernel_rfl) (fun _ _ _ h => h) (Or.inl ⟨by rfl, ?hyp6⟩) hHeld ?_
                          case hyp6 => (intro w hSw; (try dsimp only at hSw); go_simp; first | done | with_reducible rfl)
                          try simp only [Act.put, List.setIfInBounds_toArray, List.set_cons_zero, List.set_cons_succ]
                          refine wpAnyH_take (i := 7) (oi := { dst := some 160, op := Go.Op.binOp Go.BinOp.rem 3 (Go.Operand.tmp 158) (Go.Operand.tmp 159) 3, type := 3, pos := "law.go:157", after := #[{ on := 5, ground := Go.Ground.data }, { on := 6, ground := Go.Ground.data }, { on := 1, ground := Go.Ground.guard }], guard := some (1, false) }) (v := ?vp7) rfl (by kernel_rfl) (by kernel_rfl) (by kernel_rfl) (fun _ _ _ h => h) (Or.inl ⟨by rfl, ?hyp7⟩) hHeld ?_
                          case hyp7 => (intro w hSw; (try dsimp only at hSw); go_simp; first | done | with_reducible rfl)
                          try simp only [Act.put, List.setIfInBounds_toArray, List.set_cons_zero, List.set_cons_succ]
                          refine wpAnyH_take (i := 8) (oi := { dst := some 161, op := Go.Op.move (Go.Operand.tmp 14), type := 3, pos := "law.go:157", after := #[{ on := 1, ground := Go.Ground.guard }], guard := some (1, false) }) (v := ?vp8) rfl (by kernel_rfl) (by kernel_rfl) (by kernel_rfl) (fun _ _ _ h => h) (Or.inl ⟨by rfl, ?hyp8⟩) hHeld ?_
                          case hyp8 => (intro w hSw; (try dsimp only at hSw); go_simp; first | done | with_reducible rfl)
                          try simp only [Act.put, List.setIfInBounds_toArray, List.set_cons_zero, List.set_cons_succ]
                          refine wpAnyH_take (i := 9) (oi := { dst := some 162, op := Go.Op.binOp Go.BinOp.eql 3 (Go.Operand.tmp 160) (Go.Operand.tmp 161) 3, type := 4, pos := "law.go:157", after := #[{ on := 7, ground := Go.Ground.data }, { on := 8, ground := Go.Ground.data }, { on := 1, ground := Go.Ground.guard }], guard := some (1, false) }) (v := ?vp9) rfl (by kernel_rfl) (by kernel_rfl) (by kernel_rfl) (fun _ _ _ h => h) (Or.inl ⟨by rfl, ?hyp9⟩) hHeld ?_
                          case hyp9 => (intro w hSw; (try dsimp only at hSw); go_simp; first | done | with_reducible rfl)
                          try simp only [Act.put, List.setIfInBounds_toArray, List.set_cons_zero, List.set_cons_succ]
                          refine wpAnyH_take (i := 10) (oi := { dst := some 163, op := Go.Op.move (Go.Operand.tmp 162), type := 4, pos := "law.go:157", after := #[{ on := 9, ground := Go.Ground.data }, { on := 1, ground := Go.Ground.chain }, { on := 1, ground := Go.Ground.guard }], guard := some (1, false) }) (v := ?vp10) rfl (by kernel_rfl) (by kernel_rfl) (by kernel_rfl) (fun _ _ _ h => h) (Or.inl ⟨by rfl, ?hyp10⟩) hHeld ?_
                          case hyp10 => (intro w hSw; (try dsimp only at hSw); go_simp; first | done | with_reducible rfl)
                          try simp only [Act.put, List.setIfInBounds_toArray, List.set_cons_zero, List.set_cons_succ]
                          refine wpAnyH_take (i := 11) (oi := { dst := some 164, op := Go.Op.move (Go.Operand.tmp 15), type := 32, pos := "law.go:157", after := #[{ on := 10, ground := Go.Ground.guard }], guard := some (10, true) }) (v := ?vp11) rfl (by kernel_rfl) (by kernel_rfl) (by kernel_rfl) (fun _ _ _ h => h) (Or.inl ⟨by rfl, ?hyp11⟩) hHeld ?_
                          case hyp11 => (intro w hSw; (try dsimp only at hSw); go_simp; first | done | with_reducible rfl)
                          try simp only [Act.put, List.setIfInBounds_toArray, List.set_cons_zero, List.set_cons_succ]
                          refine wpAnyH_take (i := 12) (oi := { dst := some 165, op := Go.Op.convert 32 9 (Go.Operand.tmp 164), type := 9, pos := "law.go:157", after := #[{ on := 11, ground := Go.Ground.data }, { on := 10, ground := Go.Ground.guard }], guard := some (10, true) }) (v := ?vp12) rfl (by kernel_rfl) (by kernel_rfl) (by kernel_rfl) (fun _ _ _ h => h) (Or.inl ⟨by rfl, ?hyp12⟩) hHeld ?_
                          case hyp12 => (intro w hSw; (try dsimp only at hSw); go_simp; first | done | with_reducible rfl)
                          try simp only [Act.put, List.setIfInBounds_toArray, List.set_cons_zero, List.set_cons_succ]
                          refine wpAnyH_take (i := 13) (oi := { dst := some 166, op := Go.Op.move (Go.Operand.tmp 18), type := 3, pos := "law.go:157", after := #[{ on := 10, ground := Go.Ground.guard }], guard := some (10, true) }) (v := ?vp13) rfl (by kernel_rfl) (by kernel_rfl) (by kernel_rfl) (fun _ _ _ h => h) (Or.inl ⟨by rfl, ?hyp13⟩) hHeld ?_
                          case hyp13 => (intro w hSw; (try dsimp only at hSw); go_simp; first | done | with_reducible rfl)
                          try simp only [Act.put, List.setIfInBounds_toArray, List.set_cons_zero, List.set_cons_succ]
                          refine wpAnyH_take (i := 14) (oi := { dst := some 167, op := Go.Op.binOp Go.BinOp.add 3 (Go.Operand.tmp 166) (Go.Operand.const (Go.Value.int Go.IntKind.i64 101)) 3, type := 3, pos := "law.go:157", after := #[{ on := 13, ground := Go.Ground.data }, { on := 10, ground := Go.Ground.guard }], guard := some (10, true) }) (v := ?vp14) rfl (by kernel_rfl) (by kernel_rfl) (by kernel_rfl) (fun _ _ _ h => h) (Or.inl ⟨by rfl, ?hyp14⟩) hHeld ?_
                          case hyp14 => (intro w hSw; (try dsimp only at hSw); go_simp; first | done | with_reducible rfl)
                          try simp only [Act.put, List.setIfInBounds_toArray, List.set_cons_zero, List.set_cons_succ]
                          refine wpAnyH_take (i := 15) (oi := { dst := some 168, op := Go.Op.convert 3 5 (Go.Operand.tmp 167), type := 5, pos := "law.go:157", after := #[{ on := 14, ground := Go.Ground.data }, { on := 10, ground := Go.Ground.guard }], guard := some (10, true) }) (v := ?vp15) rfl (by kernel_rfl) (by kernel_rfl) (by kernel_rfl) (fun _ _ _ h => h) (Or.inl ⟨by rfl, ?hyp15⟩) hHeld ?_
                          case hyp15 => (intro w hSw; (try dsimp only at hSw); go_simp; first | done | with_reducible rfl)
                          try simp only [Act.put, List.setIfInBounds_toArray, List.set_cons_zero, List.set_cons_succ]
                          refine wpAnyH_ready (rs := [16]) (by kernel_rfl) (by simp) ?_
                          refine AllReadyH.cons (o := { dst := some 169, op := Go.Op.call { callee := Go.Callee.value (Go.Operand.func 28), args := #[Go.Operand.tmp 168], argTypes := #[5] }, type := 32, pos := "law.go:157", after := #[{ on := 15, ground := Go.Ground.data }, { on := 10, ground := Go.Ground.chain }, { on := 10, ground := Go.Ground.guard }], guard := some (10, true) }) rfl (fun K hK => ?_) AllReadyH.nil
                          go_simp
                          refine (HBY.out _).mono ?_
                          rintro e wE ⟨rfl, hkE, hbE⟩
                          have hd4 := Bs.below_step hd3 hbE
                          have e4 := string_rd wE _ _ _ _ (hkE.all' 16 16 rfl (Nat.le_refl _))
                          obtain ⟨SY, hSY⟩ : ∃ SY : ByteArray, ⟨(byN (t + 101)).toArray⟩ = SY := ⟨_, rfl⟩
                          rw [hSY] at e4
                          have hEq := HCM.out SY hSY
                          generalize Value.slice (some ⟨wr.drew.heap.size, 0, none⟩) 16 16 = vE at e4 ⊢
                          clear hkE hbE hSY
                          go_wp2_with fail
                          refine hK.out _ _ (⟨HCY.out _ hd4, HCV2.out _ hd4, HCK.out _ hd4⟩) (fun hHeld => ?_)
                          clear hK K
                          try simp only [Act.put, List.setIfInBounds_toArray, List.set_cons_zero, List.set_cons_succ]
                          refine wpAnyH_ready (rs := [17]) (by kernel_rfl) (by simp) ?_
                          refine AllReadyH.cons (o := { dst := some 170, op := Go.Op.convert 32 9 (Go.Operand.tmp 169), type := 9, pos := "law.go:157", after := #[{ on := 16, ground := Go.Ground.data }, { on := 10, ground := Go.Ground.guard }], guard := some (10, true) }) rfl (fun K hK => ?_) AllReadyH.nil
                          go_simp
                          refine hK.out _ _ (hHeld) (fun hHeld => ?_)
                          clear hK K
                          try simp only [Act.put, List.setIfInBounds_toArray, List.set_cons_zero, List.set_cons_succ]
                          refine wpAnyH_take (i := 18) (oi := { dst := some 171, op := Go.Op.binOp Go.BinOp.eql 9 (Go.Operand.tmp 165) (Go.Operand.tmp 170) 9, type := 4, pos := "law.go:157", after := #[{ on := 12, ground := Go.Ground.data }, { on := 17, ground := Go.Ground.data }, { on := 10, ground := Go.Ground.guard }], guard := some (10, true) }) (v := ?vp18) rfl (by kernel_rfl) (by kernel_rfl) (by kernel_rfl) (fun _ _ _ h => h) (Or.inl ⟨by rfl, ?hyp18⟩) hHeld ?_
                          case hyp18 => (intro w hSw; (try dsimp only at hSw); go_simp; first | done | with_reducible rfl)
                          try simp only [Act.put, List.setIfInBounds_toArray, List.set_cons_zero, List.set_cons_succ]
                          refine wpAnyH_take (i := 19) (oi := { dst := some 172, op := Go.Op.pick (Go.Operand.tmp 163) (Go.Operand.tmp 171) (Go.Operand.const (Go.Value.bool false)), type := 4, pos := "law.go:157", after := #[{ on := 10, ground := Go.Ground.data }, { on := 18, ground := Go.Ground.data }, { on := 1, ground := Go.Ground.guard }], guard := some (1, false) }) (v := ?vp19) rfl (by kernel_rfl) (by kernel_rfl) (by kernel_rfl) (fun _ _ _ h => h) (Or.inl ⟨by rfl, ?hyp19⟩) hHeld ?_
                          case hyp19 => (intro w hSw; (try dsimp only at hSw); go_simp; first | done | with_reducible rfl)
                          try simp only [Act.put, List.setIfInBounds_toArray, List.set_cons_zero, List.set_cons_succ]
                          refine wpAnyH_take (i := 20) (oi := { dst := some 173, op := Go.Op.move (Go.Operand.tmp 172), type := 4, pos := "law.go:157", after := #[{ on := 19, ground := Go.Ground.data }, { on := 16, ground := Go.Ground.chain }, { on := 1, ground := Go.Ground.guard }], guard := some (1, false) }) (v := ?vp20) rfl (by kernel_rfl) (by kernel_rfl) (by kernel_rfl) (fun _ _ _ h => h) (Or.inl ⟨by rfl, ?hyp20⟩) hHeld ?_
                          case hyp20 => (intro w hSw; (try dsimp only at hSw); go_simp; first | done | with_reducible rfl)
                          try simp only [Act.put, List.setIfInBounds_toArray, List.set_cons_zero, List.set_cons_succ]
                          refine wpAnyH_take (i := 21) (oi := { dst := some 174, op := Go.Op.move (Go.Operand.tmp 18), type := 3, pos := "law.go:157", after := #[{ on := 20, ground := Go.Ground.guard }], guard := some (20, true) }) (v := ?vp21) rfl (by kernel_rfl) (by kernel_rfl) (by kernel_rfl) (fun _ _ _ h => h) (Or.inl ⟨by rfl, ?hyp21⟩) hHeld ?_
                          case hyp21 => (intro w hSw; (try dsimp only at hSw); go_simp; first | done | with_reducible rfl)
                          try simp only [Act.put, List.setIfInBounds_toArray, List.set_cons_zero, List.set_cons_succ]
                          refine wpAnyH_take (i := 22) (oi := { dst := some 175, op := Go.Op.move (Go.Operand.tmp 3), type := 33, pos := "law.go:157", after := #[{ on := 20, ground := Go.Ground.guard }], guard := some (20, true) }) (v := ?vp22) rfl (by kernel_rfl) (by kernel_rfl) (by kernel_rfl) (fun _ _ _ h => h) (Or.inl ⟨by rfl, ?hyp22⟩) hHeld ?_
                          case hyp22 => (intro w hSw; (try dsimp only at hSw); go_simp; first | done | with_reducible rfl)
                          try simp only [Act.put, List.setIfInBounds_toArray, List.set_cons_zero, List.set_cons_succ]
                          refine wpAnyH_take (i := 23) (oi := { dst := some 176, op := Go.Op.call { callee := Go.Callee.builtin Go.Builtin.len, args := #[Go.Operand.tmp 175], argTypes := #[33] }, type := 3, pos := "law.go:157", after := #[{ on := 22, ground := Go.Ground.data }, { on := 20, ground := Go.Ground.guard }], guard := some (20, true) }) (v := ?vp23) rfl (by kernel_rfl) (by kernel_rfl) (by kernel_rfl) (fun _ _ _ h => h) (Or.inl ⟨by rfl, ?hyp23⟩) hHeld ?_
                          case hyp23 => (intro w hSw; (try dsimp only at hSw); go_simp; first | done | with_reducible rfl)
                          try simp only [Act.put, List.setIfInBounds_toArray, List.set_cons_zero, List.set_cons_succ]
                          refine wpAnyH_take (i := 24) (oi := { dst := some 177, op := Go.Op.binOp Go.BinOp.lss 3 (Go.Operand.tmp 174) (Go.Operand.tmp 176) 3, type := 4, pos := "law.go:157", after := #[{ on := 21, ground := Go.Ground.data }, { on := 23, ground := Go.Ground.data }, { on := 20, ground := Go.Ground.guard }], guard := some (20, true) }) (v := ?vp24) rfl (by kernel_rfl) (by kernel_rfl) (by kernel_rfl) (fun _ _ _ h => h) (Or.inl ⟨by rfl, ?hyp24⟩) hHeld ?_
                          case hyp24 => (intro w hSw; (try dsimp only at hSw); go_simp; first | done | with_reducible rfl)
                          try simp only [Act.put, List.setIfInBounds_toArray, List.set_cons_zero, List.set_cons_succ]
                          refine wpAnyH_take (i := 25) (oi := { dst := some 178, op := Go.Op.pick (Go.Operand.tmp 173) (Go.Operand.tmp 177) (Go.Operand.const (Go.Value.bool false)), type := 4, pos := "law.go:157", after := #[{ on := 20, ground := Go.Ground.data }, { on := 24, ground := Go.Ground.data }, { on := 1, ground := Go.Ground.guard }], guard := some (1, false) }) (v := ?vp25) rfl (by kernel_rfl) (by kernel_rfl) (by kernel_rfl) (fun _ _ _ h => h) (Or.inl ⟨by rfl, ?hyp25⟩) hHeld ?_
                          case hyp25 => (intro w hSw; (try dsimp only at hSw); go_simp; first | done | with_reducible rfl)
                          try simp only [Act.put, List.setIfInBounds_toArray, List.set_cons_zero, List.set_cons_succ]
                          refine wpAnyH_take (i := 26) (oi := { dst := some 179, op := Go.Op.move (Go.Operand.tmp 178), type := 4, pos := "law.go:157", after := #[{ on := 25, ground := Go.Ground.data }, { on := 20, ground := Go.Ground.chain }, { on := 1, ground := Go.Ground.guard }], guard := some (1, false) }) (v := ?vp26) rfl (by kernel_rfl) (by kernel_rfl) (by kernel_rfl) (fun _ _ _ h => h) (Or.inl ⟨by rfl, ?hyp26⟩) hHeld ?_
                          case hyp26 => (intro w hSw; (try dsimp only at hSw); go_simp; first | done | with_reducible rfl)
                          try simp only [Act.put, List.setIfInBounds_toArray, List.set_cons_zero, List.set_cons_succ]
                          refine wpAnyH_take (i := 27) (oi := { dst := some 180, op := Go.Op.move (Go.Operand.tmp 3), type := 33, pos := "law.go:157", after := #[{ on := 26, ground := Go.Ground.guard }], guard := some (26, true) }) (v := ?vp27) rfl (by kernel_rfl) (by kernel_rfl) (by kernel_rfl) (fun _ _ _ h => h) (Or.inl ⟨by rfl, ?hyp27⟩) hHeld ?_
                          case hyp27 => (intro w hSw; (try dsimp only at hSw); go_simp; first | done | with_reducible rfl)
                          try simp only [Act.put, List.setIfInBounds_toArray, List.set_cons_zero, List.set_cons_succ]
                          refine wpAnyH_take (i := 28) (oi := { dst := some 181, op := Go.Op.move (Go.Operand.tmp 18), type := 3, pos := "law.go:157", after := #[{ on := 26, ground := Go.Ground.guard }], guard := some (26, true) }) (v := ?vp28) rfl (by kernel_rfl) (by kernel_rfl) (by kernel_rfl) (fun _ _ _ h => h) (Or.inl ⟨by rfl, ?hyp28⟩) hHeld ?_
                          case hyp28 => (intro w hSw; (try dsimp only at hSw); go_simp; first | done | with_reducible rfl)
                          try simp only [Act.put, List.setIfInBounds_toArray, List.set_cons_zero, List.set_cons_succ]
                          refine wpAnyH_take (i := 29) (oi := { dst := some 182, op := Go.Op.indexAddr 33 (Go.Operand.tmp 180) (Go.Operand.tmp 181), type := 0, pos := "law.go:157", after := #[{ on := 27, ground := Go.Ground.data }, { on := 28, ground := Go.Ground.data }, { on := 26, ground := Go.Ground.guard }], guard := some (26, true) }) (v := ?vp29) rfl (by kernel_rfl) (by kernel_rfl) (by kernel_rfl) (fun _ _ _ h => h) (Or.inl ⟨by rfl, ?hyp29⟩) hHeld ?_
                          case hyp29 => (intro w hSw; (try dsimp only at hSw); go_simp; first | done | with_reducible rfl)
                          try simp only [Act.put, List.setIfInBounds_toArray, List.set_cons_zero, List.set_cons_succ]
                          refine wpAnyH_take (i := 30) (oi := { dst := some 183, op := Go.Op.load 4 (Go.Operand.tmp 182), type := 4, pos := "law.go:157", after := #[{ on := 29, ground := Go.Ground.data }, { on := 26, ground := Go.Ground.guard }], guard := some (26, true) }) (v := ?vp30) rfl (by kernel_rfl) (by kernel_rfl) (by kernel_rfl) (fun _ _ _ h => h) (Or.inl ⟨by rfl, ?hyp30⟩) hHeld ?_
                          case hyp30 => (intro w hSw; (try dsimp only at hSw); go_simp; first | done | with_reducible rfl)
                          try simp only [Act.put, List.setIfInBounds_toArray, List.set_cons_zero, List.set_cons_succ]
                          refine wpAnyH_take (i := 31) (oi := { dst := some 184, op := Go.Op.pick (Go.Operand.tmp 179) (Go.Operand.tmp 183) (Go.Operand.const (Go.Value.bool false)), type := 4, pos := "law.go:157", after := #[{ on := 26, ground := Go.Ground.data }, { on := 30, ground := Go.Ground.data }, { on := 1, ground := Go.Ground.guard }], guard := some (1, false) }) (v := ?vp31) rfl (by kernel_rfl) (by kernel_rfl) (by kernel_rfl) (fun _ _ _ h => h) (Or.inl ⟨by rfl, ?hyp31⟩) hHeld ?_
                          case hyp31 => (intro w hSw; (try dsimp only at hSw); go_simp; first | done | with_reducible rfl)
                          try simp only [Act.put, List.setIfInBounds_toArray, List.set_cons_zero, List.set_cons_succ]
                          refine wpAnyH_take (i := 32) (oi := { dst := some 185, op := Go.Op.pick (Go.Operand.tmp 154) (Go.Operand.const (Go.Value.bool true)) (Go.Operand.tmp 184), type := 4, pos := "law.go:157", after := #[{ on := 1, ground := Go.Ground.data }, { on := 31, ground := Go.Ground.data }], guard := none }) (v := ?vp32) rfl (by kernel_rfl) (by kernel_rfl) (by kernel_rfl) (fun _ _ _ h => h) (Or.inl ⟨by rfl, ?hyp32⟩) hHeld ?_
                          case hyp32 => (intro w hSw; (try dsimp only at hSw); go_simp; first | done | with_reducible rfl)
                          try simp only [Act.put, List.setIfInBounds_toArray, List.set_cons_zero, List.set_cons_succ]
                          refine wpAnyH_take (i := 33) (oi := { dst := some 17, op := Go.Op.assign (Go.Operand.tmp 185), type := 4, pos := "law.go:157", after := #[{ on := 32, ground := Go.Ground.data }, { on := 26, ground := Go.Ground.chain }, { on := 0, ground := Go.Ground.phase }, { on := 1, ground := Go.Ground.phase }, { on := 2, ground := Go.Ground.phase }, { on := 3, ground := Go.Ground.phase }, { on := 4, ground := Go.Ground.phase }, { on := 5, ground := Go.Ground.phase }, { on := 6, ground := Go.Ground.phase }, { on := 7, ground := Go.Ground.phase }, { on := 8, ground := Go.Ground.phase }, { on := 9, ground := Go.Ground.phase }, { on := 10, ground := Go.Ground.phase }, { on := 11, ground := Go.Ground.phase }, { on := 12, ground := Go.Ground.phase }, { on := 13, ground := Go.Ground.phase }, { on := 14, ground := Go.Ground.phase }, { on := 15, ground := Go.Ground.phase }, { on := 16, ground := Go.Ground.phase }, { on := 17, ground := Go.Ground.phase }, { on := 18, ground := Go.Ground.phase }, { on := 19, ground := Go.Ground.phase }, { on := 20, ground := Go.Ground.phase }, { on := 21, ground := Go.Ground.phase }, { on := 22, ground := Go.Ground.phase }, { on := 23, ground := Go.Ground.phase }, { on := 24, ground := Go.Ground.phase }, { on := 25, ground := Go.Ground.phase }, { on := 26, ground := Go.Ground.phase }, { on := 27, ground := Go.Ground.phase }, { on := 28, ground := Go.Ground.phase }, { on := 29, ground := Go.Ground.phase }, { on := 30, ground := Go.Ground.phase }, { on := 31, ground := Go.Ground.phase }, { on := 32, ground := Go.Ground.phase }], guard := none }) (v := ?vp33) rfl (by kernel_rfl) (by kernel_rfl) (by kernel_rfl) (fun _ _ _ h => h) (Or.inl ⟨by rfl, ?hyp33⟩) hHeld ?_
                          case hyp33 => (intro w hSw; (try dsimp only at hSw); go_simp; first | done | with_reducible rfl)
                          try simp only [Act.put, List.setIfInBounds_toArray, List.set_cons_zero, List.set_cons_succ]
                          refine wpAnyH_done (by kernel_rfl) ?_ _
                          go_wp2
                          go_roundw
                          case rel => exact ⟨t + 1, by omega, by go_num, by rw [HST.out]; simp [htk, ← HCM2.out], hd4⟩
                          case measure => simp [intOf]; omega
                        · have htk' : decide ((t : Int) < (len3 : Int)) = false := decide_eq_false (by omega)
                          have htk2 : decide (t < len3) = false := decide_eq_false htk
                          refine wp_region_held_drew (S := fun W => W.cell? ⟨gy, oy + t, none⟩ = some (.int .i64 q) ∧ (convert 32 9 vb).run Try.prog W = .ok (.string SA) W) (by kernel_rfl) (⟨HCY.out _ hd3, HCV2.out _ hd3⟩) (fun hHeld => ?_)
                          refine wpAnyH_take (i := 0) (oi := { dst := some 153, op := Go.Op.move (Go.Operand.tmp 17), type := 4, pos := "law.go:157", after := #[], guard := none }) (v := ?vq0) rfl (by kernel_rfl) (by kernel_rfl) (by kernel_rfl) (fun _ _ _ h => h) (Or.inl ⟨by rfl, ?hyq0⟩) hHeld ?_
                          case hyq0 => (intro w hSw; (try dsimp only at hSw); go_simp; first | done | with_reducible rfl)
                          try simp only [Act.put, List.setIfInBounds_toArray, List.set_cons_zero, List.set_cons_succ]
                          refine wpAnyH_take (i := 1) (oi := { dst := some 154, op := Go.Op.move (Go.Operand.tmp 153), type := 4, pos := "law.go:157", after := #[{ on := 0, ground := Go.Ground.data }], guard := none }) (v := ?vq1) rfl (by kernel_rfl) (by kernel_rfl) (by kernel_rfl) (fun _ _ _ h => h) (Or.inl ⟨by rfl, ?hyq1⟩) hHeld ?_
                          case hyq1 => (intro w hSw; (try dsimp only at hSw); go_simp; first | done | with_reducible rfl)
                          try simp only [Act.put, List.setIfInBounds_toArray, List.set_cons_zero, List.set_cons_succ]
                          refine wpAnyH_take (i := 2) (oi := { dst := some 155, op := Go.Op.move (Go.Operand.tmp 2), type := 52, pos := "law.go:157", after := #[{ on := 1, ground := Go.Ground.guard }], guard := some (1, false) }) (v := ?vq2) rfl (by kernel_rfl) (by kernel_rfl) (by kernel_rfl) (fun _ _ _ h => h) (Or.inl ⟨by rfl, ?hyq2⟩) hHeld ?_
                          case hyq2 => (intro w hSw; (try dsimp only at hSw); go_simp; first | done | with_reducible rfl)
                          try simp only [Act.put, List.setIfInBounds_toArray, List.set_cons_zero, List.set_cons_succ]
                          refine wpAnyH_take (i := 3) (oi := { dst := some 156, op := Go.Op.move (Go.Operand.tmp 18), type := 3, pos := "law.go:157", after := #[{ on := 1, ground := Go.Ground.guard }], guard := some (1, false) }) (v := ?vq3) rfl (by kernel_rfl) (by kernel_rfl) (by kernel_rfl) (fun _ _ _ h => h) (Or.inl ⟨by rfl, ?hyq3⟩) hHeld ?_
                          case hyq3 => (intro w hSw; (try dsimp only at hSw); go_simp; first | done | with_reducible rfl)
                          try simp only [Act.put, List.setIfInBounds_toArray, List.set_cons_zero, List.set_cons_succ]
                          refine wpAnyH_take (i := 4) (oi := { dst := some 157, op := Go.Op.indexAddr 52 (Go.Operand.tmp 155) (Go.Operand.tmp 156), type := 0, pos := "law.go:157", after := #[{ on := 2, ground := Go.Ground.data }, { on := 3, ground := Go.Ground.data }, { on := 1, ground := Go.Ground.guard }], guard := some (1, false) }) (v := ?vq4) rfl (by kernel_rfl) (by kernel_rfl) (by kernel_rfl) (fun _ _ _ h => h) (Or.inl ⟨by rfl, ?hyq4⟩) hHeld ?_
                          case hyq4 => (intro w hSw; (try dsimp only at hSw); go_simp; first | done | with_reducible rfl)
                          try simp only [Act.put, List.setIfInBounds_toArray, List.set_cons_zero, List.set_cons_succ]
                          refine wpAnyH_take (i := 5) (oi := { dst := some 158, op := Go.Op.load 3 (Go.Operand.tmp 157), type := 3, pos := "law.go:157", after := #[{ on := 4, ground := Go.Ground.data }, { on := 1, ground := Go.Ground.guard }], guard := some (1, false) }) (v := ?vq5) rfl (by kernel_rfl) (by kernel_rfl) (by kernel_rfl) (fun _ _ _ h => h) (Or.inl ⟨by rfl, ?hyq5⟩) hHeld ?_
                          case hyq5 => (intro w hSw; (try dsimp only at hSw); go_simp; first | done | with_reducible rfl)
                          try simp only [Act.put, List.setIfInBounds_toArray, List.set_cons_zero, List.set_cons_succ]
                          refine wpAnyH_take (i := 6) (oi := { dst := some 159, op := Go.Op.move (Go.Operand.tmp 0), type := 3, pos := "law.go:157", after := #[{ on := 1, ground := Go.Ground.guard }], guard := some (1, false) }) (v := ?vq6) rfl (by kernel_rfl) (by kernel_rfl) (by kernel_rfl) (fun _ _ _ h => h) (Or.inl ⟨by rfl, ?hyq6⟩) hHeld ?_
                          case hyq6 => (intro w hSw; (try dsimp only at hSw); go_simp; first | done | with_reducible rfl)
                          try simp only [Act.put, List.setIfInBounds_toArray, List.set_cons_zero, List.set_cons_succ]
                          refine wpAnyH_take (i := 7) (oi := { dst := some 160, op := Go.Op.binOp Go.BinOp.rem 3 (Go.Operand.tmp 158) (Go.Operand.tmp 159) 3, type := 3, pos := "law.go:157", after := #[{ on := 5, ground := Go.Ground.data }, { on := 6, ground := Go.Ground.data }, { on := 1, ground := Go.Ground.guard }], guard := some (1, false) }) (v := ?vq7) rfl (by kernel_rfl) (by kernel_rfl) (by kernel_rfl) (fun _ _ _ h => h) (Or.inl ⟨by rfl, ?hyq7⟩) hHeld ?_
                          case hyq7 => (intro w hSw; (try dsimp only at hSw); go_simp; first | done | with_reducible rfl)
                          try simp only [Act.put, List.setIfInBounds_toArray, List.set_cons_zero, List.set_cons_succ]
                          refine wpAnyH_take (i := 8) (oi := { dst := some 161, op := Go.Op.move (Go.Operand.tmp 14), type := 3, pos := "law.go:157", after := #[{ on := 1, ground := Go.Ground.guard }], guard := some (1, false) }) (v := ?vq8) rfl (by kernel_rfl) (by kernel_rfl) (by kernel_rfl) (fun _ _ _ h => h) (Or.inl ⟨by rfl, ?hyq8⟩) hHeld ?_
                          case hyq8 => (intro w hSw; (try dsimp only at hSw); go_simp; first | done | with_reducible rfl)
                          try simp only [Act.put, List.setIfInBounds_toArray, List.set_cons_zero, List.set_cons_succ]
                          refine wpAnyH_take (i := 9) (oi := { dst := some 162, op := Go.Op.binOp Go.BinOp.eql 3 (Go.Operand.tmp 160) (Go.Operand.tmp 161) 3, type := 4, pos := "law.go:157", after := #[{ on := 7, ground := Go.Ground.data }, { on := 8, ground := Go.Ground.data }, { on := 1, ground := Go.Ground.guard }], guard := some (1, false) }) (v := ?vq9) rfl (by kernel_rfl) (by kernel_rfl) (by kernel_rfl) (fun _ _ _ h => h) (Or.inl ⟨by rfl, ?hyq9⟩) hHeld ?_
                          case hyq9 => (intro w hSw; (try dsimp only at hSw); go_simp; first | done | with_reducible rfl)
                          try simp only [Act.put, List.setIfInBounds_toArray, List.set_cons_zero, List.set_cons_succ]
                          refine wpAnyH_take (i := 10) (oi := { dst := some 163, op := Go.Op.move (Go.Operand.tmp 162), type := 4, pos := "law.go:157", after := #[{ on := 9, ground := Go.Ground.data }, { on := 1, ground := Go.Ground.chain }, { on := 1, ground := Go.Ground.guard }], guard := some (1, false) }) (v := ?vq10) rfl (by kernel_rfl) (by kernel_rfl) (by kernel_rfl) (fun _ _ _ h => h) (Or.inl ⟨by rfl, ?hyq10⟩) hHeld ?_
                          case hyq10 => (intro w hSw; (try dsimp only at hSw); go_simp; first | done | with_reducible rfl)
                          try simp only [Act.put, List.setIfInBounds_toArray, List.set_cons_zero, List.set_cons_succ]
                          refine wpAnyH_take (i := 11) (oi := { dst := some 164, op := Go.Op.move (Go.Operand.tmp 15), type := 32, pos := "law.go:157", after := #[{ on := 10, ground := Go.Ground.guard }], guard := some (10, true) }) (v := ?vq11) rfl (by kernel_rfl) (by kernel_rfl) (by kernel_rfl) (fun _ _ _ h => h) (Or.inl ⟨by rfl, ?hyq11⟩) hHeld ?_
                          case hyq11 => (intro w hSw; (try dsimp only at hSw); go_simp; first | done | with_reducible rfl)
                          try simp only [Act.put, List.setIfInBounds_toArray, List.set_cons_zero, List.set_cons_succ]
                          refine wpAnyH_take (i := 12) (oi := { dst := some 165, op := Go.Op.convert 32 9 (Go.Operand.tmp 164), type := 9, pos := "law.go:157", after := #[{ on := 11, ground := Go.Ground.data }, { on := 10, ground := Go.Ground.guard }], guard := some (10, true) }) (v := ?vq12) rfl (by kernel_rfl) (by kernel_rfl) (by kernel_rfl) (fun _ _ _ h => h) (Or.inl ⟨by rfl, ?hyq12⟩) hHeld ?_
                          case hyq12 => (intro w hSw; (try dsimp only at hSw); go_simp; first | done | with_reducible rfl)
                          try simp only [Act.put, List.setIfInBounds_toArray, List.set_cons_zero, List.set_cons_succ]
                          refine wpAnyH_take (i := 13) (oi := { dst := some 166, op := Go.Op.move (Go.Operand.tmp 18), type := 3, pos := "law.go:157", after := #[{ on := 10, ground := Go.Ground.guard }], guard := some (10, true) }) (v := ?vq13) rfl (by kernel_rfl) (by kernel_rfl) (by kernel_rfl) (fun _ _ _ h => h) (Or.inl ⟨by rfl, ?hyq13⟩) hHeld ?_
                          case hyq13 => (intro w hSw; (try dsimp only at hSw); go_simp; first | done | with_reducible rfl)
                          try simp only [Act.put, List.setIfInBounds_toArray, List.set_cons_zero, List.set_cons_succ]
                          refine wpAnyH_take (i := 14) (oi := { dst := some 167, op := Go.Op.binOp Go.BinOp.add 3 (Go.Operand.tmp 166) (Go.Operand.const (Go.Value.int Go.IntKind.i64 101)) 3, type := 3, pos := "law.go:157", after := #[{ on := 13, ground := Go.Ground.data }, { on := 10, ground := Go.Ground.guard }], guard := some (10, true) }) (v := ?vq14) rfl (by kernel_rfl) (by kernel_rfl) (by kernel_rfl) (fun _ _ _ h => h) (Or.inl ⟨by rfl, ?hyq14⟩) hHeld ?_
                          case hyq14 => (intro w hSw; (try dsimp only at hSw); go_simp; first | done | with_reducible rfl)
                          try simp only [Act.put, List.setIfInBounds_toArray, List.set_cons_zero, List.set_cons_succ]
                          refine wpAnyH_take (i := 15) (oi := { dst := some 168, op := Go.Op.convert 3 5 (Go.Operand.tmp 167), type := 5, pos := "law.go:157", after := #[{ on := 14, ground := Go.Ground.data }, { on := 10, ground := Go.Ground.guard }], guard := some (10, true) }) (v := ?vq15) rfl (by kernel_rfl) (by kernel_rfl) (by kernel_rfl) (fun _ _ _ h => h) (Or.inl ⟨by rfl, ?hyq15⟩) hHeld ?_
                          case hyq15 => (intro w hSw; (try dsimp only at hSw); go_simp; first | done | with_reducible rfl)
                          try simp only [Act.put, List.setIfInBounds_toArray, List.set_cons_zero, List.set_cons_succ]
                          refine wpAnyH_ready (rs := [16]) (by kernel_rfl) (by simp) ?_
                          refine AllReadyH.cons (o := { dst := some 169, op := Go.Op.call { callee := Go.Callee.value (Go.Operand.func 28), args := #[Go.Operand.tmp 168], argTypes := #[5] }, type := 32, pos := "law.go:157", after := #[{ on := 15, ground := Go.Ground.data }, { on := 10, ground := Go.Ground.chain }, { on := 10, ground := Go.Ground.guard }], guard := some (10, true) }) rfl (fun K hK => ?_) AllReadyH.nil
                          go_simp
                          refine (HBY.out _).mono ?_
                          rintro e wE ⟨rfl, hkE, hbE⟩
                          have hd4 := Bs.below_step hd3 hbE
                          have e4 := string_rd wE _ _ _ _ (hkE.all' 16 16 rfl (Nat.le_refl _))
                          obtain ⟨SY, hSY⟩ : ∃ SY : ByteArray, ⟨(byN (t + 101)).toArray⟩ = SY := ⟨_, rfl⟩
                          rw [hSY] at e4
                          have hEq := HCM.out SY hSY
                          generalize Value.slice (some ⟨wr.drew.heap.size, 0, none⟩) 16 16 = vE at e4 ⊢
                          clear hkE hbE hSY
                          go_wp2_with fail
                          refine hK.out _ _ (⟨HCY.out _ hd4, HCV2.out _ hd4⟩) (fun hHeld => ?_)
                          clear hK K
                          try simp only [Act.put, List.setIfInBounds_toArray, List.set_cons_zero, List.set_cons_succ]
                          refine wpAnyH_ready (rs := [17]) (by kernel_rfl) (by simp) ?_
                          refine AllReadyH.cons (o := { dst := some 170, op := Go.Op.convert 32 9 (Go.Operand.tmp 169), type := 9, pos := "law.go:157", after := #[{ on := 16, ground := Go.Ground.data }, { on := 10, ground := Go.Ground.guard }], guard := some (10, true) }) rfl (fun K hK => ?_) AllReadyH.nil
                          go_simp
                          refine hK.out _ _ (hHeld) (fun hHeld => ?_)
                          clear hK K
                          try simp only [Act.put, List.setIfInBounds_toArray, List.set_cons_zero, List.set_cons_succ]
                          refine wpAnyH_take (i := 18) (oi := { dst := some 171, op := Go.Op.binOp Go.BinOp.eql 9 (Go.Operand.tmp 165) (Go.Operand.tmp 170) 9, type := 4, pos := "law.go:157", after := #[{ on := 12, ground := Go.Ground.data }, { on := 17, ground := Go.Ground.data }, { on := 10, ground := Go.Ground.guard }], guard := some (10, true) }) (v := ?vq18) rfl (by kernel_rfl) (by kernel_rfl) (by kernel_rfl) (fun _ _ _ h => h) (Or.inl ⟨by rfl, ?hyq18⟩) hHeld ?_
                          case hyq18 => (intro w hSw; (try dsimp only at hSw); go_simp; first | done | with_reducible rfl)
                          try simp only [Act.put, List.setIfInBounds_toArray, List.set_cons_zero, List.set_cons_succ]
                          refine wpAnyH_take (i := 19) (oi := { dst := some 172, op := Go.Op.pick (Go.Operand.tmp 163) (Go.Operand.tmp 171) (Go.Operand.const (Go.Value.bool false)), type := 4, pos := "law.go:157", after := #[{ on := 10, ground := Go.Ground.data }, { on := 18, ground := Go.Ground.data }, { on := 1, ground := Go.Ground.guard }], guard := some (1, false) }) (v := ?vq19) rfl (by kernel_rfl) (by kernel_rfl) (by kernel_rfl) (fun _ _ _ h => h) (Or.inl ⟨by rfl, ?hyq19⟩) hHeld ?_
                          case hyq19 => (intro w hSw; (try dsimp only at hSw); go_simp; first | done | with_reducible rfl)
                          try simp only [Act.put, List.setIfInBounds_toArray, List.set_cons_zero, List.set_cons_succ]
                          refine wpAnyH_take (i := 20) (oi := { dst := some 173, op := Go.Op.move (Go.Operand.tmp 172), type := 4, pos := "law.go:157", after := #[{ on := 19, ground := Go.Ground.data }, { on := 16, ground := Go.Ground.chain }, { on := 1, ground := Go.Ground.guard }], guard := some (1, false) }) (v := ?vq20) rfl (by kernel_rfl) (by kernel_rfl) (by kernel_rfl) (fun _ _ _ h => h) (Or.inl ⟨by rfl, ?hyq20⟩) hHeld ?_
                          case hyq20 => (intro w hSw; (try dsimp only at hSw); go_simp; first | done | with_reducible rfl)
                          try simp only [Act.put, List.setIfInBounds_toArray, List.set_cons_zero, List.set_cons_succ]
                          refine wpAnyH_take (i := 21) (oi := { dst := some 174, op := Go.Op.move (Go.Operand.tmp 18), type := 3, pos := "law.go:157", after := #[{ on := 20, ground := Go.Ground.guard }], guard := some (20, true) }) (v := ?vq21) rfl (by kernel_rfl) (by kernel_rfl) (by kernel_rfl) (fun _ _ _ h => h) (Or.inl ⟨by rfl, ?hyq21⟩) hHeld ?_
                          case hyq21 => (intro w hSw; (try dsimp only at hSw); go_simp; first | done | with_reducible rfl)
                          try simp only [Act.put, List.setIfInBounds_toArray, List.set_cons_zero, List.set_cons_succ]
                          refine wpAnyH_take (i := 22) (oi := { dst := some 175, op := Go.Op.move (Go.Operand.tmp 3), type := 33, pos := "law.go:157", after := #[{ on := 20, ground := Go.Ground.guard }], guard := some (20, true) }) (v := ?vq22) rfl (by kernel_rfl) (by kernel_rfl) (by kernel_rfl) (fun _ _ _ h => h) (Or.inl ⟨by rfl, ?hyq22⟩) hHeld ?_
                          case hyq22 => (intro w hSw; (try dsimp only at hSw); go_simp; first | done | with_reducible rfl)
                          try simp only [Act.put, List.setIfInBounds_toArray, List.set_cons_zero, List.set_cons_succ]
                          refine wpAnyH_take (i := 23) (oi := { dst := some 176, op := Go.Op.call { callee := Go.Callee.builtin Go.Builtin.len, args := #[Go.Operand.tmp 175], argTypes := #[33] }, type := 3, pos := "law.go:157", after := #[{ on := 22, ground := Go.Ground.data }, { on := 20, ground := Go.Ground.guard }], guard := some (20, true) }) (v := ?vq23) rfl (by kernel_rfl) (by kernel_rfl) (by kernel_rfl) (fun _ _ _ h => h) (Or.inl ⟨by rfl, ?hyq23⟩) hHeld ?_
                          case hyq23 => (intro w hSw; (try dsimp only at hSw); go_simp; first | done | with_reducible rfl)
                          try simp only [Act.put, List.setIfInBounds_toArray, List.set_cons_zero, List.set_cons_succ]
                          refine wpAnyH_take (i := 24) (oi := { dst := some 177, op := Go.Op.binOp Go.BinOp.lss 3 (Go.Operand.tmp 174) (Go.Operand.tmp 176) 3, type := 4, pos := "law.go:157", after := #[{ on := 21, ground := Go.Ground.data }, { on := 23, ground := Go.Ground.data }, { on := 20, ground := Go.Ground.guard }], guard := some (20, true) }) (v := ?vq24) rfl (by kernel_rfl) (by kernel_rfl) (by kernel_rfl) (fun _ _ _ h => h) (Or.inl ⟨by rfl, ?hyq24⟩) hHeld ?_
                          case hyq24 => (intro w hSw; (try dsimp only at hSw); go_simp; first | done | with_reducible rfl)
                          try simp only [Act.put, List.setIfInBounds_toArray, List.set_cons_zero, List.set_cons_succ]
                          refine wpAnyH_take (i := 25) (oi := { dst := some 178, op := Go.Op.pick (Go.Operand.tmp 173) (Go.Operand.tmp 177) (Go.Operand.const (Go.Value.bool false)), type := 4, pos := "law.go:157", after := #[{ on := 20, ground := Go.Ground.data }, { on := 24, ground := Go.Ground.data }, { on := 1, ground := Go.Ground.guard }], guard := some (1, false) }) (v := ?vq25) rfl (by kernel_rfl) (by kernel_rfl) (by kernel_rfl) (fun _ _ _ h => h) (Or.inl ⟨by rfl, ?hyq25⟩) hHeld ?_
                          case hyq25 => (intro w hSw; (try dsimp only at hSw); go_simp; first | done | with_reducible rfl)
                          try simp only [Act.put, List.setIfInBounds_toArray, List.set_cons_zero, List.set_cons_succ]
                          refine wpAnyH_take (i := 26) (oi := { dst := some 179, op := Go.Op.move (Go.Operand.tmp 178), type := 4, pos := "law.go:157", after := #[{ on := 25, ground := Go.Ground.data }, { on := 20, ground := Go.Ground.chain }, { on := 1, ground := Go.Ground.guard }], guard := some (1, false) }) (v := ?vq26) rfl (by kernel_rfl) (by kernel_rfl) (by kernel_rfl) (fun _ _ _ h => h) (Or.inl ⟨by rfl, ?hyq26⟩) hHeld ?_
                          case hyq26 => (intro w hSw; (try dsimp only at hSw); go_simp; first | done | with_reducible rfl)
                          try simp only [Act.put, List.setIfInBounds_toArray, List.set_cons_zero, List.set_cons_succ]
                          refine wpAnyH_take (i := 27) (oi := { dst := some 180, op := Go.Op.move (Go.Operand.tmp 3), type := 33, pos := "law.go:157", after := #[{ on := 26, ground := Go.Ground.guard }], guard := some (26, true) }) (v := undef) rfl (by kernel_rfl) (by kernel_rfl) (by kernel_rfl) (fun _ _ _ h => h) (Or.inr ⟨by rfl, rfl⟩) hHeld ?_
                          try simp only [Act.put, List.setIfInBounds_toArray, List.set_cons_zero, List.set_cons_succ]
                          refine wpAnyH_take (i := 28) (oi := { dst := some 181, op := Go.Op.move (Go.Operand.tmp 18), type := 3, pos := "law.go:157", after := #[{ on := 26, ground := Go.Ground.guard }], guard := some (26, true) }) (v := undef) rfl (by kernel_rfl) (by kernel_rfl) (by kernel_rfl) (fun _ _ _ h => h) (Or.inr ⟨by rfl, rfl⟩) hHeld ?_
                          try simp only [Act.put, List.setIfInBounds_toArray, List.set_cons_zero, List.set_cons_succ]
                          refine wpAnyH_take (i := 29) (oi := { dst := some 182, op := Go.Op.indexAddr 33 (Go.Operand.tmp 180) (Go.Operand.tmp 181), type := 0, pos := "law.go:157", after := #[{ on := 27, ground := Go.Ground.data }, { on := 28, ground := Go.Ground.data }, { on := 26, ground := Go.Ground.guard }], guard := some (26, true) }) (v := undef) rfl (by kernel_rfl) (by kernel_rfl) (by kernel_rfl) (fun _ _ _ h => h) (Or.inr ⟨by rfl, rfl⟩) hHeld ?_
                          try simp only [Act.put, List.setIfInBounds_toArray, List.set_cons_zero, List.set_cons_succ]
                          refine wpAnyH_take (i := 30) (oi := { dst := some 183, op := Go.Op.load 4 (Go.Operand.tmp 182), type := 4, pos := "law.go:157", after := #[{ on := 29, ground := Go.Ground.data }, { on := 26, ground := Go.Ground.guard }], guard := some (26, true) }) (v := undef) rfl (by kernel_rfl) (by kernel_rfl) (by kernel_rfl) (fun _ _ _ h => h) (Or.inr ⟨by rfl, rfl⟩) hHeld ?_
                          try simp only [Act.put, List.setIfInBounds_toArray, List.set_cons_zero, List.set_cons_succ]
                          refine wpAnyH_take (i := 31) (oi := { dst := some 184, op := Go.Op.pick (Go.Operand.tmp 179) (Go.Operand.tmp 183) (Go.Operand.const (Go.Value.bool false)), type := 4, pos := "law.go:157", after := #[{ on := 26, ground := Go.Ground.data }, { on := 30, ground := Go.Ground.data }, { on := 1, ground := Go.Ground.guard }], guard := some (1, false) }) (v := ?vq31) rfl (by kernel_rfl) (by kernel_rfl) (by kernel_rfl) (fun _ _ _ h => h) (Or.inl ⟨by rfl, ?hyq31⟩) hHeld ?_
                          case hyq31 => (intro w hSw; (try dsimp only at hSw); go_simp; first | done | with_reducible rfl)
                          try simp only [Act.put, List.setIfInBounds_toArray, List.set_cons_zero, List.set_cons_succ]
                          refine wpAnyH_take (i := 32) (oi := { dst := some 185, op := Go.Op.pick (Go.Operand.tmp 154) (Go.Operand.const (Go.Value.bool true)) (Go.Operand.tmp 184), type := 4, pos := "law.go:157", after := #[{ on := 1, ground := Go.Ground.data }, { on := 31, ground := Go.Ground.data }], guard := none }) (v := ?vq32) rfl (by kernel_rfl) (by kernel_rfl) (by kernel_rfl) (fun _ _ _ h => h) (Or.inl ⟨by rfl, ?hyq32⟩) hHeld ?_
                          case hyq32 => (intro w hSw; (try dsimp only at hSw); go_simp; first | done | with_reducible rfl)
                          try simp only [Act.put, List.setIfInBounds_toArray, List.set_cons_zero, List.set_cons_succ]
                          refine wpAnyH_take (i := 33) (oi := { dst := some 17, op := Go.Op.assign (Go.Operand.tmp 185), type := 4, pos := "law.go:157", after := #[{ on := 32, ground := Go.Ground.data }, { on := 26, ground := Go.Ground.chain }, { on := 0, ground := Go.Ground.phase }, { on := 1, ground := Go.Ground.phase }, { on := 2, ground := Go.Ground.phase }, { on := 3, ground := Go.Ground.phase }, { on := 4, ground := Go.Ground.phase }, { on := 5, ground := Go.Ground.phase }, { on := 6, ground := Go.Ground.phase }, { on := 7, ground := Go.Ground.phase }, { on := 8, ground := Go.Ground.phase }, { on := 9, ground := Go.Ground.phase }, { on := 10, ground := Go.Ground.phase }, { on := 11, ground := Go.Ground.phase }, { on := 12, ground := Go.Ground.phase }, { on := 13, ground := Go.Ground.phase }, { on := 14, ground := Go.Ground.phase }, { on := 15, ground := Go.Ground.phase }, { on := 16, ground := Go.Ground.phase }, { on := 17, ground := Go.Ground.phase }, { on := 18, ground := Go.Ground.phase }, { on := 19, ground := Go.Ground.phase }, { on := 20, ground := Go.Ground.phase }, { on := 21, ground := Go.Ground.phase }, { on := 22, ground := Go.Ground.phase }, { on := 23, ground := Go.Ground.phase }, { on := 24, ground := Go.Ground.phase }, { on := 25, ground := Go.Ground.phase }, { on := 26, ground := Go.Ground.phase }, { on := 27, ground := Go.Ground.phase }, { on := 28, ground := Go.Ground.phase }, { on := 29, ground := Go.Ground.phase }, { on := 30, ground := Go.Ground.phase }, { on := 31, ground := Go.Ground.phase }, { on := 32, ground := Go.Ground.phase }], guard := none }) (v := ?vq33) rfl (by kernel_rfl) (by kernel_rfl) (by kernel_rfl) (fun _ _ _ h => h) (Or.inl ⟨by rfl, ?hyq33⟩) hHeld ?_
                          case hyq33 => (intro w hSw; (try dsimp only at hSw); go_simp; first | done | with_reducible rfl)
                          try simp only [Act.put, List.setIfInBounds_toArray, List.set_cons_zero, List.set_cons_succ]
                          refine wpAnyH_done (by kernel_rfl) ?_ _
                          go_wp2
                          go_roundw
                          case rel => exact ⟨t + 1, by omega, by go_num, by rw [HST.out]; simp [htk], hd4⟩
                          case measure => simp [intOf]; omega
                      · have HCM : Hid (∀ SY : ByteArray, ⟨(byN (t + 101)).toArray⟩ = SY → (SA.toList == SY.toList) = false) := fun SY h => by rw [← h, ← HSA.out]; simpa using hcm
                        refine wp_region_held_drew (S := fun W => W.cell? ⟨gy, oy + t, none⟩ = some (.int .i64 q) ∧ (convert 32 9 vb).run Try.prog W = .ok (.string SA) W) (by kernel_rfl) (⟨HCY.out _ hd3, HCV2.out _ hd3⟩) (fun hHeld => ?_)
                        refine wpAnyH_take (i := 0) (oi := { dst := some 153, op := Go.Op.move (Go.Operand.tmp 17), type := 4, pos := "law.go:157", after := #[], guard := none }) (v := ?vr0) rfl (by kernel_rfl) (by kernel_rfl) (by kernel_rfl) (fun _ _ _ h => h) (Or.inl ⟨by rfl, ?hyr0⟩) hHeld ?_
                        case hyr0 => (intro w hSw; (try dsimp only at hSw); go_simp; first | done | with_reducible rfl)
                        try simp only [Act.put, List.setIfInBounds_toArray, List.set_cons_zero, List.set_cons_succ]
                        refine wpAnyH_take (i := 1) (oi := { dst := some 154, op := Go.Op.move (Go.Operand.tmp 153), type := 4, pos := "law.go:157", after := #[{ on := 0, ground := Go.Ground.data }], guard := none }) (v := ?vr1) rfl (by kernel_rfl) (by kernel_rfl) (by kernel_rfl) (fun _ _ _ h => h) (Or.inl ⟨by rfl, ?hyr1⟩) hHeld ?_
                        case hyr1 => (intro w hSw; (try dsimp only at hSw); go_simp; first | done | with_reducible rfl)
                        try simp only [Act.put, List.setIfInBounds_toArray, List.set_cons_zero, List.set_cons_succ]
                        refine wpAnyH_take (i := 2) (oi := { dst := some 155, op := Go.Op.move (Go.Operand.tmp 2), type := 52, pos := "law.go:157", after := #[{ on := 1, ground := Go.Ground.guard }], guard := some (1, false) }) (v := ?vr2) rfl (by kernel_rfl) (by kernel_rfl) (by kernel_rfl) (fun _ _ _ h => h) (Or.inl ⟨by rfl, ?hyr2⟩) hHeld ?_
                        case hyr2 => (intro w hSw; (try dsimp only at hSw); go_simp; first | done | with_reducible rfl)
                        try simp only [Act.put, List.setIfInBounds_toArray, List.set_cons_zero, List.set_cons_succ]
                        refine wpAnyH_take (i := 3) (oi := { dst := some 156, op := Go.Op.move (Go.Operand.tmp 18), type := 3, pos := "law.go:157", after := #[{ on := 1, ground := Go.Ground.guard }], guard := some (1, false) }) (v := ?vr3) rfl (by kernel_rfl) (by kernel_rfl) (by kernel_rfl) (fun _ _ _ h => h) (Or.inl ⟨by rfl, ?hyr3⟩) hHeld ?_
                        case hyr3 => (intro w hSw; (try dsimp only at hSw); go_simp; first | done | with_reducible rfl)
                        try simp only [Act.put, List.setIfInBounds_toArray, List.set_cons_zero, List.set_cons_succ]
                        refine wpAnyH_take (i := 4) (oi := { dst := some 157, op := Go.Op.indexAddr 52 (Go.Operand.tmp 155) (Go.Operand.tmp 156), type := 0, pos := "law.go:157", after := #[{ on := 2, ground := Go.Ground.data }, { on := 3, ground := Go.Ground.data }, { on := 1, ground := Go.Ground.guard }], guard := some (1, false) }) (v := ?vr4) rfl (by kernel_rfl) (by kernel_rfl) (by kernel_rfl) (fun _ _ _ h => h) (Or.inl ⟨by rfl, ?hyr4⟩) hHeld ?_
                        case hyr4 => (intro w hSw; (try dsimp only at hSw); go_simp; first | done | with_reducible rfl)
                        try simp only [Act.put, List.setIfInBounds_toArray, List.set_cons_zero, List.set_cons_succ]
                        refine wpAnyH_take (i := 5) (oi := { dst := some 158, op := Go.Op.load 3 (Go.Operand.tmp 157), type := 3, pos := "law.go:157", after := #[{ on := 4, ground := Go.Ground.data }, { on := 1, ground := Go.Ground.guard }], guard := some (1, false) }) (v := ?vr5) rfl (by kernel_rfl) (by kernel_rfl) (by kernel_rfl) (fun _ _ _ h => h) (Or.inl ⟨by rfl, ?hyr5⟩) hHeld ?_
                        case hyr5 => (intro w hSw; (try dsimp only at hSw); go_simp; first | done | with_reducible rfl)
                        try simp only [Act.put, List.setIfInBounds_toArray, List.set_cons_zero, List.set_cons_succ]
                        refine wpAnyH_take (i := 6) (oi := { dst := some 159, op := Go.Op.move (Go.Operand.tmp 0), type := 3, pos := "law.go:157", after := #[{ on := 1, ground := Go.Ground.guard }], guard := some (1, false) }) (v := ?vr6) rfl (by kernel_rfl) (by kernel_rfl) (by kernel_rfl) (fun _ _ _ h => h) (Or.inl ⟨by rfl, ?hyr6⟩) hHeld ?_
                        case hyr6 => (intro w hSw; (try dsimp only at hSw); go_simp; first | done | with_reducible rfl)
                        try simp only [Act.put, List.setIfInBounds_toArray, List.set_cons_zero, List.set_cons_succ]
                        refine wpAnyH_take (i := 7) (oi := { dst := some 160, op := Go.Op.binOp Go.BinOp.rem 3 (Go.Operand.tmp 158) (Go.Operand.tmp 159) 3, type := 3, pos := "law.go:157", after := #[{ on := 5, ground := Go.Ground.data }, { on := 6, ground := Go.Ground.data }, { on := 1, ground := Go.Ground.guard }], guard := some (1, false) }) (v := ?vr7) rfl (by kernel_rfl) (by kernel_rfl) (by kernel_rfl) (fun _ _ _ h => h) (Or.inl ⟨by rfl, ?hyr7⟩) hHeld ?_
                        case hyr7 => (intro w hSw; (try dsimp only at hSw); go_simp; first | done | with_reducible rfl)
                        try simp only [Act.put, List.setIfInBounds_toArray, List.set_cons_zero, List.set_cons_succ]
                        refine wpAnyH_take (i := 8) (oi := { dst := some 161, op := Go.Op.move (Go.Operand.tmp 14), type := 3, pos := "law.go:157", after := #[{ on := 1, ground := Go.Ground.guard }], guard := some (1, false) }) (v := ?vr8) rfl (by kernel_rfl) (by kernel_rfl) (by kernel_rfl) (fun _ _ _ h => h) (Or.inl ⟨by rfl, ?hyr8⟩) hHeld ?_
                        case hyr8 => (intro w hSw; (try dsimp only at hSw); go_simp; first | done | with_reducible rfl)
                        try simp only [Act.put, List.setIfInBounds_toArray, List.set_cons_zero, List.set_cons_succ]
                        refine wpAnyH_take (i := 9) (oi := { dst := some 162, op := Go.Op.binOp Go.BinOp.eql 3 (Go.Operand.tmp 160) (Go.Operand.tmp 161) 3, type := 4, pos := "law.go:157", after := #[{ on := 7, ground := Go.Ground.data }, { on := 8, ground := Go.Ground.data }, { on := 1, ground := Go.Ground.guard }], guard := some (1, false) }) (v := ?vr9) rfl (by kernel_rfl) (by kernel_rfl) (by kernel_rfl) (fun _ _ _ h => h) (Or.inl ⟨by rfl, ?hyr9⟩) hHeld ?_
                        case hyr9 => (intro w hSw; (try dsimp only at hSw); go_simp; first | done | with_reducible rfl)
                        try simp only [Act.put, List.setIfInBounds_toArray, List.set_cons_zero, List.set_cons_succ]
                        refine wpAnyH_take (i := 10) (oi := { dst := some 163, op := Go.Op.move (Go.Operand.tmp 162), type := 4, pos := "law.go:157", after := #[{ on := 9, ground := Go.Ground.data }, { on := 1, ground := Go.Ground.chain }, { on := 1, ground := Go.Ground.guard }], guard := some (1, false) }) (v := ?vr10) rfl (by kernel_rfl) (by kernel_rfl) (by kernel_rfl) (fun _ _ _ h => h) (Or.inl ⟨by rfl, ?hyr10⟩) hHeld ?_
                        case hyr10 => (intro w hSw; (try dsimp only at hSw); go_simp; first | done | with_reducible rfl)
                        try simp only [Act.put, List.setIfInBounds_toArray, List.set_cons_zero, List.set_cons_succ]
                        refine wpAnyH_take (i := 11) (oi := { dst := some 164, op := Go.Op.move (Go.Operand.tmp 15), type := 32, pos := "law.go:157", after := #[{ on := 10, ground := Go.Ground.guard }], guard := some (10, true) }) (v := ?vr11) rfl (by kernel_rfl) (by kernel_rfl) (by kernel_rfl) (fun _ _ _ h => h) (Or.inl ⟨by rfl, ?hyr11⟩) hHeld ?_
                        case hyr11 => (intro w hSw; (try dsimp only at hSw); go_simp; first | done | with_reducible rfl)
                        try simp only [Act.put, List.setIfInBounds_toArray, List.set_cons_zero, List.set_cons_succ]
                        refine wpAnyH_take (i := 12) (oi := { dst := some 165, op := Go.Op.convert 32 9 (Go.Operand.tmp 164), type := 9, pos := "law.go:157", after := #[{ on := 11, ground := Go.Ground.data }, { on := 10, ground := Go.Ground.guard }], guard := some (10, true) }) (v := ?vr12) rfl (by kernel_rfl) (by kernel_rfl) (by kernel_rfl) (fun _ _ _ h => h) (Or.inl ⟨by rfl, ?hyr12⟩) hHeld ?_
                        case hyr12 => (intro w hSw; (try dsimp only at hSw); go_simp; first | done | with_reducible rfl)
                        try simp only [Act.put, List.setIfInBounds_toArray, List.set_cons_zero, List.set_cons_succ]
                        refine wpAnyH_take (i := 13) (oi := { dst := some 166, op := Go.Op.move (Go.Operand.tmp 18), type := 3, pos := "law.go:157", after := #[{ on := 10, ground := Go.Ground.guard }], guard := some (10, true) }) (v := ?vr13) rfl (by kernel_rfl) (by kernel_rfl) (by kernel_rfl) (fun _ _ _ h => h) (Or.inl ⟨by rfl, ?hyr13⟩) hHeld ?_
                        case hyr13 => (intro w hSw; (try dsimp only at hSw); go_simp; first | done | with_reducible rfl)
                        try simp only [Act.put, List.setIfInBounds_toArray, List.set_cons_zero, List.set_cons_succ]
                        refine wpAnyH_take (i := 14) (oi := { dst := some 167, op := Go.Op.binOp Go.BinOp.add 3 (Go.Operand.tmp 166) (Go.Operand.const (Go.Value.int Go.IntKind.i64 101)) 3, type := 3, pos := "law.go:157", after := #[{ on := 13, ground := Go.Ground.data }, { on := 10, ground := Go.Ground.guard }], guard := some (10, true) }) (v := ?vr14) rfl (by kernel_rfl) (by kernel_rfl) (by kernel_rfl) (fun _ _ _ h => h) (Or.inl ⟨by rfl, ?hyr14⟩) hHeld ?_
                        case hyr14 => (intro w hSw; (try dsimp only at hSw); go_simp; first | done | with_reducible rfl)
                        try simp only [Act.put, List.setIfInBounds_toArray, List.set_cons_zero, List.set_cons_succ]
                        refine wpAnyH_take (i := 15) (oi := { dst := some 168, op := Go.Op.convert 3 5 (Go.Operand.tmp 167), type := 5, pos := "law.go:157", after := #[{ on := 14, ground := Go.Ground.data }, { on := 10, ground := Go.Ground.guard }], guard := some (10, true) }) (v := ?vr15) rfl (by kernel_rfl) (by kernel_rfl) (by kernel_rfl) (fun _ _ _ h => h) (Or.inl ⟨by rfl, ?hyr15⟩) hHeld ?_
                        case hyr15 => (intro w hSw; (try dsimp only at hSw); go_simp; first | done | with_reducible rfl)
                        try simp only [Act.put, List.setIfInBounds_toArray, List.set_cons_zero, List.set_cons_succ]
                        refine wpAnyH_ready (rs := [16]) (by kernel_rfl) (by simp) ?_
                        refine AllReadyH.cons (o := { dst := some 169, op := Go.Op.call { callee := Go.Callee.value (Go.Operand.func 28), args := #[Go.Operand.tmp 168], argTypes := #[5] }, type := 32, pos := "law.go:157", after := #[{ on := 15, ground := Go.Ground.data }, { on := 10, ground := Go.Ground.chain }, { on := 10, ground := Go.Ground.guard }], guard := some (10, true) }) rfl (fun K hK => ?_) AllReadyH.nil
                        go_simp
                        refine (HBY.out _).mono ?_
                        rintro e wE ⟨rfl, hkE, hbE⟩
                        have hd4 := Bs.below_step hd3 hbE
                        have e4 := string_rd wE _ _ _ _ (hkE.all' 16 16 rfl (Nat.le_refl _))
                        obtain ⟨SY, hSY⟩ : ∃ SY : ByteArray, ⟨(byN (t + 101)).toArray⟩ = SY := ⟨_, rfl⟩
                        rw [hSY] at e4
                        have hEq := HCM.out SY hSY
                        generalize Value.slice (some ⟨wr.drew.heap.size, 0, none⟩) 16 16 = vE at e4 ⊢
                        clear hkE hbE hSY
                        go_wp2_with fail
                        refine hK.out _ _ (⟨HCY.out _ hd4, HCV2.out _ hd4⟩) (fun hHeld => ?_)
                        clear hK K
                        try simp only [Act.put, List.setIfInBounds_toArray, List.set_cons_zero, List.set_cons_succ]
                        refine wpAnyH_ready (rs := [17]) (by kernel_rfl) (by simp) ?_
                        refine AllReadyH.cons (o := { dst := some 170, op := Go.Op.convert 32 9 (Go.Operand.tmp 169), type := 9, pos := "law.go:157", after := #[{ on := 16, ground := Go.Ground.data }, { on := 10, ground := Go.Ground.guard }], guard := some (10, true) }) rfl (fun K hK => ?_) AllReadyH.nil
                        go_simp
                        refine hK.out _ _ (hHeld) (fun hHeld => ?_)
                        clear hK K
                        try simp only [Act.put, List.setIfInBounds_toArray, List.set_cons_zero, List.set_cons_succ]
                        refine wpAnyH_take (i := 18) (oi := { dst := some 171, op := Go.Op.binOp Go.BinOp.eql 9 (Go.Operand.tmp 165) (Go.Operand.tmp 170) 9, type := 4, pos := "law.go:157", after := #[{ on := 12, ground := Go.Ground.data }, { on := 17, ground := Go.Ground.data }, { on := 10, ground := Go.Ground.guard }], guard := some (10, true) }) (v := ?vr18) rfl (by kernel_rfl) (by kernel_rfl) (by kernel_rfl) (fun _ _ _ h => h) (Or.inl ⟨by rfl, ?hyr18⟩) hHeld ?_
                        case hyr18 => (intro w hSw; (try dsimp only at hSw); go_simp; first | done | with_reducible rfl)
                        try simp only [Act.put, List.setIfInBounds_toArray, List.set_cons_zero, List.set_cons_succ]
                        refine wpAnyH_take (i := 19) (oi := { dst := some 172, op := Go.Op.pick (Go.Operand.tmp 163) (Go.Operand.tmp 171) (Go.Operand.const (Go.Value.bool false)), type := 4, pos := "law.go:157", after := #[{ on := 10, ground := Go.Ground.data }, { on := 18, ground := Go.Ground.data }, { on := 1, ground := Go.Ground.guard }], guard := some (1, false) }) (v := ?vr19) rfl (by kernel_rfl) (by kernel_rfl) (by kernel_rfl) (fun _ _ _ h => h) (Or.inl ⟨by rfl, ?hyr19⟩) hHeld ?_
                        case hyr19 => (intro w hSw; (try dsimp only at hSw); go_simp; first | done | with_reducible rfl)
                        try simp only [Act.put, List.setIfInBounds_toArray, List.set_cons_zero, List.set_cons_succ]
                        refine wpAnyH_take (i := 20) (oi := { dst := some 173, op := Go.Op.move (Go.Operand.tmp 172), type := 4, pos := "law.go:157", after := #[{ on := 19, ground := Go.Ground.data }, { on := 16, ground := Go.Ground.chain }, { on := 1, ground := Go.Ground.guard }], guard := some (1, false) }) (v := ?vr20) rfl (by kernel_rfl) (by kernel_rfl) (by kernel_rfl) (fun _ _ _ h => h) (Or.inl ⟨by rfl, ?hyr20⟩) hHeld ?_
                        case hyr20 => (intro w hSw; (try dsimp only at hSw); go_simp; first | done | with_reducible rfl)
                        try simp only [Act.put, List.setIfInBounds_toArray, List.set_cons_zero, List.set_cons_succ]
                        refine wpAnyH_take (i := 21) (oi := { dst := some 174, op := Go.Op.move (Go.Operand.tmp 18), type := 3, pos := "law.go:157", after := #[{ on := 20, ground := Go.Ground.guard }], guard := some (20, true) }) (v := undef) rfl (by kernel_rfl) (by kernel_rfl) (by kernel_rfl) (fun _ _ _ h => h) (Or.inr ⟨by rfl, rfl⟩) hHeld ?_
                        try simp only [Act.put, List.setIfInBounds_toArray, List.set_cons_zero, List.set_cons_succ]
                        refine wpAnyH_take (i := 22) (oi := { dst := some 175, op := Go.Op.move (Go.Operand.tmp 3), type := 33, pos := "law.go:157", after := #[{ on := 20, ground := Go.Ground.guard }], guard := some (20, true) }) (v := undef) rfl (by kernel_rfl) (by kernel_rfl) (by kernel_rfl) (fun _ _ _ h => h) (Or.inr ⟨by rfl, rfl⟩) hHeld ?_
                        try simp only [Act.put, List.setIfInBounds_toArray, List.set_cons_zero, List.set_cons_succ]
                        refine wpAnyH_take (i := 23) (oi := { dst := some 176, op := Go.Op.call { callee := Go.Callee.builtin Go.Builtin.len, args := #[Go.Operand.tmp 175], argTypes := #[33] }, type := 3, pos := "law.go:157", after := #[{ on := 22, ground := Go.Ground.data }, { on := 20, ground := Go.Ground.guard }], guard := some (20, true) }) (v := undef) rfl (by kernel_rfl) (by kernel_rfl) (by kernel_rfl) (fun _ _ _ h => h) (Or.inr ⟨by rfl, rfl⟩) hHeld ?_
                        try simp only [Act.put, List.setIfInBounds_toArray, List.set_cons_zero, List.set_cons_succ]
                        refine wpAnyH_take (i := 24) (oi := { dst := some 177, op := Go.Op.binOp Go.BinOp.lss 3 (Go.Operand.tmp 174) (Go.Operand.tmp 176) 3, type := 4, pos := "law.go:157", after := #[{ on := 21, ground := Go.Ground.data }, { on := 23, ground := Go.Ground.data }, { on := 20, ground := Go.Ground.guard }], guard := some (20, true) }) (v := undef) rfl (by kernel_rfl) (by kernel_rfl) (by kernel_rfl) (fun _ _ _ h => h) (Or.inr ⟨by rfl, rfl⟩) hHeld ?_
                        try simp only [Act.put, List.setIfInBounds_toArray, List.set_cons_zero, List.set_cons_succ]
                        refine wpAnyH_take (i := 25) (oi := { dst := some 178, op := Go.Op.pick (Go.Operand.tmp 173) (Go.Operand.tmp 177) (Go.Operand.const (Go.Value.bool false)), type := 4, pos := "law.go:157", after := #[{ on := 20, ground := Go.Ground.data }, { on := 24, ground := Go.Ground.data }, { on := 1, ground := Go.Ground.guard }], guard := some (1, false) }) (v := ?vr25) rfl (by kernel_rfl) (by kernel_rfl) (by kernel_rfl) (fun _ _ _ h => h) (Or.inl ⟨by rfl, ?hyr25⟩) hHeld ?_
                        case hyr25 => (intro w hSw; (try dsimp only at hSw); go_simp; first | done | with_reducible rfl)
                        try simp only [Act.put, List.setIfInBounds_toArray, List.set_cons_zero, List.set_cons_succ]
                        refine wpAnyH_take (i := 26) (oi := { dst := some 179, op := Go.Op.move (Go.Operand.tmp 178), type := 4, pos := "law.go:157", after := #[{ on := 25, ground := Go.Ground.data }, { on := 20, ground := Go.Ground.chain }, { on := 1, ground := Go.Ground.guard }], guard := some (1, false) }) (v := ?vr26) rfl (by kernel_rfl) (by kernel_rfl) (by kernel_rfl) (fun _ _ _ h => h) (Or.inl ⟨by rfl, ?hyr26⟩) hHeld ?_
                        case hyr26 => (intro w hSw; (try dsimp only at hSw); go_simp; first | done | with_reducible rfl)
                        try simp only [Act.put, List.setIfInBounds_toArray, List.set_cons_zero, List.set_cons_succ]
                        refine wpAnyH_take (i := 27) (oi := { dst := some 180, op := Go.Op.move (Go.Operand.tmp 3), type := 33, pos := "law.go:157", after := #[{ on := 26, ground := Go.Ground.guard }], guard := some (26, true) }) (v := undef) rfl (by kernel_rfl) (by kernel_rfl) (by kernel_rfl) (fun _ _ _ h => h) (Or.inr ⟨by rfl, rfl⟩) hHeld ?_
                        try simp only [Act.put, List.setIfInBounds_toArray, List.set_cons_zero, List.set_cons_succ]
                        refine wpAnyH_take (i := 28) (oi := { dst := some 181, op := Go.Op.move (Go.Operand.tmp 18), type := 3, pos := "law.go:157", after := #[{ on := 26, ground := Go.Ground.guard }], guard := some (26, true) }) (v := undef) rfl (by kernel_rfl) (by kernel_rfl) (by kernel_rfl) (fun _ _ _ h => h) (Or.inr ⟨by rfl, rfl⟩) hHeld ?_
                        try simp only [Act.put, List.setIfInBounds_toArray, List.set_cons_zero, List.set_cons_succ]
                        refine wpAnyH_take (i := 29) (oi := { dst := some 182, op := Go.Op.indexAddr 33 (Go.Operand.tmp 180) (Go.Operand.tmp 181), type := 0, pos := "law.go:157", after := #[{ on := 27, ground := Go.Ground.data }, { on := 28, ground := Go.Ground.data }, { on := 26, ground := Go.Ground.guard }], guard := some (26, true) }) (v := undef) rfl (by kernel_rfl) (by kernel_rfl) (by kernel_rfl) (fun _ _ _ h => h) (Or.inr ⟨by rfl, rfl⟩) hHeld ?_
                        try simp only [Act.put, List.setIfInBounds_toArray, List.set_cons_zero, List.set_cons_succ]
                        refine wpAnyH_take (i := 30) (oi := { dst := some 183, op := Go.Op.load 4 (Go.Operand.tmp 182), type := 4, pos := "law.go:157", after := #[{ on := 29, ground := Go.Ground.data }, { on := 26, ground := Go.Ground.guard }], guard := some (26, true) }) (v := undef) rfl (by kernel_rfl) (by kernel_rfl) (by kernel_rfl) (fun _ _ _ h => h) (Or.inr ⟨by rfl, rfl⟩) hHeld ?_
                        try simp only [Act.put, List.setIfInBounds_toArray, List.set_cons_zero, List.set_cons_succ]
                        refine wpAnyH_take (i := 31) (oi := { dst := some 184, op := Go.Op.pick (Go.Operand.tmp 179) (Go.Operand.tmp 183) (Go.Operand.const (Go.Value.bool false)), type := 4, pos := "law.go:157", after := #[{ on := 26, ground := Go.Ground.data }, { on := 30, ground := Go.Ground.data }, { on := 1, ground := Go.Ground.guard }], guard := some (1, false) }) (v := ?vr31) rfl (by kernel_rfl) (by kernel_rfl) (by kernel_rfl) (fun _ _ _ h => h) (Or.inl ⟨by rfl, ?hyr31⟩) hHeld ?_
                        case hyr31 => (intro w hSw; (try dsimp only at hSw); go_simp; first | done | with_reducible rfl)
                        try simp only [Act.put, List.setIfInBounds_toArray, List.set_cons_zero, List.set_cons_succ]
                        refine wpAnyH_take (i := 32) (oi := { dst := some 185, op := Go.Op.pick (Go.Operand.tmp 154) (Go.Operand.const (Go.Value.bool true)) (Go.Operand.tmp 184), type := 4, pos := "law.go:157", after := #[{ on := 1, ground := Go.Ground.data }, { on := 31, ground := Go.Ground.data }], guard := none }) (v := ?vr32) rfl (by kernel_rfl) (by kernel_rfl) (by kernel_rfl) (fun _ _ _ h => h) (Or.inl ⟨by rfl, ?hyr32⟩) hHeld ?_
                        case hyr32 => (intro w hSw; (try dsimp only at hSw); go_simp; first | done | with_reducible rfl)
                        try simp only [Act.put, List.setIfInBounds_toArray, List.set_cons_zero, List.set_cons_succ]
                        refine wpAnyH_take (i := 33) (oi := { dst := some 17, op := Go.Op.assign (Go.Operand.tmp 185), type := 4, pos := "law.go:157", after := #[{ on := 32, ground := Go.Ground.data }, { on := 26, ground := Go.Ground.chain }, { on := 0, ground := Go.Ground.phase }, { on := 1, ground := Go.Ground.phase }, { on := 2, ground := Go.Ground.phase }, { on := 3, ground := Go.Ground.phase }, { on := 4, ground := Go.Ground.phase }, { on := 5, ground := Go.Ground.phase }, { on := 6, ground := Go.Ground.phase }, { on := 7, ground := Go.Ground.phase }, { on := 8, ground := Go.Ground.phase }, { on := 9, ground := Go.Ground.phase }, { on := 10, ground := Go.Ground.phase }, { on := 11, ground := Go.Ground.phase }, { on := 12, ground := Go.Ground.phase }, { on := 13, ground := Go.Ground.phase }, { on := 14, ground := Go.Ground.phase }, { on := 15, ground := Go.Ground.phase }, { on := 16, ground := Go.Ground.phase }, { on := 17, ground := Go.Ground.phase }, { on := 18, ground := Go.Ground.phase }, { on := 19, ground := Go.Ground.phase }, { on := 20, ground := Go.Ground.phase }, { on := 21, ground := Go.Ground.phase }, { on := 22, ground := Go.Ground.phase }, { on := 23, ground := Go.Ground.phase }, { on := 24, ground := Go.Ground.phase }, { on := 25, ground := Go.Ground.phase }, { on := 26, ground := Go.Ground.phase }, { on := 27, ground := Go.Ground.phase }, { on := 28, ground := Go.Ground.phase }, { on := 29, ground := Go.Ground.phase }, { on := 30, ground := Go.Ground.phase }, { on := 31, ground := Go.Ground.phase }, { on := 32, ground := Go.Ground.phase }], guard := none }) (v := ?vr33) rfl (by kernel_rfl) (by kernel_rfl) (by kernel_rfl) (fun _ _ _ h => h) (Or.inl ⟨by rfl, ?hyr33⟩) hHeld ?_
                        case hyr33 => (intro w hSw; (try dsimp only at hSw); go_simp; first | done | with_reducible rfl)
                        try simp only [Act.put, List.setIfInBounds_toArray, List.set_cons_zero, List.set_cons_succ]
                        refine wpAnyH_done (by kernel_rfl) ?_ _
                        go_wp2
                        go_roundw
                        case rel => exact ⟨t + 1, by omega, by go_num, by rw [HST.out]; simp [hcm], hd4⟩
                        case measure => simp [intOf]; omega
                    · have hss' : decide ((sc : Int) = (s : Int)) = false := decide_eq_false (by omega)
                      have hss2 : decide (sc = s) = false := decide_eq_false hss
                      have hss3 : ((sc : Int) == (s : Int)) = false := by simp; omega
                      have hss4 : (sc == s) = false := by simpa using hss
                      refine wp_region_held_drew (S := fun W => W.cell? ⟨gy, oy + t, none⟩ = some (.int .i64 q)) (by kernel_rfl) (HCY.out _ hd3) (fun hHeld => ?_)
                      refine wpAnyH_take (i := 0) (oi := { dst := some 153, op := Go.Op.move (Go.Operand.tmp 17), type := 4, pos := "law.go:157", after := #[], guard := none }) (v := ?vs0) rfl (by kernel_rfl) (by kernel_rfl) (by kernel_rfl) (fun _ _ _ h => h) (Or.inl ⟨by rfl, ?hys0⟩) hHeld ?_
                      case hys0 => (intro w hSw; (try dsimp only at hSw); go_simp; first | done | with_reducible rfl)
                      try simp only [Act.put, List.setIfInBounds_toArray, List.set_cons_zero, List.set_cons_succ]
                      refine wpAnyH_take (i := 1) (oi := { dst := some 154, op := Go.Op.move (Go.Operand.tmp 153), type := 4, pos := "law.go:157", after := #[{ on := 0, ground := Go.Ground.data }], guard := none }) (v := ?vs1) rfl (by kernel_rfl) (by kernel_rfl) (by kernel_rfl) (fun _ _ _ h => h) (Or.inl ⟨by rfl, ?hys1⟩) hHeld ?_
                      case hys1 => (intro w hSw; (try dsimp only at hSw); go_simp; first | done | with_reducible rfl)
                      try simp only [Act.put, List.setIfInBounds_toArray, List.set_cons_zero, List.set_cons_succ]
                      refine wpAnyH_take (i := 2) (oi := { dst := some 155, op := Go.Op.move (Go.Operand.tmp 2), type := 52, pos := "law.go:157", after := #[{ on := 1, ground := Go.Ground.guard }], guard := some (1, false) }) (v := ?vs2) rfl (by kernel_rfl) (by kernel_rfl) (by kernel_rfl) (fun _ _ _ h => h) (Or.inl ⟨by rfl, ?hys2⟩) hHeld ?_
                      case hys2 => (intro w hSw; (try dsimp only at hSw); go_simp; first | done | with_reducible rfl)
                      try simp only [Act.put, List.setIfInBounds_toArray, List.set_cons_zero, List.set_cons_succ]
                      refine wpAnyH_take (i := 3) (oi := { dst := some 156, op := Go.Op.move (Go.Operand.tmp 18), type := 3, pos := "law.go:157", after := #[{ on := 1, ground := Go.Ground.guard }], guard := some (1, false) }) (v := ?vs3) rfl (by kernel_rfl) (by kernel_rfl) (by kernel_rfl) (fun _ _ _ h => h) (Or.inl ⟨by rfl, ?hys3⟩) hHeld ?_
                      case hys3 => (intro w hSw; (try dsimp only at hSw); go_simp; first | done | with_reducible rfl)
                      try simp only [Act.put, List.setIfInBounds_toArray, List.set_cons_zero, List.set_cons_succ]
                      refine wpAnyH_take (i := 4) (oi := { dst := some 157, op := Go.Op.indexAddr 52 (Go.Operand.tmp 155) (Go.Operand.tmp 156), type := 0, pos := "law.go:157", after := #[{ on := 2, ground := Go.Ground.data }, { on := 3, ground := Go.Ground.data }, { on := 1, ground := Go.Ground.guard }], guard := some (1, false) }) (v := ?vs4) rfl (by kernel_rfl) (by kernel_rfl) (by kernel_rfl) (fun _ _ _ h => h) (Or.inl ⟨by rfl, ?hys4⟩) hHeld ?_
                      case hys4 => (intro w hSw; (try dsimp only at hSw); go_simp; first | done | with_reducible rfl)
                      try simp only [Act.put, List.setIfInBounds_toArray, List.set_cons_zero, List.set_cons_succ]
                      refine wpAnyH_take (i := 5) (oi := { dst := some 158, op := Go.Op.load 3 (Go.Operand.tmp 157), type := 3, pos := "law.go:157", after := #[{ on := 4, ground := Go.Ground.data }, { on := 1, ground := Go.Ground.guard }], guard := some (1, false) }) (v := ?vs5) rfl (by kernel_rfl) (by kernel_rfl) (by kernel_rfl) (fun _ _ _ h => h) (Or.inl ⟨by rfl, ?hys5⟩) hHeld ?_
                      case hys5 => (intro w hSw; (try dsimp only at hSw); go_simp; first | done | with_reducible rfl)
                      try simp only [Act.put, List.setIfInBounds_toArray, List.set_cons_zero, List.set_cons_succ]
                      refine wpAnyH_take (i := 6) (oi := { dst := some 159, op := Go.Op.move (Go.Operand.tmp 0), type := 3, pos := "law.go:157", after := #[{ on := 1, ground := Go.Ground.guard }], guard := some (1, false) }) (v := ?vs6) rfl (by kernel_rfl) (by kernel_rfl) (by kernel_rfl) (fun _ _ _ h => h) (Or.inl ⟨by rfl, ?hys6⟩) hHeld ?_
                      case hys6 => (intro w hSw; (try dsimp only at hSw); go_simp; first | done | with_reducible rfl)
                      try simp only [Act.put, List.setIfInBounds_toArray, List.set_cons_zero, List.set_cons_succ]
                      refine wpAnyH_take (i := 7) (oi := { dst := some 160, op := Go.Op.binOp Go.BinOp.rem 3 (Go.Operand.tmp 158) (Go.Operand.tmp 159) 3, type := 3, pos := "law.go:157", after := #[{ on := 5, ground := Go.Ground.data }, { on := 6, ground := Go.Ground.data }, { on := 1, ground := Go.Ground.guard }], guard := some (1, false) }) (v := ?vs7) rfl (by kernel_rfl) (by kernel_rfl) (by kernel_rfl) (fun _ _ _ h => h) (Or.inl ⟨by rfl, ?hys7⟩) hHeld ?_
                      case hys7 => (intro w hSw; (try dsimp only at hSw); go_simp; first | done | with_reducible rfl)
                      try simp only [Act.put, List.setIfInBounds_toArray, List.set_cons_zero, List.set_cons_succ]
                      refine wpAnyH_take (i := 8) (oi := { dst := some 161, op := Go.Op.move (Go.Operand.tmp 14), type := 3, pos := "law.go:157", after := #[{ on := 1, ground := Go.Ground.guard }], guard := some (1, false) }) (v := ?vs8) rfl (by kernel_rfl) (by kernel_rfl) (by kernel_rfl) (fun _ _ _ h => h) (Or.inl ⟨by rfl, ?hys8⟩) hHeld ?_
                      case hys8 => (intro w hSw; (try dsimp only at hSw); go_simp; first | done | with_reducible rfl)
                      try simp only [Act.put, List.setIfInBounds_toArray, List.set_cons_zero, List.set_cons_succ]
                      refine wpAnyH_take (i := 9) (oi := { dst := some 162, op := Go.Op.binOp Go.BinOp.eql 3 (Go.Operand.tmp 160) (Go.Operand.tmp 161) 3, type := 4, pos := "law.go:157", after := #[{ on := 7, ground := Go.Ground.data }, { on := 8, ground := Go.Ground.data }, { on := 1, ground := Go.Ground.guard }], guard := some (1, false) }) (v := ?vs9) rfl (by kernel_rfl) (by kernel_rfl) (by kernel_rfl) (fun _ _ _ h => h) (Or.inl ⟨by rfl, ?hys9⟩) hHeld ?_
                      case hys9 => (intro w hSw; (try dsimp only at hSw); go_simp; first | done | with_reducible rfl)
                      try simp only [Act.put, List.setIfInBounds_toArray, List.set_cons_zero, List.set_cons_succ]
                      refine wpAnyH_take (i := 10) (oi := { dst := some 163, op := Go.Op.move (Go.Operand.tmp 162), type := 4, pos := "law.go:157", after := #[{ on := 9, ground := Go.Ground.data }, { on := 1, ground := Go.Ground.chain }, { on := 1, ground := Go.Ground.guard }], guard := some (1, false) }) (v := ?vs10) rfl (by kernel_rfl) (by kernel_rfl) (by kernel_rfl) (fun _ _ _ h => h) (Or.inl ⟨by rfl, ?hys10⟩) hHeld ?_
                      case hys10 => (intro w hSw; (try dsimp only at hSw); go_simp; first | done | with_reducible rfl)
                      try simp only [Act.put, List.setIfInBounds_toArray, List.set_cons_zero, List.set_cons_succ]
                      refine wpAnyH_take (i := 11) (oi := { dst := some 164, op := Go.Op.move (Go.Operand.tmp 15), type := 32, pos := "law.go:157", after := #[{ on := 10, ground := Go.Ground.guard }], guard := some (10, true) }) (v := undef) rfl (by kernel_rfl) (by kernel_rfl) (by kernel_rfl) (fun _ _ _ h => h) (Or.inr ⟨by rfl, rfl⟩) hHeld ?_
                      try simp only [Act.put, List.setIfInBounds_toArray, List.set_cons_zero, List.set_cons_succ]
                      refine wpAnyH_take (i := 12) (oi := { dst := some 165, op := Go.Op.convert 32 9 (Go.Operand.tmp 164), type := 9, pos := "law.go:157", after := #[{ on := 11, ground := Go.Ground.data }, { on := 10, ground := Go.Ground.guard }], guard := some (10, true) }) (v := undef) rfl (by kernel_rfl) (by kernel_rfl) (by kernel_rfl) (fun _ _ _ h => h) (Or.inr ⟨by rfl, rfl⟩) hHeld ?_
                      try simp only [Act.put, List.setIfInBounds_toArray, List.set_cons_zero, List.set_cons_succ]
                      refine wpAnyH_take (i := 13) (oi := { dst := some 166, op := Go.Op.move (Go.Operand.tmp 18), type := 3, pos := "law.go:157", after := #[{ on := 10, ground := Go.Ground.guard }], guard := some (10, true) }) (v := undef) rfl (by kernel_rfl) (by kernel_rfl) (by kernel_rfl) (fun _ _ _ h => h) (Or.inr ⟨by rfl, rfl⟩) hHeld ?_
                      try simp only [Act.put, List.setIfInBounds_toArray, List.set_cons_zero, List.set_cons_succ]
                      refine wpAnyH_take (i := 14) (oi := { dst := some 167, op := Go.Op.binOp Go.BinOp.add 3 (Go.Operand.tmp 166) (Go.Operand.const (Go.Value.int Go.IntKind.i64 101)) 3, type := 3, pos := "law.go:157", after := #[{ on := 13, ground := Go.Ground.data }, { on := 10, ground := Go.Ground.guard }], guard := some (10, true) }) (v := undef) rfl (by kernel_rfl) (by kernel_rfl) (by kernel_rfl) (fun _ _ _ h => h) (Or.inr ⟨by rfl, rfl⟩) hHeld ?_
                      try simp only [Act.put, List.setIfInBounds_toArray, List.set_cons_zero, List.set_cons_succ]
                      refine wpAnyH_take (i := 15) (oi := { dst := some 168, op := Go.Op.convert 3 5 (Go.Operand.tmp 167), type := 5, pos := "law.go:157", after := #[{ on := 14, ground := Go.Ground.data }, { on := 10, ground := Go.Ground.guard }], guard := some (10, true) }) (v := undef) rfl (by kernel_rfl) (by kernel_rfl) (by kernel_rfl) (fun _ _ _ h => h) (Or.inr ⟨by rfl, rfl⟩) hHeld ?_
                      try simp only [Act.put, List.setIfInBounds_toArray, List.set_cons_zero, List.set_cons_succ]
                      refine wpAnyH_take (i := 16) (oi := { dst := some 169, op := Go.Op.call { callee := Go.Callee.value (Go.Operand.func 28), args := #[Go.Operand.tmp 168], argTypes := #[5] }, type := 32, pos := "law.go:157", after := #[{ on := 15, ground := Go.Ground.data }, { on := 10, ground := Go.Ground.chain }, { on := 10, ground := Go.Ground.guard }], guard := some (10, true) }) (v := undef) rfl (by kernel_rfl) (by kernel_rfl) (by kernel_rfl) (fun _ _ _ h => h) (Or.inr ⟨by rfl, rfl⟩) hHeld ?_
                      try simp only [Act.put, List.setIfInBounds_toArray, List.set_cons_zero, List.set_cons_succ]
                      refine wpAnyH_take (i := 17) (oi := { dst := some 170, op := Go.Op.convert 32 9 (Go.Operand.tmp 169), type := 9, pos := "law.go:157", after := #[{ on := 16, ground := Go.Ground.data }, { on := 10, ground := Go.Ground.guard }], guard := some (10, true) }) (v := undef) rfl (by kernel_rfl) (by kernel_rfl) (by kernel_rfl) (fun _ _ _ h => h) (Or.inr ⟨by rfl, rfl⟩) hHeld ?_
                      try simp only [Act.put, List.setIfInBounds_toArray, List.set_cons_zero, List.set_cons_succ]
                      refine wpAnyH_take (i := 18) (oi := { dst := some 171, op := Go.Op.binOp Go.BinOp.eql 9 (Go.Operand.tmp 165) (Go.Operand.tmp 170) 9, type := 4, pos := "law.go:157", after := #[{ on := 12, ground := Go.Ground.data }, { on := 17, ground := Go.Ground.data }, { on := 10, ground := Go.Ground.guard }], guard := some (10, true) }) (v := undef) rfl (by kernel_rfl) (by kernel_rfl) (by kernel_rfl) (fun _ _ _ h => h) (Or.inr ⟨by rfl, rfl⟩) hHeld ?_
                      try simp only [Act.put, List.setIfInBounds_toArray, List.set_cons_zero, List.set_cons_succ]
                      refine wpAnyH_take (i := 19) (oi := { dst := some 172, op := Go.Op.pick (Go.Operand.tmp 163) (Go.Operand.tmp 171) (Go.Operand.const (Go.Value.bool false)), type := 4, pos := "law.go:157", after := #[{ on := 10, ground := Go.Ground.data }, { on := 18, ground := Go.Ground.data }, { on := 1, ground := Go.Ground.guard }], guard := some (1, false) }) (v := ?vs19) rfl (by kernel_rfl) (by kernel_rfl) (by kernel_rfl) (fun _ _ _ h => h) (Or.inl ⟨by rfl, ?hys19⟩) hHeld ?_
                      case hys19 => (intro w hSw; (try dsimp only at hSw); go_simp; first | done | with_reducible rfl)
                      try simp only [Act.put, List.setIfInBounds_toArray, List.set_cons_zero, List.set_cons_succ]
                      refine wpAnyH_take (i := 20) (oi := { dst := some 173, op := Go.Op.move (Go.Operand.tmp 172), type := 4, pos := "law.go:157", after := #[{ on := 19, ground := Go.Ground.data }, { on := 16, ground := Go.Ground.chain }, { on := 1, ground := Go.Ground.guard }], guard := some (1, false) }) (v := ?vs20) rfl (by kernel_rfl) (by kernel_rfl) (by kernel_rfl) (fun _ _ _ h => h) (Or.inl ⟨by rfl, ?hys20⟩) hHeld ?_
                      case hys20 => (intro w hSw; (try dsimp only at hSw); go_simp; first | done | with_reducible rfl)
                      try simp only [Act.put, List.setIfInBounds_toArray, List.set_cons_zero, List.set_cons_succ]
                      refine wpAnyH_take (i := 21) (oi := { dst := some 174, op := Go.Op.move (Go.Operand.tmp 18), type := 3, pos := "law.go:157", after := #[{ on := 20, ground := Go.Ground.guard }], guard := some (20, true) }) (v := undef) rfl (by kernel_rfl) (by kernel_rfl) (by kernel_rfl) (fun _ _ _ h => h) (Or.inr ⟨by rfl, rfl⟩) hHeld ?_
                      try simp only [Act.put, List.setIfInBounds_toArray, List.set_cons_zero, List.set_cons_succ]
                      refine wpAnyH_take (i := 22) (oi := { dst := some 175, op := Go.Op.move (Go.Operand.tmp 3), type := 33, pos := "law.go:157", after := #[{ on := 20, ground := Go.Ground.guard }], guard := some (20, true) }) (v := undef) rfl (by kernel_rfl) (by kernel_rfl) (by kernel_rfl) (fun _ _ _ h => h) (Or.inr ⟨by rfl, rfl⟩) hHeld ?_
                      try simp only [Act.put, List.setIfInBounds_toArray, List.set_cons_zero, List.set_cons_succ]
                      refine wpAnyH_take (i := 23) (oi := { dst := some 176, op := Go.Op.call { callee := Go.Callee.builtin Go.Builtin.len, args := #[Go.Operand.tmp 175], argTypes := #[33] }, type := 3, pos := "law.go:157", after := #[{ on := 22, ground := Go.Ground.data }, { on := 20, ground := Go.Ground.guard }], guard := some (20, true) }) (v := undef) rfl (by kernel_rfl) (by kernel_rfl) (by kernel_rfl) (fun _ _ _ h => h) (Or.inr ⟨by rfl, rfl⟩) hHeld ?_
                      try simp only [Act.put, List.setIfInBounds_toArray, List.set_cons_zero, List.set_cons_succ]
                      refine wpAnyH_take (i := 24) (oi := { dst := some 177, op := Go.Op.binOp Go.BinOp.lss 3 (Go.Operand.tmp 174) (Go.Operand.tmp 176) 3, type := 4, pos := "law.go:157", after := #[{ on := 21, ground := Go.Ground.data }, { on := 23, ground := Go.Ground.data }, { on := 20, ground := Go.Ground.guard }], guard := some (20, true) }) (v := undef) rfl (by kernel_rfl) (by kernel_rfl) (by kernel_rfl) (fun _ _ _ h => h) (Or.inr ⟨by rfl, rfl⟩) hHeld ?_
                      try simp only [Act.put, List.setIfInBounds_toArray, List.set_cons_zero, List.set_cons_succ]
                      refine wpAnyH_take (i := 25) (oi := { dst := some 178, op := Go.Op.pick (Go.Operand.tmp 173) (Go.Operand.tmp 177) (Go.Operand.const (Go.Value.bool false)), type := 4, pos := "law.go:157", after := #[{ on := 20, ground := Go.Ground.data }, { on := 24, ground := Go.Ground.data }, { on := 1, ground := Go.Ground.guard }], guard := some (1, false) }) (v := ?vs25) rfl (by kernel_rfl) (by kernel_rfl) (by kernel_rfl) (fun _ _ _ h => h) (Or.inl ⟨by rfl, ?hys25⟩) hHeld ?_
                      case hys25 => (intro w hSw; (try dsimp only at hSw); go_simp; first | done | with_reducible rfl)
                      try simp only [Act.put, List.setIfInBounds_toArray, List.set_cons_zero, List.set_cons_succ]
                      refine wpAnyH_take (i := 26) (oi := { dst := some 179, op := Go.Op.move (Go.Operand.tmp 178), type := 4, pos := "law.go:157", after := #[{ on := 25, ground := Go.Ground.data }, { on := 20, ground := Go.Ground.chain }, { on := 1, ground := Go.Ground.guard }], guard := some (1, false) }) (v := ?vs26) rfl (by kernel_rfl) (by kernel_rfl) (by kernel_rfl) (fun _ _ _ h => h) (Or.inl ⟨by rfl, ?hys26⟩) hHeld ?_
                      case hys26 => (intro w hSw; (try dsimp only at hSw); go_simp; first | done | with_reducible rfl)
                      try simp only [Act.put, List.setIfInBounds_toArray, List.set_cons_zero, List.set_cons_succ]
                      refine wpAnyH_take (i := 27) (oi := { dst := some 180, op := Go.Op.move (Go.Operand.tmp 3), type := 33, pos := "law.go:157", after := #[{ on := 26, ground := Go.Ground.guard }], guard := some (26, true) }) (v := undef) rfl (by kernel_rfl) (by kernel_rfl) (by kernel_rfl) (fun _ _ _ h => h) (Or.inr ⟨by rfl, rfl⟩) hHeld ?_
                      try simp only [Act.put, List.setIfInBounds_toArray, List.set_cons_zero, List.set_cons_succ]
                      refine wpAnyH_take (i := 28) (oi := { dst := some 181, op := Go.Op.move (Go.Operand.tmp 18), type := 3, pos := "law.go:157", after := #[{ on := 26, ground := Go.Ground.guard }], guard := some (26, true) }) (v := undef) rfl (by kernel_rfl) (by kernel_rfl) (by kernel_rfl) (fun _ _ _ h => h) (Or.inr ⟨by rfl, rfl⟩) hHeld ?_
                      try simp only [Act.put, List.setIfInBounds_toArray, List.set_cons_zero, List.set_cons_succ]
                      refine wpAnyH_take (i := 29) (oi := { dst := some 182, op := Go.Op.indexAddr 33 (Go.Operand.tmp 180) (Go.Operand.tmp 181), type := 0, pos := "law.go:157", after := #[{ on := 27, ground := Go.Ground.data }, { on := 28, ground := Go.Ground.data }, { on := 26, ground := Go.Ground.guard }], guard := some (26, true) }) (v := undef) rfl (by kernel_rfl) (by kernel_rfl) (by kernel_rfl) (fun _ _ _ h => h) (Or.inr ⟨by rfl, rfl⟩) hHeld ?_
                      try simp only [Act.put, List.setIfInBounds_toArray, List.set_cons_zero, List.set_cons_succ]
                      refine wpAnyH_take (i := 30) (oi := { dst := some 183, op := Go.Op.load 4 (Go.Operand.tmp 182), type := 4, pos := "law.go:157", after := #[{ on := 29, ground := Go.Ground.data }, { on := 26, ground := Go.Ground.guard }], guard := some (26, true) }) (v := undef) rfl (by kernel_rfl) (by kernel_rfl) (by kernel_rfl) (fun _ _ _ h => h) (Or.inr ⟨by rfl, rfl⟩) hHeld ?_
                      try simp only [Act.put, List.setIfInBounds_toArray, List.set_cons_zero, List.set_cons_succ]
                      refine wpAnyH_take (i := 31) (oi := { dst := some 184, op := Go.Op.pick (Go.Operand.tmp 179) (Go.Operand.tmp 183) (Go.Operand.const (Go.Value.bool false)), type := 4, pos := "law.go:157", after := #[{ on := 26, ground := Go.Ground.data }, { on := 30, ground := Go.Ground.data }, { on := 1, ground := Go.Ground.guard }], guard := some (1, false) }) (v := ?vs31) rfl (by kernel_rfl) (by kernel_rfl) (by kernel_rfl) (fun _ _ _ h => h) (Or.inl ⟨by rfl, ?hys31⟩) hHeld ?_
                      case hys31 => (intro w hSw; (try dsimp only at hSw); go_simp; first | done | with_reducible rfl)
                      try simp only [Act.put, List.setIfInBounds_toArray, List.set_cons_zero, List.set_cons_succ]
                      refine wpAnyH_take (i := 32) (oi := { dst := some 185, op := Go.Op.pick (Go.Operand.tmp 154) (Go.Operand.const (Go.Value.bool true)) (Go.Operand.tmp 184), type := 4, pos := "law.go:157", after := #[{ on := 1, ground := Go.Ground.data }, { on := 31, ground := Go.Ground.data }], guard := none }) (v := ?vs32) rfl (by kernel_rfl) (by kernel_rfl) (by kernel_rfl) (fun _ _ _ h => h) (Or.inl ⟨by rfl, ?hys32⟩) hHeld ?_
                      case hys32 => (intro w hSw; (try dsimp only at hSw); go_simp; first | done | with_reducible rfl)
                      try simp only [Act.put, List.setIfInBounds_toArray, List.set_cons_zero, List.set_cons_succ]
                      refine wpAnyH_take (i := 33) (oi := { dst := some 17, op := Go.Op.assign (Go.Operand.tmp 185), type := 4, pos := "law.go:157", after := #[{ on := 32, ground := Go.Ground.data }, { on := 26, ground := Go.Ground.chain }, { on := 0, ground := Go.Ground.phase }, { on := 1, ground := Go.Ground.phase }, { on := 2, ground := Go.Ground.phase }, { on := 3, ground := Go.Ground.phase }, { on := 4, ground := Go.Ground.phase }, { on := 5, ground := Go.Ground.phase }, { on := 6, ground := Go.Ground.phase }, { on := 7, ground := Go.Ground.phase }, { on := 8, ground := Go.Ground.phase }, { on := 9, ground := Go.Ground.phase }, { on := 10, ground := Go.Ground.phase }, { on := 11, ground := Go.Ground.phase }, { on := 12, ground := Go.Ground.phase }, { on := 13, ground := Go.Ground.phase }, { on := 14, ground := Go.Ground.phase }, { on := 15, ground := Go.Ground.phase }, { on := 16, ground := Go.Ground.phase }, { on := 17, ground := Go.Ground.phase }, { on := 18, ground := Go.Ground.phase }, { on := 19, ground := Go.Ground.phase }, { on := 20, ground := Go.Ground.phase }, { on := 21, ground := Go.Ground.phase }, { on := 22, ground := Go.Ground.phase }, { on := 23, ground := Go.Ground.phase }, { on := 24, ground := Go.Ground.phase }, { on := 25, ground := Go.Ground.phase }, { on := 26, ground := Go.Ground.phase }, { on := 27, ground := Go.Ground.phase }, { on := 28, ground := Go.Ground.phase }, { on := 29, ground := Go.Ground.phase }, { on := 30, ground := Go.Ground.phase }, { on := 31, ground := Go.Ground.phase }, { on := 32, ground := Go.Ground.phase }], guard := none }) (v := ?vs33) rfl (by kernel_rfl) (by kernel_rfl) (by kernel_rfl) (fun _ _ _ h => h) (Or.inl ⟨by rfl, ?hys33⟩) hHeld ?_
                      case hys33 => (intro w hSw; (try dsimp only at hSw); go_simp; first | done | with_reducible rfl)
                      try simp only [Act.put, List.setIfInBounds_toArray, List.set_cons_zero, List.set_cons_succ]
                      refine wpAnyH_done (by kernel_rfl) ?_ _
                      go_wp2
                      go_roundw
                      case rel => exact ⟨t + 1, by omega, by go_num, by rw [HST.out]; simp [hss], hd3⟩
                      case measure => simp [intOf]; omega
                  · rw [ho] at HST
                    clear ho
                    refine wp_region_held_drew (S := fun _ => True) (by kernel_rfl) (trivial) (fun hHeld => ?_)
                    refine wpAnyH_take (i := 0) (oi := { dst := some 153, op := Go.Op.move (Go.Operand.tmp 17), type := 4, pos := "law.go:157", after := #[], guard := none }) (v := ?vt0) rfl (by kernel_rfl) (by kernel_rfl) (by kernel_rfl) (fun _ _ _ h => h) (Or.inl ⟨by rfl, ?hyt0⟩) hHeld ?_
                    case hyt0 => (intro w hSw; (try dsimp only at hSw); go_simp; first | done | with_reducible rfl)
                    try simp only [Act.put, List.setIfInBounds_toArray, List.set_cons_zero, List.set_cons_succ]
                    refine wpAnyH_take (i := 1) (oi := { dst := some 154, op := Go.Op.move (Go.Operand.tmp 153), type := 4, pos := "law.go:157", after := #[{ on := 0, ground := Go.Ground.data }], guard := none }) (v := ?vt1) rfl (by kernel_rfl) (by kernel_rfl) (by kernel_rfl) (fun _ _ _ h => h) (Or.inl ⟨by rfl, ?hyt1⟩) hHeld ?_
                    case hyt1 => (intro w hSw; (try dsimp only at hSw); go_simp; first | done | with_reducible rfl)
                    try simp only [Act.put, List.setIfInBounds_toArray, List.set_cons_zero, List.set_cons_succ]
                    refine wpAnyH_take (i := 2) (oi := { dst := some 155, op := Go.Op.move (Go.Operand.tmp 2), type := 52, pos := "law.go:157", after := #[{ on := 1, ground := Go.Ground.guard }], guard := some (1, false) }) (v := undef) rfl (by kernel_rfl) (by kernel_rfl) (by kernel_rfl) (fun _ _ _ h => h) (Or.inr ⟨by rfl, rfl⟩) hHeld ?_
                    try simp only [Act.put, List.setIfInBounds_toArray, List.set_cons_zero, List.set_cons_succ]
                    refine wpAnyH_take (i := 3) (oi := { dst := some 156, op := Go.Op.move (Go.Operand.tmp 18), type := 3, pos := "law.go:157", after := #[{ on := 1, ground := Go.Ground.guard }], guard := some (1, false) }) (v := undef) rfl (by kernel_rfl) (by kernel_rfl) (by kernel_rfl) (fun _ _ _ h => h) (Or.inr ⟨by rfl, rfl⟩) hHeld ?_
                    try simp only [Act.put, List.setIfInBounds_toArray, List.set_cons_zero, List.set_cons_succ]
                    refine wpAnyH_take (i := 4) (oi := { dst := some 157, op := Go.Op.indexAddr 52 (Go.Operand.tmp 155) (Go.Operand.tmp 156), type := 0, pos := "law.go:157", after := #[{ on := 2, ground := Go.Ground.data }, { on := 3, ground := Go.Ground.data }, { on := 1, ground := Go.Ground.guard }], guard := some (1, false) }) (v := undef) rfl (by kernel_rfl) (by kernel_rfl) (by kernel_rfl) (fun _ _ _ h => h) (Or.inr ⟨by rfl, rfl⟩) hHeld ?_
                    try simp only [Act.put, List.setIfInBounds_toArray, List.set_cons_zero, List.set_cons_succ]
                    refine wpAnyH_take (i := 5) (oi := { dst := some 158, op := Go.Op.load 3 (Go.Operand.tmp 157), type := 3, pos := "law.go:157", after := #[{ on := 4, ground := Go.Ground.data }, { on := 1, ground := Go.Ground.guard }], guard := some (1, false) }) (v := undef) rfl (by kernel_rfl) (by kernel_rfl) (by kernel_rfl) (fun _ _ _ h => h) (Or.inr ⟨by rfl, rfl⟩) hHeld ?_
                    try simp only [Act.put, List.setIfInBounds_toArray, List.set_cons_zero, List.set_cons_succ]
                    refine wpAnyH_take (i := 6) (oi := { dst := some 159, op := Go.Op.move (Go.Operand.tmp 0), type := 3, pos := "law.go:157", after := #[{ on := 1, ground := Go.Ground.guard }], guard := some (1, false) }) (v := undef) rfl (by kernel_rfl) (by kernel_rfl) (by kernel_rfl) (fun _ _ _ h => h) (Or.inr ⟨by rfl, rfl⟩) hHeld ?_
                    try simp only [Act.put, List.setIfInBounds_toArray, List.set_cons_zero, List.set_cons_succ]
                    refine wpAnyH_take (i := 7) (oi := { dst := some 160, op := Go.Op.binOp Go.BinOp.rem 3 (Go.Operand.tmp 158) (Go.Operand.tmp 159) 3, type := 3, pos := "law.go:157", after := #[{ on := 5, ground := Go.Ground.data }, { on := 6, ground := Go.Ground.data }, { on := 1, ground := Go.Ground.guard }], guard := some (1, false) }) (v := undef) rfl (by kernel_rfl) (by kernel_rfl) (by kernel_rfl) (fun _ _ _ h => h) (Or.inr ⟨by rfl, rfl⟩) hHeld ?_
                    try simp only [Act.put, List.setIfInBounds_toArray, List.set_cons_zero, List.set_cons_succ]
                    refine wpAnyH_take (i := 8) (oi := { dst := some 161, op := Go.Op.move (Go.Operand.tmp 14), type := 3, pos := "law.go:157", after := #[{ on := 1, ground := Go.Ground.guard }], guard := some (1, false) }) (v := undef) rfl (by kernel_rfl) (by kernel_rfl) (by kernel_rfl) (fun _ _ _ h => h) (Or.inr ⟨by rfl, rfl⟩) hHeld ?_
                    try simp only [Act.put, List.setIfInBounds_toArray, List.set_cons_zero, List.set_cons_succ]
                    refine wpAnyH_take (i := 9) (oi := { dst := some 162, op := Go.Op.binOp Go.BinOp.eql 3 (Go.Operand.tmp 160) (Go.Operand.tmp 161) 3, type := 4, pos := "law.go:157", after := #[{ on := 7, ground := Go.Ground.data }, { on := 8, ground := Go.Ground.data }, { on := 1, ground := Go.Ground.guard }], guard := some (1, false) }) (v := undef) rfl (by kernel_rfl) (by kernel_rfl) (by kernel_rfl) (fun _ _ _ h => h) (Or.inr ⟨by rfl, rfl⟩) hHeld ?_
                    try simp only [Act.put, List.setIfInBounds_toArray, List.set_cons_zero, List.set_cons_succ]
                    refine wpAnyH_take (i := 10) (oi := { dst := some 163, op := Go.Op.move (Go.Operand.tmp 162), type := 4, pos := "law.go:157", after := #[{ on := 9, ground := Go.Ground.data }, { on := 1, ground := Go.Ground.chain }, { on := 1, ground := Go.Ground.guard }], guard := some (1, false) }) (v := undef) rfl (by kernel_rfl) (by kernel_rfl) (by kernel_rfl) (fun _ _ _ h => h) (Or.inr ⟨by rfl, rfl⟩) hHeld ?_
                    try simp only [Act.put, List.setIfInBounds_toArray, List.set_cons_zero, List.set_cons_succ]
                    refine wpAnyH_take (i := 11) (oi := { dst := some 164, op := Go.Op.move (Go.Operand.tmp 15), type := 32, pos := "law.go:157", after := #[{ on := 10, ground := Go.Ground.guard }], guard := some (10, true) }) (v := undef) rfl (by kernel_rfl) (by kernel_rfl) (by kernel_rfl) (fun _ _ _ h => h) (Or.inr ⟨by rfl, rfl⟩) hHeld ?_
                    try simp only [Act.put, List.setIfInBounds_toArray, List.set_cons_zero, List.set_cons_succ]
                    refine wpAnyH_take (i := 12) (oi := { dst := some 165, op := Go.Op.convert 32 9 (Go.Operand.tmp 164), type := 9, pos := "law.go:157", after := #[{ on := 11, ground := Go.Ground.data }, { on := 10, ground := Go.Ground.guard }], guard := some (10, true) }) (v := undef) rfl (by kernel_rfl) (by kernel_rfl) (by kernel_rfl) (fun _ _ _ h => h) (Or.inr ⟨by rfl, rfl⟩) hHeld ?_
                    try simp only [Act.put, List.setIfInBounds_toArray, List.set_cons_zero, List.set_cons_succ]
                    refine wpAnyH_take (i := 13) (oi := { dst := some 166, op := Go.Op.move (Go.Operand.tmp 18), type := 3, pos := "law.go:157", after := #[{ on := 10, ground := Go.Ground.guard }], guard := some (10, true) }) (v := undef) rfl (by kernel_rfl) (by kernel_rfl) (by kernel_rfl) (fun _ _ _ h => h) (Or.inr ⟨by rfl, rfl⟩) hHeld ?_
                    try simp only [Act.put, List.setIfInBounds_toArray, List.set_cons_zero, List.set_cons_succ]
                    refine wpAnyH_take (i := 14) (oi := { dst := some 167, op := Go.Op.binOp Go.BinOp.add 3 (Go.Operand.tmp 166) (Go.Operand.const (Go.Value.int Go.IntKind.i64 101)) 3, type := 3, pos := "law.go:157", after := #[{ on := 13, ground := Go.Ground.data }, { on := 10, ground := Go.Ground.guard }], guard := some (10, true) }) (v := undef) rfl (by kernel_rfl) (by kernel_rfl) (by kernel_rfl) (fun _ _ _ h => h) (Or.inr ⟨by rfl, rfl⟩) hHeld ?_
                    try simp only [Act.put, List.setIfInBounds_toArray, List.set_cons_zero, List.set_cons_succ]
                    refine wpAnyH_take (i := 15) (oi := { dst := some 168, op := Go.Op.convert 3 5 (Go.Operand.tmp 167), type := 5, pos := "law.go:157", after := #[{ on := 14, ground := Go.Ground.data }, { on := 10, ground := Go.Ground.guard }], guard := some (10, true) }) (v := undef) rfl (by kernel_rfl) (by kernel_rfl) (by kernel_rfl) (fun _ _ _ h => h) (Or.inr ⟨by rfl, rfl⟩) hHeld ?_
                    try simp only [Act.put, List.setIfInBounds_toArray, List.set_cons_zero, List.set_cons_succ]
                    refine wpAnyH_take (i := 16) (oi := { dst := some 169, op := Go.Op.call { callee := Go.Callee.value (Go.Operand.func 28), args := #[Go.Operand.tmp 168], argTypes := #[5] }, type := 32, pos := "law.go:157", after := #[{ on := 15, ground := Go.Ground.data }, { on := 10, ground := Go.Ground.chain }, { on := 10, ground := Go.Ground.guard }], guard := some (10, true) }) (v := undef) rfl (by kernel_rfl) (by kernel_rfl) (by kernel_rfl) (fun _ _ _ h => h) (Or.inr ⟨by rfl, rfl⟩) hHeld ?_
                    try simp only [Act.put, List.setIfInBounds_toArray, List.set_cons_zero, List.set_cons_succ]
                    refine wpAnyH_take (i := 17) (oi := { dst := some 170, op := Go.Op.convert 32 9 (Go.Operand.tmp 169), type := 9, pos := "law.go:157", after := #[{ on := 16, ground := Go.Ground.data }, { on := 10, ground := Go.Ground.guard }], guard := some (10, true) }) (v := undef) rfl (by kernel_rfl) (by kernel_rfl) (by kernel_rfl) (fun _ _ _ h => h) (Or.inr ⟨by rfl, rfl⟩) hHeld ?_
                    try simp only [Act.put, List.setIfInBounds_toArray, List.set_cons_zero, List.set_cons_succ]
                    refine wpAnyH_take (i := 18) (oi := { dst := some 171, op := Go.Op.binOp Go.BinOp.eql 9 (Go.Operand.tmp 165) (Go.Operand.tmp 170) 9, type := 4, pos := "law.go:157", after := #[{ on := 12, ground := Go.Ground.data }, { on := 17, ground := Go.Ground.data }, { on := 10, ground := Go.Ground.guard }], guard := some (10, true) }) (v := undef) rfl (by kernel_rfl) (by kernel_rfl) (by kernel_rfl) (fun _ _ _ h => h) (Or.inr ⟨by rfl, rfl⟩) hHeld ?_
                    try simp only [Act.put, List.setIfInBounds_toArray, List.set_cons_zero, List.set_cons_succ]
                    refine wpAnyH_take (i := 19) (oi := { dst := some 172, op := Go.Op.pick (Go.Operand.tmp 163) (Go.Operand.tmp 171) (Go.Operand.const (Go.Value.bool false)), type := 4, pos := "law.go:157", after := #[{ on := 10, ground := Go.Ground.data }, { on := 18, ground := Go.Ground.data }, { on := 1, ground := Go.Ground.guard }], guard := some (1, false) }) (v := undef) rfl (by kernel_rfl) (by kernel_rfl) (by kernel_rfl) (fun _ _ _ h => h) (Or.inr ⟨by rfl, rfl⟩) hHeld ?_
                    try simp only [Act.put, List.setIfInBounds_toArray, List.set_cons_zero, List.set_cons_succ]
                    refine wpAnyH_take (i := 20) (oi := { dst := some 173, op := Go.Op.move (Go.Operand.tmp 172), type := 4, pos := "law.go:157", after := #[{ on := 19, ground := Go.Ground.data }, { on := 16, ground := Go.Ground.chain }, { on := 1, ground := Go.Ground.guard }], guard := some (1, false) }) (v := undef) rfl (by kernel_rfl) (by kernel_rfl) (by kernel_rfl) (fun _ _ _ h => h) (Or.inr ⟨by rfl, rfl⟩) hHeld ?_
                    try simp only [Act.put, List.setIfInBounds_toArray, List.set_cons_zero, List.set_cons_succ]
                    refine wpAnyH_take (i := 21) (oi := { dst := some 174, op := Go.Op.move (Go.Operand.tmp 18), type := 3, pos := "law.go:157", after := #[{ on := 20, ground := Go.Ground.guard }], guard := some (20, true) }) (v := undef) rfl (by kernel_rfl) (by kernel_rfl) (by kernel_rfl) (fun _ _ _ h => h) (Or.inr ⟨by rfl, rfl⟩) hHeld ?_
                    try simp only [Act.put, List.setIfInBounds_toArray, List.set_cons_zero, List.set_cons_succ]
                    refine wpAnyH_take (i := 22) (oi := { dst := some 175, op := Go.Op.move (Go.Operand.tmp 3), type := 33, pos := "law.go:157", after := #[{ on := 20, ground := Go.Ground.guard }], guard := some (20, true) }) (v := undef) rfl (by kernel_rfl) (by kernel_rfl) (by kernel_rfl) (fun _ _ _ h => h) (Or.inr ⟨by rfl, rfl⟩) hHeld ?_
                    try simp only [Act.put, List.setIfInBounds_toArray, List.set_cons_zero, List.set_cons_succ]
                    refine wpAnyH_take (i := 23) (oi := { dst := some 176, op := Go.Op.call { callee := Go.Callee.builtin Go.Builtin.len, args := #[Go.Operand.tmp 175], argTypes := #[33] }, type := 3, pos := "law.go:157", after := #[{ on := 22, ground := Go.Ground.data }, { on := 20, ground := Go.Ground.guard }], guard := some (20, true) }) (v := undef) rfl (by kernel_rfl) (by kernel_rfl) (by kernel_rfl) (fun _ _ _ h => h) (Or.inr ⟨by rfl, rfl⟩) hHeld ?_
                    try simp only [Act.put, List.setIfInBounds_toArray, List.set_cons_zero, List.set_cons_succ]
                    refine wpAnyH_take (i := 24) (oi := { dst := some 177, op := Go.Op.binOp Go.BinOp.lss 3 (Go.Operand.tmp 174) (Go.Operand.tmp 176) 3, type := 4, pos := "law.go:157", after := #[{ on := 21, ground := Go.Ground.data }, { on := 23, ground := Go.Ground.data }, { on := 20, ground := Go.Ground.guard }], guard := some (20, true) }) (v := undef) rfl (by kernel_rfl) (by kernel_rfl) (by kernel_rfl) (fun _ _ _ h => h) (Or.inr ⟨by rfl, rfl⟩) hHeld ?_
                    try simp only [Act.put, List.setIfInBounds_toArray, List.set_cons_zero, List.set_cons_succ]
                    refine wpAnyH_take (i := 25) (oi := { dst := some 178, op := Go.Op.pick (Go.Operand.tmp 173) (Go.Operand.tmp 177) (Go.Operand.const (Go.Value.bool false)), type := 4, pos := "law.go:157", after := #[{ on := 20, ground := Go.Ground.data }, { on := 24, ground := Go.Ground.data }, { on := 1, ground := Go.Ground.guard }], guard := some (1, false) }) (v := undef) rfl (by kernel_rfl) (by kernel_rfl) (by kernel_rfl) (fun _ _ _ h => h) (Or.inr ⟨by rfl, rfl⟩) hHeld ?_
                    try simp only [Act.put, List.setIfInBounds_toArray, List.set_cons_zero, List.set_cons_succ]
                    refine wpAnyH_take (i := 26) (oi := { dst := some 179, op := Go.Op.move (Go.Operand.tmp 178), type := 4, pos := "law.go:157", after := #[{ on := 25, ground := Go.Ground.data }, { on := 20, ground := Go.Ground.chain }, { on := 1, ground := Go.Ground.guard }], guard := some (1, false) }) (v := undef) rfl (by kernel_rfl) (by kernel_rfl) (by kernel_rfl) (fun _ _ _ h => h) (Or.inr ⟨by rfl, rfl⟩) hHeld ?_
                    try simp only [Act.put, List.setIfInBounds_toArray, List.set_cons_zero, List.set_cons_succ]
                    refine wpAnyH_take (i := 27) (oi := { dst := some 180, op := Go.Op.move (Go.Operand.tmp 3), type := 33, pos := "law.go:157", after := #[{ on := 26, ground := Go.Ground.guard }], guard := some (26, true) }) (v := undef) rfl (by kernel_rfl) (by kernel_rfl) (by kernel_rfl) (fun _ _ _ h => h) (Or.inr ⟨by rfl, rfl⟩) hHeld ?_
                    try simp only [Act.put, List.setIfInBounds_toArray, List.set_cons_zero, List.set_cons_succ]
                    refine wpAnyH_take (i := 28) (oi := { dst := some 181, op := Go.Op.move (Go.Operand.tmp 18), type := 3, pos := "law.go:157", after := #[{ on := 26, ground := Go.Ground.guard }], guard := some (26, true) }) (v := undef) rfl (by kernel_rfl) (by kernel_rfl) (by kernel_rfl) (fun _ _ _ h => h) (Or.inr ⟨by rfl, rfl⟩) hHeld ?_
                    try simp only [Act.put, List.setIfInBounds_toArray, List.set_cons_zero, List.set_cons_succ]
                    refine wpAnyH_take (i := 29) (oi := { dst := some 182, op := Go.Op.indexAddr 33 (Go.Operand.tmp 180) (Go.Operand.tmp 181), type := 0, pos := "law.go:157", after := #[{ on := 27, ground := Go.Ground.data }, { on := 28, ground := Go.Ground.data }, { on := 26, ground := Go.Ground.guard }], guard := some (26, true) }) (v := undef) rfl (by kernel_rfl) (by kernel_rfl) (by kernel_rfl) (fun _ _ _ h => h) (Or.inr ⟨by rfl, rfl⟩) hHeld ?_
                    try simp only [Act.put, List.setIfInBounds_toArray, List.set_cons_zero, List.set_cons_succ]
                    refine wpAnyH_take (i := 30) (oi := { dst := some 183, op := Go.Op.load 4 (Go.Operand.tmp 182), type := 4, pos := "law.go:157", after := #[{ on := 29, ground := Go.Ground.data }, { on := 26, ground := Go.Ground.guard }], guard := some (26, true) }) (v := undef) rfl (by kernel_rfl) (by kernel_rfl) (by kernel_rfl) (fun _ _ _ h => h) (Or.inr ⟨by rfl, rfl⟩) hHeld ?_
                    try simp only [Act.put, List.setIfInBounds_toArray, List.set_cons_zero, List.set_cons_succ]
                    refine wpAnyH_take (i := 31) (oi := { dst := some 184, op := Go.Op.pick (Go.Operand.tmp 179) (Go.Operand.tmp 183) (Go.Operand.const (Go.Value.bool false)), type := 4, pos := "law.go:157", after := #[{ on := 26, ground := Go.Ground.data }, { on := 30, ground := Go.Ground.data }, { on := 1, ground := Go.Ground.guard }], guard := some (1, false) }) (v := undef) rfl (by kernel_rfl) (by kernel_rfl) (by kernel_rfl) (fun _ _ _ h => h) (Or.inr ⟨by rfl, rfl⟩) hHeld ?_
                    try simp only [Act.put, List.setIfInBounds_toArray, List.set_cons_zero, List.set_cons_succ]
                    refine wpAnyH_take (i := 32) (oi := { dst := some 185, op := Go.Op.pick (Go.Operand.tmp 154) (Go.Operand.const (Go.Value.bool true)) (Go.Operand.tmp 184), type := 4, pos := "law.go:157", after := #[{ on := 1, ground := Go.Ground.data }, { on := 31, ground := Go.Ground.data }], guard := none }) (v := ?vt32) rfl (by kernel_rfl) (by kernel_rfl) (by kernel_rfl) (fun _ _ _ h => h) (Or.inl ⟨by rfl, ?hyt32⟩) hHeld ?_
                    case hyt32 => (intro w hSw; (try dsimp only at hSw); go_simp; first | done | with_reducible rfl)
                    try simp only [Act.put, List.setIfInBounds_toArray, List.set_cons_zero, List.set_cons_succ]
                    refine wpAnyH_take (i := 33) (oi := { dst := some 17, op := Go.Op.assign (Go.Operand.tmp 185), type := 4, pos := "law.go:157", after := #[{ on := 32, ground := Go.Ground.data }, { on := 26, ground := Go.Ground.chain }, { on := 0, ground := Go.Ground.phase }, { on := 1, ground := Go.Ground.phase }, { on := 2, ground := Go.Ground.phase }, { on := 3, ground := Go.Ground.phase }, { on := 4, ground := Go.Ground.phase }, { on := 5, ground := Go.Ground.phase }, { on := 6, ground := Go.Ground.phase }, { on := 7, ground := Go.Ground.phase }, { on := 8, ground := Go.Ground.phase }, { on := 9, ground := Go.Ground.phase }, { on := 10, ground := Go.Ground.phase }, { on := 11, ground := Go.Ground.phase }, { on := 12, ground := Go.Ground.phase }, { on := 13, ground := Go.Ground.phase }, { on := 14, ground := Go.Ground.phase }, { on := 15, ground := Go.Ground.phase }, { on := 16, ground := Go.Ground.phase }, { on := 17, ground := Go.Ground.phase }, { on := 18, ground := Go.Ground.phase }, { on := 19, ground := Go.Ground.phase }, { on := 20, ground := Go.Ground.phase }, { on := 21, ground := Go.Ground.phase }, { on := 22, ground := Go.Ground.phase }, { on := 23, ground := Go.Ground.phase }, { on := 24, ground := Go.Ground.phase }, { on := 25, ground := Go.Ground.phase }, { on := 26, ground := Go.Ground.phase }, { on := 27, ground := Go.Ground.phase }, { on := 28, ground := Go.Ground.phase }, { on := 29, ground := Go.Ground.phase }, { on := 30, ground := Go.Ground.phase }, { on := 31, ground := Go.Ground.phase }, { on := 32, ground := Go.Ground.phase }], guard := none }) (v := ?vt33) rfl (by kernel_rfl) (by kernel_rfl) (by kernel_rfl) (fun _ _ _ h => h) (Or.inl ⟨by rfl, ?hyt33⟩) hHeld ?_
                    case hyt33 => (intro w hSw; (try dsimp only at hSw); go_simp; first | done | with_reducible rfl)
                    try simp only [Act.put, List.setIfInBounds_toArray, List.set_cons_zero, List.set_cons_succ]
                    refine wpAnyH_done (by kernel_rfl) ?_ _
                    go_wp2
                    go_roundw
                    case rel => exact ⟨t + 1, by omega, by go_num, by rw [HST.out]; simp, hd3⟩
                    case measure => simp [intOf]; omega
                · obtain rfl : t = j := by omega
                  rw [HOK.out]
                  go_wp2
                  go_roundw
                  case rel => exact ⟨s + 1, by omega, by go_num, HDR.out.below HBQ.out⟩
                  case measure => simp [intOf]; omega
            · obtain rfl : s = m := by omega
              have HB := Lib.hid hdz.bel
              clear hdz
              go_wp2_with fail
              refine (awake_any wr).mono ?_
              rintro e wX ⟨rfl, hbx⟩
              have HX := Lib.hid (bstep HB.out hbx)
              clear hbx
              go_wp2
              go_ret
              exact ⟨rfl, HX.out⟩


set_option maxRecDepth 100000 in
set_option maxHeartbeats 4000000 in
theorem walk (a0 : Int) (a1 : Option Addr) (len1 cap1 : Nat) (a2 : Option Addr) (len2 cap2 : Nat) (a3 : Option Addr) (len3 cap3 : Nat) (w : World) (w0 : (Lit.int .i64 a0).wf = true) (w1 : IsI w a1 len1 cap1) (w2 : IsI w a2 len2 cap2) (w3 : IsQ w a3 len3 cap3) :
    Calls Try.prog 4 #[.int .i64 a0, .slice a1 len1 cap1, .slice a2 len2 cap2, .slice a3 len3 cap3] w fun e w' => e = .returned (.bool true) ∧ Below w.heap.size w w' := by
  obtain ⟨h1m, zs, hr1⟩ := w1
  obtain ⟨h2m, ys, hr2⟩ := w2
  obtain ⟨h3m, ks, hr3⟩ := w3
  have wf := bounds_i64 w0
  by_cases e1 : a0 < 1
  · skip
    clear hr1 hr2 hr3
    go_enter Try.func4, Try.ntmps4
    go_wp2
    go_ret
    exact ⟨rfl, Below.refl _ _⟩
  by_cases e2 : 30 < a0
  · skip
    clear hr1 hr2 hr3
    go_enter Try.func4, Try.ntmps4
    go_wp2
    go_ret
    exact ⟨rfl, Below.refl _ _⟩
  by_cases e3 : 100 < len1
  · skip
    clear hr1 hr2 hr3
    go_enter Try.func4, Try.ntmps4
    go_wp2
    go_ret
    exact ⟨rfl, Below.refl _ _⟩
  by_cases e4 : 100 < len2
  · skip
    clear hr1 hr2 hr3
    go_enter Try.func4, Try.ntmps4
    go_wp2
    go_ret
    exact ⟨rfl, Below.refl _ _⟩
  by_cases e5 : 200 < len3
  · skip
    clear hr1 hr2 hr3
    go_enter Try.func4, Try.ntmps4
    go_wp2
    go_ret
    exact ⟨rfl, Below.refl _ _⟩
  obtain ⟨m, rfl⟩ := Int.eq_ofNat_of_zero_le (show 0 ≤ a0 by omega)
  exact walkGood m a1 len1 cap1 a2 len2 cap2 a3 len3 cap3 w zs ys ks hr1 hr2 hr3 (by omega) (by omega) (by omega) (by omega) (by omega)

set_option maxRecDepth 100000 in
theorem lifted (os : Os) (started : os.Started) (H : Type) (enc : TypeId × Value → H) :
    ReturnsInHanded {} Try.checked os 4 .any (Rows.diskCrashesSpec.pre6 enc Try.prog Try.f4 Rows.diskCrashesRow.domain false) (Rows.diskCrashesSpec.post enc Try.prog Try.f4 false true false false) := by
  refine returnsInHanded_of_change (C := Try.checked) own started (by kernel_rfl) Try.func4
    (ChangeSpec.witness6 (enc := enc) (C := Try.checked) false ⟨#[], #[.int .i64 0, .slice none 0 0, .slice none 0 0, .slice none 0 0], []⟩ 8 (by kernel_rfl) (by kernel_rfl) (by kernel_rfl) (by kernel_rfl)) ?_
  intro W base args ds gs before hval0 hW hcnd _
  have hval : ∀ (j : Nat) t v, Try.f4.params[j]? = some t → args[j]? = some v → Value.okWide Try.prog W .any base t v := hval0
  have hW' := hW
  obtain ⟨p, q, hA0, hV, rfl, hfz, hnd⟩ := hW
  have hA : DataW.TrodAll enc Try.prog W 0 (fun _ => true) true Try.f4.params.toList args.toList ds p := hA0
  rw [Try.params4] at hA hval
  obtain ⟨v0, vs0, d0, ds0, p0, q0, hargs, rfl, rfl, h0, r0⟩ := trodAll_cons hA
  obtain ⟨v1, vs1, d1, ds1, p1, q1, rfl, rfl, rfl, h1, r1⟩ := trodAll_cons r0
  obtain ⟨v2, vs2, d2, ds2, p2, q2, rfl, rfl, rfl, h2, r2⟩ := trodAll_cons r1
  obtain ⟨v3, vs3, d3, ds3, p3, q3, rfl, rfl, rfl, h3, r3⟩ := trodAll_cons r2
  obtain ⟨rfl, rfl, rfl⟩ := trodAll_nil r3
  obtain rfl : args = #[v0, v1, v2, v3] := by cases args; simp_all
  obtain ⟨rfl, rfl⟩ := trodVars_none hV
  obtain ⟨a0, rfl, rfl, rfl, w0⟩ := open_int Try.underlying3 (hval 0 3 v0 rfl rfl) h0
  obtain ⟨a1, len1, cap1, rfl⟩ := okWide_slice Try.underlying52 (hval 1 52 v1 rfl rfl)
  have k1 := h1
  have lt1 : ∀ x ∈ p1, x.block < W.heap.size := by obtain ⟨m, hm⟩ := k1; exact DataW.trod_lt m _ _ _ hm
  have w1 : IsI W a1 len1 cap1 := by
    obtain ⟨fuel, hf⟩ := h1
    exact IsI.of hf
  obtain ⟨a2, len2, cap2, rfl⟩ := okWide_slice Try.underlying52 (hval 2 52 v2 rfl rfl)
  have k2 := h2
  have lt2 : ∀ x ∈ p2, x.block < W.heap.size := by obtain ⟨m, hm⟩ := k2; exact DataW.trod_lt m _ _ _ hm
  have w2 : IsI W a2 len2 cap2 := by
    obtain ⟨fuel, hf⟩ := h2
    exact IsI.of hf
  obtain ⟨a3, len3, cap3, rfl⟩ := okWide_slice Try.underlying33 (hval 3 33 v3 rfl rfl)
  have k3 := h3
  have lt3 : ∀ x ∈ p3, x.block < W.heap.size := by obtain ⟨m, hm⟩ := k3; exact DataW.trod_lt m _ _ _ hm
  have w3 : IsQ W a3 len3 cap3 := by
    obtain ⟨fuel, hf⟩ := h3
    exact IsQ.of hf
  clear hA0 hval0
  refine (walk a0 a1 len1 cap1 a2 len2 cap2 a3 len3 cap3 W w0 w1 w2 w3).mono fun e W' ⟨he, bel⟩ => ?_
  subst he
  exact ⟨_, rfl, _, _, _, [], _, [], hW', trodAll_mk1 (shut_bool Try.underlying4 _), (trodAll_cons_mk (shut_int Try.underlying3 w0) (trodAll_cons_mk (Below.trod laidOut (by kernel_rfl) (of_decide_eq_true (by kernel_rfl)) k1 bel lt1) (trodAll_cons_mk (Below.trod laidOut (by kernel_rfl) (of_decide_eq_true (by kernel_rfl)) k2 bel lt2) (trodAll_cons_mk (Below.trod laidOut (by kernel_rfl) (of_decide_eq_true (by kernel_rfl)) k3 bel lt3) trodAll_mk0)))), rfl, bel.frame _, fun h => by cases h⟩

theorem over : Rows.diskCrashesRow.holds Try.pinned (OpenSpec.ofChange Rows.diskCrashesSpec) :=
  OpenClaim.holds_of_wide 4 Try.f4 rfl rfl rfl rfl rfl rfl rfl ⟨rfl, rfl, rfl, rfl, rfl⟩ rfl rfl rfl rfl rfl (by kernel_rfl) Try.func4 (by kernel_rfl)
    (of_decide_eq_true (by kernel_rfl)) (by unfold Func.isWrapper; first | (rw [if_pos (by decide +kernel)]; kernel_rfl) | (rw [if_neg (by decide +kernel)]; exact ⟨rfl, rfl⟩))
    (fun os started H enc _ => lifted os started H enc)

/-- the statement. -/
theorem proved : Rows.DiskCrashesSaid := over
#print axioms proved
end Go.Proofs.Ytikajhfaoccicaa.diskCrashes
