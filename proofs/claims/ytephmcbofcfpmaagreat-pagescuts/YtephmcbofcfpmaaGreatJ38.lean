/- The document's transactions: Give, Take, SetRoot. Conditions: none. The document's transactions: Take. Conditions: none. -/
import Derived.Test.YtephmcbofcfpmaaGreatJ37
set_option maxRecDepth 8000
set_option linter.unusedSimpArgs false
set_option linter.unusedVariables false
namespace Go.Proofs.YtephmcbofcfpmaaGreat.Rp
open Go.RowKit Go.Bs Go.Dk

theorem PT.turned {w w' : World} {r t N B M Log : Nat} {L : Nat → List UInt8} {T : TX} {D : Nat → Prop} {lb cap lt capt wb capw : Nat} (h : PT w r t N B M Log L T D lb cap lt capt wb capw) (L' : Nat → List UInt8) (hL : lS w' (sl lt N capt) N L') (hf : Fr (fun k => k = lt) w w') (hd : Dm N B M L') :
    PT w' r t N B M Log L { T with L := L' } D lb cap lt capt wb capw := by
  obtain ⟨a1, a2, a3, a4, a5, a6, a7, a8, a9⟩ := h.apart
  have hk : ∀ k, D k → k ≠ lt → w'.heap[k]? = w.heap[k]? := fun k hd hn => hf.block k (h.blw k hd) hn
  exact ⟨(hk r h.inD.1 a3).trans h.rowP, (hk t h.inD.2.1 a6).trans h.rowT, lS.keep h.lP (hk lb h.inD.2.2.1 h.ne), hL, bS.keep h.bW (hk wb h.inD.2.2.2.2 (Ne.symm a9)), h.ne, h.dP, hd, h.inD, fun k hk => Nat.lt_of_lt_of_le (h.blw k hk) hf.size⟩
theorem PT.atQ {w : World} {r t N B M Log : Nat} {L : Nat → List UInt8} {T : TX} {D : Nat → Prop} {lb cap lt capt wb capw : Nat} (h : PT w r t N B M Log L T D lb cap lt capt wb capw) :
    ∀ n, Calls Tryz.prog 33 #[.pointer (some ⟨t, 0, none⟩)] (w.drewN n) fun e w' => e = .returned (.int .i64 (le32 (T.L M) : Int)) ∧ ∃ k, w' = w.drewN k := fun n => by
  refine (At_any (w.drewN n) r t N B M Log L T D ⟨_, _, _, _, _, _, h.at n⟩).mono ?_
  rintro e w' ⟨rfl, k, rfl⟩
  exact ⟨rfl, drewN2 _ _ _⟩
set_option maxHeartbeats 1000000 in
theorem Give_any (w : World) (r t N B M Log : Nat) (L : Nat → List UInt8) (T : TX) (D : Nat → Prop) (h : PTAt w r t N B M Log L T D) (p : Int) :
    Calls Tryz.prog 22 #[.pointer (some ⟨t, 0, none⟩), .int .i64 p] w fun e w' => e = .returned (.int .i64 (T.give N B M p).2) ∧ PDid D r t N B M Log L (T.give N B M p).1 w w' := by
  have HP := Lib.hid h
  obtain ⟨lb, cap, lt, capt, wb, capw, h⟩ := h
  obtain ⟨d0, d1, d2, _, d4, _⟩ := tc_cells h.rowT
  have d1' : w.cell? ⟨t, 1, none⟩ = some (.slice (some ⟨lt, 0, none⟩) N capt) := d1
  have HU := Lib.hid (h.used p)
  have HA := Lib.hid h.atQ
  have HPT := Lib.hid h
  obtain ⟨R, hR⟩ : ∃ R, le32 (T.L M) = R := ⟨_, rfl⟩
  rw [hR] at HA
  obtain ⟨G, hG⟩ : ∃ G, T.give N B M p = G := ⟨_, rfl⟩
  rw [hG]
  by_cases hdn : T.done = true
  · obtain rfl : G = (T, 1) := by rw [← hG]; unfold TX.give; rw [hdn]; rfl
    rw [hdn] at d4
    clear h d1 d2 hG hR
    go_enter Tryz.func22, Tryz.ntmps22
    go_wp2_with fail
    refine wp_region_quiet_lit ?_ ?_ ?_
    · kernel_rfl
    · kernel_rfl
    repeat (with_reducible refine wpQuiet_step (fun K hK => ?_); go_simp; first | (refine hK _ ?_; clear hK K) | (apply Exists.intro; refine ⟨fun _ => ?_, hK _ ?_⟩; (first | (go_at_call 66; exact HU.out _) | (go_at_call 33; exact HA.out _)); clear hK K))
    refine wpQuiet_nil ?_
    rintro _ ⟨nq, rfl⟩
    go_wp2
    go_ret
    exact ⟨rfl, PDid.still HP.out (below_drewN (Below.refl _ _) _)⟩
  · have hdf : T.done = false := by simpa using hdn
    rw [hdf] at d4
    by_cases hus : usedP N B M T.L p = true
    · rw [hus] at HU
      by_cases hpr : p = (R : Int)
      · obtain rfl : G = (T, 1) := by rw [← hG]; unfold TX.give; rw [hR, if_pos (by simp [hpr])]
        clear h d1 d2 hG hus hR
        subst hpr
        go_enter Tryz.func22, Tryz.ntmps22
        go_wp2_with fail
        refine wp_region_quiet_lit ?_ ?_ ?_
        · kernel_rfl
        · kernel_rfl
        repeat (with_reducible refine wpQuiet_step (fun K hK => ?_); go_simp; first | (refine hK _ ?_; clear hK K) | (apply Exists.intro; refine ⟨fun _ => ?_, hK _ ?_⟩; (first | (go_at_call 66; exact HU.out _) | (go_at_call 33; exact HA.out _)); clear hK K))
        refine wpQuiet_nil ?_
        rintro _ ⟨nq, rfl⟩
        go_wp2
        go_ret
        exact ⟨rfl, PDid.still HP.out (below_drewN (Below.refl _ _) _)⟩
      · obtain ⟨q, rfl, hq1, hq2⟩ := used_nat hus
        obtain rfl : G = ({ T with L := turnP B T.L q }, 0) := by
          rw [← hG]
          unfold TX.give
          rw [hR, if_neg (by simp [hdf, hus, hpr]), Int.toNat_natCast]
        have hlr : lt ≠ r := Ne.symm h.apart.2.2.1
        have hqR : ((q : Int) == (R : Int)) = false := by simpa using hpr
        clear h d1 d2 hG hus hR
        go_enter Tryz.func22, Tryz.ntmps22
        go_wp2_with fail
        refine wp_region_quiet_lit ?_ ?_ ?_
        · kernel_rfl
        · kernel_rfl
        repeat (with_reducible refine wpQuiet_step (fun K hK => ?_); go_simp; first | (refine hK _ ?_; clear hK K) | (apply Exists.intro; refine ⟨fun _ => ?_, hK _ ?_⟩; (first | (go_at_call 66; exact HU.out _) | (go_at_call 33; exact HA.out _)); clear hK K))
        refine wpQuiet_nil ?_
        rintro _ ⟨nq, rfl⟩
        obtain ⟨Y, hY⟩ : ∃ Y, w.drewN nq = Y := ⟨_, rfl⟩
        have hPY : PT Y.drew r t N B M Log L T D lb cap lt capt wb capw := by rw [← hY]; exact (HPT.out.at nq).keepW (Nat.le_refl _) fun _ _ => rfl
        have f0 : Y.cell? ⟨t, 0, none⟩ = some (.pointer (some ⟨r, 0, none⟩)) := (tc_cells hPY.rowT).1
        have f1 : Y.cell? ⟨t, 1, none⟩ = some (.slice (some ⟨lt, 0, none⟩) N capt) := (tc_cells hPY.rowT).2.1
        have HTU := Lib.hid (turn_any Y.drew r N B M Log _ hPY.rowP lt capt T.L hPY.lT hPY.dT hlr q ⟨hq1, hq2⟩)
        have HPY := Lib.hid hPY
        have HFY : Hid (Fr D w Y.drew) := by show Fr D w Y.drew; rw [← hY]; exact (Fr.of (below_drewN (Below.refl _ _) nq)).drew
        rw [hY]
        clear hPY hY d0 d1' d4
        go_wp2_with fail
        go_still_tail 9, mixed
        go_wp2_with fail
        refine HTU.out.mono ?_
        rintro e w2 ⟨⟨v, rfl⟩, hl2, hf2⟩
        have HPT2 := Lib.hid (HPY.out.turned _ hl2 hf2 (HPY.out.dT.turn q hq2))
        have HF2 : Hid (Fr D w w2) := HFY.out.step hf2 fun i e => .inl (by subst e; exact HPY.out.inD.2.2.2.1)
        clear hl2 hf2
        go_wp2
        go_ret
        exact ⟨rfl, D, ⟨lb, cap, lt, capt, wb, capw, HPT2.out⟩, fun _ h => .inl h, HF2.out⟩
    · have husf : usedP N B M T.L p = false := by simpa using hus
      obtain rfl : G = (T, 1) := by rw [← hG]; unfold TX.give; rw [husf, if_pos (by simp)]
      rw [husf] at HU
      clear h d1 d2 hG hus husf hR
      go_enter Tryz.func22, Tryz.ntmps22
      go_wp2_with fail
      refine wp_region_quiet_lit ?_ ?_ ?_
      · kernel_rfl
      · kernel_rfl
      repeat (with_reducible refine wpQuiet_step (fun K hK => ?_); go_simp; first | (refine hK _ ?_; clear hK K) | (apply Exists.intro; refine ⟨fun _ => ?_, hK _ ?_⟩; (first | (go_at_call 66; exact HU.out _) | (go_at_call 33; exact HA.out _)); clear hK K))
      refine wpQuiet_nil ?_
      rintro _ ⟨nq, rfl⟩
      go_wp2
      go_ret
      exact ⟨rfl, PDid.still HP.out (below_drewN (Below.refl _ _) _)⟩
end Go.Proofs.YtephmcbofcfpmaaGreat.Rp

set_option maxRecDepth 8000
set_option linter.unusedSimpArgs false
set_option linter.unusedVariables false
namespace Go.Proofs.YtephmcbofcfpmaaGreat.Rp
open Go.RowKit Go.Bs Go.Dk

theorem PT.isQ {w : World} {r t N B M Log : Nat} {L : Nat → List UInt8} {T : TX} {D : Nat → Prop} {lb cap lt capt wb capw : Nat} (h : PT w r t N B M Log L T D lb cap lt capt wb capw) (p : Int) :
    ∀ n, Calls Tryz.prog 65 #[.pointer (some ⟨r, 0, none⟩), .int .i64 p] (w.drewN n) fun e w' => e = .returned (.bool (decide ((M : Int) < p) && decide (p < (N : Int)))) ∧ ∃ k, w' = w.drewN k := fun n => by
  refine (Is_any (w.drewN n) r N B M Log _ h.rowP p).mono ?_
  rintro e w' ⟨rfl, rfl⟩
  exact ⟨rfl, n, rfl⟩
set_option maxHeartbeats 4000000 in
theorem Take_any (w : World) (r t N B M Log : Nat) (L : Nat → List UInt8) (T : TX) (D : Nat → Prop) (h : PTAt w r t N B M Log L T D) :
    Calls Tryz.prog 20 #[.pointer (some ⟨t, 0, none⟩)] w fun e w' => e = .returned (.tuple #[.int .i64 (T.take N B M).2.1, .int .i64 (T.take N B M).2.2]) ∧ PDid D r t N B M Log L (T.take N B M).1 w w' := by
  have HP := Lib.hid h
  obtain ⟨lb, cap, lt, capt, wb, capw, h⟩ := h
  obtain ⟨d0, d1, _, _, d4, _⟩ := tc_cells h.rowT
  obtain ⟨c0, c1, _⟩ := pc_cells h.rowP
  have d1' : w.cell? ⟨t, 1, none⟩ = some (.slice (some ⟨lt, 0, none⟩) N capt) := d1
  have HPT := Lib.hid h
  have hn1 := h.dT.n1
  have hb1 := h.dT.b1
  have hmn := h.dT.mn
  have hlr : lt ≠ r := Ne.symm h.apart.2.2.1
  obtain ⟨G, hG⟩ : ∃ G, T.take N B M = G := ⟨_, rfl⟩
  rw [hG]
  by_cases hdn : T.done = true
  · obtain rfl : G = (T, 0, 1) := by rw [← hG]; unfold TX.take; rw [if_pos hdn]
    rw [hdn] at d4
    clear h d1 hG hdn
    go_enter Tryz.func20, Tryz.ntmps20
    go_wp2
    go_ret2
    exact ⟨rfl, PDid.still HP.out (Below.refl _ _)⟩
  · have hdf : T.done = false := by simpa using hdn
    rw [hdf] at d4
    unfold TX.take at hG
    rw [if_neg hdn] at hG
    have HG := Lib.hid hG
    clear h d1 hG hdn
    go_enter Tryz.func20, Tryz.ntmps20
    go_wp2
    go_loopw [4] (fun i wr => ∃ k : Nat, k ≤ N ∧ i = .int .i64 k ∧ (∀ j, j < k → freeAt N B M T.L j = false) ∧ ∃ n, wr = w.drewN n) (fun i _ => N - (RowKit.intOf i).toNat)
    case atStart => exact ⟨0, Nat.zero_le _, rfl, fun j hj => absurd hj (by omega), 0, rfl⟩
    case round =>
      obtain ⟨k, hk, rfl, hno, n0, hwr⟩ := hrel
      have hPW : PT wr r t N B M Log L T D lb cap lt capt wb capw := by rw [hwr]; exact HPT.out.at n0
      have HW := Lib.hid hwr
      have HNO := Lib.hid hno
      have HU := Lib.hid (hPW.used (k : Int))
      have HI := Lib.hid (hPW.isQ (k : Int))
      have HPW := Lib.hid hPW
      have e0 : wr.cell? ⟨t, 0, none⟩ = some (.pointer (some ⟨r, 0, none⟩)) := (tc_cells hPW.rowT).1
      have e1 : wr.cell? ⟨t, 1, none⟩ = some (.slice (some ⟨lt, 0, none⟩) N capt) := (tc_cells hPW.rowT).2.1
      have g0 : wr.cell? ⟨r, 0, none⟩ = some (.int .i64 (N : Int)) := (pc_cells hPW.rowP).1
      clear hno hwr hPW d0 d1' d4 c0 c1
      by_cases hlt : k < N
      · by_cases hM : M < k
        · have hib : (decide ((M : Int) < (k : Int)) && decide ((k : Int) < (N : Int))) = true := by simp; omega
          rw [hib] at HI
          cases hus : usedP N B M T.L (k : Int)
          · rw [hus] at HU
            have HFR : Hid (freeAt N B M T.L k = true) := by show freeAt N B M T.L k = true; unfold freeAt; rw [hus]; simp; exact hM
            obtain rfl : G = ({ T with L := Dk.upd (turnP B T.L k) k (zeros B), W := Dk.upd T.W k true }, (k : Int), 0) := by rw [← HG.out, find_some hlt HNO.out HFR.out]
            clear hib hus
            go_wp2_with fail
            refine wp_region_quiet_lit ?_ ?_ ?_
            · kernel_rfl
            · kernel_rfl
            repeat (with_reducible refine wpQuiet_step (fun K hK => ?_); go_simp; first | (refine hK _ ?_; clear hK K) | (apply Exists.intro; refine ⟨fun _ => ?_, hK _ ?_⟩; (first | (go_at_call 66; exact HU.out _) | (go_at_call 65; exact HI.out _)); clear hK K))
            refine wpQuiet_nil ?_
            rintro _ ⟨nq, rfl⟩
            obtain ⟨Y, hY⟩ : ∃ Y, wr.drewN nq = Y := ⟨_, rfl⟩
            have hPY : PT Y.drew r t N B M Log L T D lb cap lt capt wb capw := by rw [← hY]; exact (HPW.out.at nq).keepW (Nat.le_refl _) fun _ _ => rfl
            have f0 : Y.cell? ⟨t, 0, none⟩ = some (.pointer (some ⟨r, 0, none⟩)) := (tc_cells hPY.rowT).1
            have f1 : Y.cell? ⟨t, 1, none⟩ = some (.slice (some ⟨lt, 0, none⟩) N capt) := (tc_cells hPY.rowT).2.1
            have HTU := Lib.hid (turn_any Y.drew r N B M Log _ hPY.rowP lt capt T.L hPY.lT hPY.dT hlr k ⟨hM, hlt⟩)
            have HPY := Lib.hid hPY
            have HFY : Hid (Fr D w Y.drew) := by show Fr D w Y.drew; rw [← hY, HW.out]; exact (Fr.of (below_drewN (below_drewN (Below.refl _ _) n0) nq)).drew
            rw [hY]
            clear hPY hY e0 e1 g0
            go_wp2_with fail
            go_still_tail 9, mixed
            go_wp2_with fail
            refine HTU.out.mono ?_
            rintro e w2 ⟨⟨v, rfl⟩, hl2, hf2⟩
            have hP2 := HPY.out.turned _ hl2 hf2 (HPY.out.dT.turn k hlt)
            have HF2 : Hid (Fr D w w2) := HFY.out.step hf2 fun i e => .inl (by subst e; exact HPY.out.inD.2.2.2.1)
            clear hl2 hf2 f0 f1
            have hmk := make_zeros B (by omega) w2.drew
            obtain ⟨X, hX⟩ : ∃ X, w2.drew.alloc (rowObj 5 (zeros B)) = X := ⟨_, rfl⟩
            have hbX : Below w2.heap.size w2 X := by rw [← hX]; exact (Below.refl _ w2).drew.alloc (Nat.le_refl _) _
            have hPX : PT X r t N B M Log L { T with L := turnP B T.L k } D lb cap lt capt wb capw := hP2.keepW hbX.size fun i hi => hbX.block i (hP2.blw i hi)
            obtain ⟨z, hz⟩ : ∃ z, w2.drew.heap.size = z := ⟨_, rfl⟩
            have hst := string_rd X (some ⟨z, 0, none⟩) B B (zeros B) (by rw [← hX, ← hz]; exact (Blk.new w2.drew 5 (zeros B)).all' B B (zeros_length B) (Nat.le_refl _))
            rw [hX, hz] at hmk
            obtain ⟨zs, hzs⟩ : ∃ zs, zeros B = zs := ⟨_, rfl⟩
            have HZS := Lib.hid hzs
            rw [hzs] at hst
            obtain ⟨_, _, e, _, _, hcX, hfX⟩ := lS.form hPX.lT (by omega)
            cases e
            have x2 := hcX k hlt
            have x3 := hfX k
            have hSY : w2.drew.cell? ⟨t, 0, none⟩ = some (.pointer (some ⟨r, 0, none⟩)) ∧ w2.drew.cell? ⟨t, 1, none⟩ = some (.slice (some ⟨lt, 0, none⟩) N capt) ∧ w2.drew.cell? ⟨r, 1, none⟩ = some (.int .i64 (B : Int)) := ⟨(tc_cells hP2.rowT).1, (tc_cells hP2.rowT).2.1, (pc_cells hP2.rowP).2.1⟩
            have hSX : X.cell? ⟨t, 0, none⟩ = some (.pointer (some ⟨r, 0, none⟩)) ∧ X.cell? ⟨t, 1, none⟩ = some (.slice (some ⟨lt, 0, none⟩) N capt) ∧ X.cell? ⟨r, 1, none⟩ = some (.int .i64 (B : Int)) := ⟨(tc_cells hPX.rowT).1, (tc_cells hPX.rowT).2.1, (pc_cells hPX.rowP).2.1⟩
            obtain ⟨Z, hZ⟩ : ∃ Z, X.setCell ⟨lt, k, none⟩ (.string ⟨zs.toArray⟩) = Z := ⟨_, rfl⟩
            have hPZ : PT Z r t N B M Log L { T with L := Dk.upd (turnP B T.L k) k zs } D lb cap lt capt wb capw := by rw [← hZ]; exact hPX.setL k hlt zs (by rw [← hzs]; exact zeros_length B)
            have hSZ : Z.cell? ⟨t, 0, none⟩ = some (.pointer (some ⟨r, 0, none⟩)) ∧ Z.cell? ⟨t, 1, none⟩ = some (.slice (some ⟨lt, 0, none⟩) N capt) ∧ Z.cell? ⟨r, 1, none⟩ = some (.int .i64 (B : Int)) := ⟨(tc_cells hPZ.rowT).1, (tc_cells hPZ.rowT).2.1, (pc_cells hPZ.rowP).2.1⟩
            have z2 : Z.cell? ⟨t, 2, none⟩ = some (.slice (some ⟨wb, 0, none⟩) N capw) := (tc_cells hPZ.rowT).2.2.1
            obtain ⟨_, _, e, _, _, hwc, hwf⟩ := bS.form hPZ.bW (by omega)
            cases e
            have z3 := hwc k hlt
            have z4 := hwf k
            have HPZ := Lib.hid hPZ
            have HFZ : Hid (Fr D w Z) := by show Fr D w Z; rw [← hZ]; exact (HF2.out.trans (Fr.of hbX)).setCell (.inl HPZ.out.inD.2.2.2.1) _
            clear hPX hPZ hP2 hbX hX hz hzs hcX hfX hwc hwf
            go_wp2_with fail
            refine wp_region_held_drew (S := fun W => W.cell? ⟨t, 0, none⟩ = some (.pointer (some ⟨r, 0, none⟩)) ∧ W.cell? ⟨t, 1, none⟩ = some (.slice (some ⟨lt, 0, none⟩) N capt) ∧ W.cell? ⟨r, 1, none⟩ = some (.int .i64 (B : Int))) (by kernel_rfl) (hSY) (fun hHeld => ?_)
            refine wpAnyH_take (i := 0) (oi := { dst := some 49, op := Go.Op.move (Go.Operand.tmp 0), type := 37, pos := "ref.go:133", after := #[], guard := none }) (v := ?v0) rfl (by kernel_rfl) (by kernel_rfl) (by kernel_rfl) (fun _ _ _ h => h) (Or.inl ⟨by rfl, ?hy0⟩) hHeld ?_
            case hy0 => (intro w hSw; (try dsimp only at hSw); go_simp; first | done | with_reducible rfl)
            try simp only [Act.put, List.setIfInBounds_toArray, List.set_cons_zero, List.set_cons_succ]
            refine wpAnyH_take (i := 1) (oi := { dst := some 50, op := Go.Op.nilCheck (Go.Operand.tmp 49), type := 0, pos := "ref.go:133", after := #[{ on := 0, ground := Go.Ground.data }], guard := none }) (v := ?v1) rfl (by kernel_rfl) (by kernel_rfl) (by kernel_rfl) (fun _ _ _ h => h) (Or.inl ⟨by rfl, ?hy1⟩) hHeld ?_
            case hy1 => (intro w hSw; (try dsimp only at hSw); go_simp; first | done | with_reducible rfl)
            try simp only [Act.put, List.setIfInBounds_toArray, List.set_cons_zero, List.set_cons_succ]
            refine wpAnyH_take (i := 2) (oi := { dst := some 51, op := Go.Op.fieldAddr 56 (Go.Operand.tmp 50) 1, type := 0, pos := "ref.go:133", after := #[{ on := 1, ground := Go.Ground.data }], guard := none }) (v := ?v2) rfl (by kernel_rfl) (by kernel_rfl) (by kernel_rfl) (fun _ _ _ h => h) (Or.inl ⟨by rfl, ?hy2⟩) hHeld ?_
            case hy2 => (intro w hSw; (try dsimp only at hSw); go_simp; first | done | with_reducible rfl)
            try simp only [Act.put, List.setIfInBounds_toArray, List.set_cons_zero, List.set_cons_succ]
            refine wpAnyH_take (i := 3) (oi := { dst := some 52, op := Go.Op.load 54 (Go.Operand.tmp 51), type := 54, pos := "ref.go:133", after := #[{ on := 2, ground := Go.Ground.data }], guard := none }) (v := ?v3) rfl (by kernel_rfl) (by kernel_rfl) (by kernel_rfl) (fun _ _ _ h => h) (Or.inl ⟨by rfl, ?hy3⟩) hHeld ?_
            case hy3 => (intro w hSw; (try dsimp only at hSw); go_simp; first | done | with_reducible rfl)
            try simp only [Act.put, List.setIfInBounds_toArray, List.set_cons_zero, List.set_cons_succ]
            refine wpAnyH_take (i := 4) (oi := { dst := some 53, op := Go.Op.move (Go.Operand.tmp 4), type := 3, pos := "ref.go:133", after := #[], guard := none }) (v := ?v4) rfl (by kernel_rfl) (by kernel_rfl) (by kernel_rfl) (fun _ _ _ h => h) (Or.inl ⟨by rfl, ?hy4⟩) hHeld ?_
            case hy4 => (intro w hSw; (try dsimp only at hSw); go_simp; first | done | with_reducible rfl)
            try simp only [Act.put, List.setIfInBounds_toArray, List.set_cons_zero, List.set_cons_succ]
            refine wpAnyH_take (i := 5) (oi := { dst := some 54, op := Go.Op.move (Go.Operand.tmp 0), type := 37, pos := "ref.go:133", after := #[], guard := none }) (v := ?v5) rfl (by kernel_rfl) (by kernel_rfl) (by kernel_rfl) (fun _ _ _ h => h) (Or.inl ⟨by rfl, ?hy5⟩) hHeld ?_
            case hy5 => (intro w hSw; (try dsimp only at hSw); go_simp; first | done | with_reducible rfl)
            try simp only [Act.put, List.setIfInBounds_toArray, List.set_cons_zero, List.set_cons_succ]
            refine wpAnyH_take (i := 6) (oi := { dst := some 55, op := Go.Op.nilCheck (Go.Operand.tmp 54), type := 0, pos := "ref.go:133", after := #[{ on := 5, ground := Go.Ground.data }], guard := none }) (v := ?v6) rfl (by kernel_rfl) (by kernel_rfl) (by kernel_rfl) (fun _ _ _ h => h) (Or.inl ⟨by rfl, ?hy6⟩) hHeld ?_
            case hy6 => (intro w hSw; (try dsimp only at hSw); go_simp; first | done | with_reducible rfl)
            try simp only [Act.put, List.setIfInBounds_toArray, List.set_cons_zero, List.set_cons_succ]
            refine wpAnyH_take (i := 7) (oi := { dst := some 56, op := Go.Op.fieldAddr 56 (Go.Operand.tmp 55) 0, type := 0, pos := "ref.go:133", after := #[{ on := 6, ground := Go.Ground.data }], guard := none }) (v := ?v7) rfl (by kernel_rfl) (by kernel_rfl) (by kernel_rfl) (fun _ _ _ h => h) (Or.inl ⟨by rfl, ?hy7⟩) hHeld ?_
            case hy7 => (intro w hSw; (try dsimp only at hSw); go_simp; first | done | with_reducible rfl)
            try simp only [Act.put, List.setIfInBounds_toArray, List.set_cons_zero, List.set_cons_succ]
            refine wpAnyH_take (i := 8) (oi := { dst := some 57, op := Go.Op.load 31 (Go.Operand.tmp 56), type := 31, pos := "ref.go:133", after := #[{ on := 7, ground := Go.Ground.data }], guard := none }) (v := ?v8) rfl (by kernel_rfl) (by kernel_rfl) (by kernel_rfl) (fun _ _ _ h => h) (Or.inl ⟨by rfl, ?hy8⟩) hHeld ?_
            case hy8 => (intro w hSw; (try dsimp only at hSw); go_simp; first | done | with_reducible rfl)
            try simp only [Act.put, List.setIfInBounds_toArray, List.set_cons_zero, List.set_cons_succ]
            refine wpAnyH_take (i := 9) (oi := { dst := some 58, op := Go.Op.nilCheck (Go.Operand.tmp 57), type := 0, pos := "ref.go:133", after := #[{ on := 8, ground := Go.Ground.data }], guard := none }) (v := ?v9) rfl (by kernel_rfl) (by kernel_rfl) (by kernel_rfl) (fun _ _ _ h => h) (Or.inl ⟨by rfl, ?hy9⟩) hHeld ?_
            case hy9 => (intro w hSw; (try dsimp only at hSw); go_simp; first | done | with_reducible rfl)
            try simp only [Act.put, List.setIfInBounds_toArray, List.set_cons_zero, List.set_cons_succ]
            refine wpAnyH_take (i := 10) (oi := { dst := some 59, op := Go.Op.fieldAddr 59 (Go.Operand.tmp 58) 1, type := 0, pos := "ref.go:133", after := #[{ on := 9, ground := Go.Ground.data }], guard := none }) (v := ?v10) rfl (by kernel_rfl) (by kernel_rfl) (by kernel_rfl) (fun _ _ _ h => h) (Or.inl ⟨by rfl, ?hy10⟩) hHeld ?_
            case hy10 => (intro w hSw; (try dsimp only at hSw); go_simp; first | done | with_reducible rfl)
            try simp only [Act.put, List.setIfInBounds_toArray, List.set_cons_zero, List.set_cons_succ]
            refine wpAnyH_take (i := 11) (oi := { dst := some 60, op := Go.Op.load 3 (Go.Operand.tmp 59), type := 3, pos := "ref.go:133", after := #[{ on := 10, ground := Go.Ground.data }], guard := none }) (v := ?v11) rfl (by kernel_rfl) (by kernel_rfl) (by kernel_rfl) (fun _ _ _ h => h) (Or.inl ⟨by rfl, ?hy11⟩) hHeld ?_
            case hy11 => (intro w hSw; (try dsimp only at hSw); go_simp; first | done | with_reducible rfl)
            try simp only [Act.put, List.setIfInBounds_toArray, List.set_cons_zero, List.set_cons_succ]
            refine wpAnyH_ready (rs := [12]) (by kernel_rfl) (by simp) ?_
            refine AllReadyH.cons (o := { dst := some 61, op := Go.Op.makeSlice 39 (Go.Operand.tmp 60) (Go.Operand.tmp 60), type := 39, pos := "ref.go:133", after := #[{ on := 11, ground := Go.Ground.data }, { on := 11, ground := Go.Ground.data }], guard := none }) rfl (fun K hK => ?_) AllReadyH.nil
            go_simp
            refine hK.out _ _ (hSX) (fun hHeld => ?_)
            clear hK K
            try simp only [Act.put, List.setIfInBounds_toArray, List.set_cons_zero, List.set_cons_succ]
            refine wpAnyH_ready (rs := [13]) (by kernel_rfl) (by simp) ?_
            refine AllReadyH.cons (o := { dst := some 62, op := Go.Op.convert 39 9 (Go.Operand.tmp 61), type := 9, pos := "ref.go:133", after := #[{ on := 12, ground := Go.Ground.data }], guard := none }) rfl (fun K hK => ?_) AllReadyH.nil
            go_simp
            refine hK.out _ _ (hSX) (fun hHeld => ?_)
            clear hK K
            try simp only [Act.put, List.setIfInBounds_toArray, List.set_cons_zero, List.set_cons_succ]
            refine wpAnyH_take (i := 14) (oi := { dst := some 63, op := Go.Op.indexAddr 54 (Go.Operand.tmp 52) (Go.Operand.tmp 53), type := 0, pos := "ref.go:133", after := #[{ on := 3, ground := Go.Ground.data }, { on := 4, ground := Go.Ground.data }, { on := 0, ground := Go.Ground.phase }, { on := 1, ground := Go.Ground.phase }, { on := 2, ground := Go.Ground.phase }, { on := 3, ground := Go.Ground.phase }, { on := 4, ground := Go.Ground.phase }, { on := 5, ground := Go.Ground.phase }, { on := 6, ground := Go.Ground.phase }, { on := 7, ground := Go.Ground.phase }, { on := 8, ground := Go.Ground.phase }, { on := 9, ground := Go.Ground.phase }, { on := 10, ground := Go.Ground.phase }, { on := 11, ground := Go.Ground.phase }, { on := 12, ground := Go.Ground.phase }, { on := 13, ground := Go.Ground.phase }], guard := none }) (v := ?v14) rfl (by kernel_rfl) (by kernel_rfl) (by kernel_rfl) (fun _ _ _ h => h) (Or.inl ⟨by rfl, ?hy14⟩) hHeld ?_
            case hy14 => (intro w hSw; (try dsimp only at hSw); go_simp; first | done | with_reducible rfl)
            try simp only [Act.put, List.setIfInBounds_toArray, List.set_cons_zero, List.set_cons_succ]
            refine wpAnyH_ready (rs := [15]) (by kernel_rfl) (by simp) ?_
            refine AllReadyH.cons (o := { dst := none, op := Go.Op.store 9 (Go.Operand.tmp 63) (Go.Operand.tmp 62), type := 0, pos := "ref.go:133", after := #[{ on := 14, ground := Go.Ground.data }, { on := 13, ground := Go.Ground.data }, { on := 0, ground := Go.Ground.phase }, { on := 1, ground := Go.Ground.phase }, { on := 2, ground := Go.Ground.phase }, { on := 3, ground := Go.Ground.phase }, { on := 4, ground := Go.Ground.phase }, { on := 5, ground := Go.Ground.phase }, { on := 6, ground := Go.Ground.phase }, { on := 7, ground := Go.Ground.phase }, { on := 8, ground := Go.Ground.phase }, { on := 9, ground := Go.Ground.phase }, { on := 10, ground := Go.Ground.phase }, { on := 11, ground := Go.Ground.phase }, { on := 12, ground := Go.Ground.phase }, { on := 13, ground := Go.Ground.phase }], guard := none }) rfl (fun K hK => ?_) AllReadyH.nil
            go_simp
            refine hK.out _ _ (hSZ) (fun hHeld => ?_)
            clear hK K
            try simp only [Act.put, List.setIfInBounds_toArray, List.set_cons_zero, List.set_cons_succ]
            refine wpAnyH_done (by kernel_rfl) ?_ _
            go_wp2
            go_ret2
            refine ⟨rfl, D, ⟨lb, cap, lt, capt, wb, capw, ?_⟩, fun _ h => .inl h, HFZ.out.setCell (.inl HPZ.out.inD.2.2.2.2) _⟩
            rw [HZS.out, show false = T.done from hdf.symm]
            exact HPZ.out.setW k hlt true
          · rw [hus] at HU
            have HFR : Hid (freeAt N B M T.L k = false) := by show freeAt N B M T.L k = false; unfold freeAt; rw [hus]; simp
            clear hib hus
            go_wp2_with fail
            refine wp_region_quiet_lit ?_ ?_ ?_
            · kernel_rfl
            · kernel_rfl
            repeat (with_reducible refine wpQuiet_step (fun K hK => ?_); go_simp; first | (refine hK _ ?_; clear hK K) | (apply Exists.intro; refine ⟨fun _ => ?_, hK _ ?_⟩; (first | (go_at_call 66; exact HU.out _) | (go_at_call 65; exact HI.out _)); clear hK K))
            refine wpQuiet_nil ?_
            rintro _ ⟨nq, rfl⟩
            go_wp2
            go_roundw
            case rel =>
              refine ⟨k + 1, by omega, by go_num, fun j hj => ?_, n0 + nq, by rw [HW.out, World.drewN_drewN]⟩
              rcases Nat.lt_or_ge j k with h | h
              · exact HNO.out j h
              · obtain rfl : j = k := by omega
                exact HFR.out
            case measure => simp [RowKit.intOf]; omega
        · have hib : (decide ((M : Int) < (k : Int)) && decide ((k : Int) < (N : Int))) = false := by simp; omega
          rw [hib] at HI
          have HFR : Hid (freeAt N B M T.L k = false) := by show freeAt N B M T.L k = false; unfold freeAt; simp; omega
          clear hib
          go_wp2_with fail
          refine wp_region_quiet_lit ?_ ?_ ?_
          · kernel_rfl
          · kernel_rfl
          repeat (with_reducible refine wpQuiet_step (fun K hK => ?_); go_simp; first | (refine hK _ ?_; clear hK K) | (apply Exists.intro; refine ⟨fun _ => ?_, hK _ ?_⟩; (first | (go_at_call 66; exact HU.out _) | (go_at_call 65; exact HI.out _)); clear hK K))
          refine wpQuiet_nil ?_
          rintro _ ⟨nq, rfl⟩
          go_wp2
          go_roundw
          case rel =>
            refine ⟨k + 1, by omega, by go_num, fun j hj => ?_, n0 + nq, by rw [HW.out, World.drewN_drewN]⟩
            rcases Nat.lt_or_ge j k with h | h
            · exact HNO.out j h
            · obtain rfl : j = k := by omega
              exact HFR.out
          case measure => simp [RowKit.intOf]; omega
      · obtain rfl : k = N := by omega
        obtain rfl : G = (T, 0, 6) := by rw [← HG.out, find_none HNO.out]
        go_wp2
        go_ret2
        exact ⟨rfl, PDid.still HP.out (by rw [HW.out]; exact below_drewN (Below.refl _ _) _)⟩
end Go.Proofs.YtephmcbofcfpmaaGreat.Rp

