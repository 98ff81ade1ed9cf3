/- The document's transactions: Changes. Conditions: none. The document's transactions: Commit. Conditions: none. -/
import Derived.Test.YtephmcbofcfpmaaGreatJ40
set_option maxRecDepth 8000
set_option linter.unusedSimpArgs false
set_option linter.unusedVariables false
namespace Go.Proofs.YtephmcbofcfpmaaGreat.Rp
open Go.RowKit Go.Bs Go.Dk

theorem sneq {a b : ByteArray} (h : ¬ a = b) : (a.toList == b.toList) = false := by
  rw [← beq_toListBytes]
  cases e : (a == b)
  · rfl
  · refine absurd ?_ h
    rw [beq_toListBytes, ByteArray.toList_eq, ByteArray.toList_eq] at e
    have := eq_of_beq e
    obtain ⟨⟨x⟩⟩ := a
    obtain ⟨⟨y⟩⟩ := b
    simp at this
    rw [this]
set_option maxRecDepth 100000 in
set_option maxHeartbeats 4000000 in
theorem Changes_any (w : World) (r t N B M Log : Nat) (L : Nat → List UInt8) (T : TX) (D : Nat → Prop) (h : PTAt w r t N B M Log L T D) :
    Calls Tryz.prog 75 #[.pointer (some ⟨t, 0, none⟩)] w fun e w' => ∃ ob c, e = .returned (.tuple #[.int .i64 (chgN N B M L T N : Int), sl ob N c]) ∧ lS w' (sl ob N c) N (outK N B M L T N) ∧ w.heap.size ≤ ob ∧ Below w.heap.size w w' := by
  obtain ⟨lb, cap, lt, capt, wb, capw, h⟩ := h
  have HPT := Lib.hid h
  have hn1 := h.dT.n1
  have hmn := h.dT.mn
  obtain ⟨d0, _⟩ := tc_cells h.rowT
  have c4 : w.cell? ⟨r, 4, none⟩ = some (.slice (some ⟨lb, 0, none⟩) N cap) := (pc_cells h.rowP).2.2.2.2.1
  obtain ⟨ob, c, w1, hrun, hl1, hob, hb1⟩ := app_texts w lb N cap L h.lP (by omega) hn1
  have hrun' : (Builtin.append_ #[54, 54] 54 #[.slice none 0 0, .slice (some ⟨lb, 0, none⟩) N cap]).run Tryz.prog w = .ok (.slice (some ⟨ob, 0, none⟩) N c) w1 := hrun
  have HRUN := Lib.hid hrun'
  have HL1 := Lib.hid hl1
  have HB1 := Lib.hid hb1
  obtain ⟨base, hbase⟩ : ∃ base, w.heap.size = base := ⟨_, rfl⟩
  have HBA := Lib.hid hbase
  obtain ⟨CN, hCN⟩ : ∃ CN, chgN N B M L T N = CN := ⟨_, rfl⟩
  obtain ⟨CL, hCL⟩ : ∃ CL, outK N B M L T N = CL := ⟨_, rfl⟩
  have HCN := Lib.hid hCN
  have HCL := Lib.hid hCL
  rw [hCN, hCL, hbase]
  rw [hbase] at hob HB1
  clear h hrun hrun' hl1 hb1 hCN hCL hbase
  go_enter Tryz.func75, Tryz.ntmps75
  go_wp2_with (at_builtin; refine wpList_run_appT _ rfl (.tmp 8) (.tmp 15) 54 rfl _ _ _ _ rfl rfl HRUN.out ?_)
  clear d0 c4
  go_loopw [6, 4] (fun i v wr => ∃ k : Nat, k ≤ N ∧ i = .int .i64 k ∧ v = .int .i64 (chgN N B M L T k : Int) ∧ lS wr (sl ob N c) N (outK N B M L T k) ∧ Below base w wr) (fun i _ _ => N - (RowKit.intOf i).toNat)
  case atStart => exact ⟨0, Nat.zero_le _, rfl, rfl, lS.congr HL1.out (fun k _ => by unfold outK; simp), HB1.out⟩
  case round =>
    obtain ⟨k, hk, rfl, rfl, hlk, hbk⟩ := hrel
    have hDb : ∀ i, D i → i < base := fun i hi => by have := HPT.out.blw i hi; rw [HBA.out] at this; exact this
    have hPW : PT wr r t N B M Log L T D lb cap lt capt wb capw := HPT.out.keepW hbk.size fun i hi => hbk.block i (hDb i hi)
    have hsu := chgN_succ N B M L T k
    have hfl := chgN_le N B M L T k
    obtain ⟨f, hf⟩ : ∃ f, chgN N B M L T k = f := ⟨_, rfl⟩
    rw [hf] at hsu hfl
    rw [hf]
    have HFF := Lib.hid hf
    have HPW := Lib.hid hPW
    have HLK := Lib.hid hlk
    have HBK := Lib.hid hbk
    have e0 : wr.cell? ⟨t, 0, none⟩ = some (.pointer (some ⟨r, 0, none⟩)) := (tc_cells hPW.rowT).1
    have e1 : wr.cell? ⟨t, 1, none⟩ = some (.slice (some ⟨lt, 0, none⟩) N capt) := (tc_cells hPW.rowT).2.1
    have e2 : wr.cell? ⟨t, 2, none⟩ = some (.slice (some ⟨wb, 0, none⟩) N capw) := (tc_cells hPW.rowT).2.2.1
    have e3 : wr.cell? ⟨t, 3, none⟩ = some (.bool T.root) := (tc_cells hPW.rowT).2.2.2.1
    have g0 : wr.cell? ⟨r, 0, none⟩ = some (.int .i64 (N : Int)) := (pc_cells hPW.rowP).1
    have g2 : wr.cell? ⟨r, 2, none⟩ = some (.int .i64 (M : Int)) := (pc_cells hPW.rowP).2.2.1
    have g4 : wr.cell? ⟨r, 4, none⟩ = some (.slice (some ⟨lb, 0, none⟩) N cap) := (pc_cells hPW.rowP).2.2.2.2.1
    have HU := Lib.hid (hPW.used (k : Int))
    by_cases hlt : k < N
    · obtain ⟨_, _, e, _, _, hcT, _⟩ := lS.form hPW.lT (by omega)
      cases e
      obtain ⟨_, _, e, _, _, hcL, _⟩ := lS.form hPW.lP (by omega)
      cases e
      obtain ⟨_, _, e, _, _, hcW, _⟩ := bS.form hPW.bW (by omega)
      cases e
      obtain ⟨sa, hsa⟩ : ∃ s, (⟨(T.L k).toArray⟩ : ByteArray) = s := ⟨_, rfl⟩
      obtain ⟨sb, hsb⟩ : ∃ s, (⟨(L k).toArray⟩ : ByteArray) = s := ⟨_, rfl⟩
      have i0 := hcT k hlt
      have i1 := hcL k hlt
      have i2 := hcW k hlt
      rw [hsa] at i0
      rw [hsb] at i1
      clear hcT hcL hcW hlk hbk hPW hDb hf
      have HSA := Lib.hid hsa
      have hab : (T.L k = L k) ↔ sa = sb := by
        rw [← hsa, ← hsb]
        constructor
        · intro e; rw [e]
        · intro e
          have := congrArg (fun s : ByteArray => s.data.toList) e
          simpa using this
      clear hsa hsb
      rcases Nat.lt_trichotomy k M with hM | hM | hM
      · have hus : usedP N B M T.L (k : Int) = false := by unfold usedP; simp; omega
        have hkd : decide ((k : Int) < (M : Int)) = true := by simp; omega
        by_cases hs : sa = sb
        · have hne : T.L k = L k := hab.2 hs
          have HCH : Hid (chgAt N B M L T k = false) := by
            show chgAt N B M L T k = false
            unfold chgAt chg1
            rw [hus]; simp [hne]; omega
          rw [HCH.out] at hsu
          simp only [if_true, if_false, Bool.false_eq_true] at hsu
          have HS := Lib.hid hsu
          clear hsu
          subst hs
          have hkM : ¬ (k : Int) = (M : Int) := by omega
          have hkM2 : ((k : Int) == (M : Int)) = false := by simp; omega
          clear hab
          go_wp2_with fail
          refine wp_region_quiet_lit ?_ ?_ ?_
          · kernel_rfl
          · kernel_rfl
          repeat (first | (with_reducible refine wpQuiet_step (fun K hK => ?_); go_simp; first | (refine hK _ ?_; clear hK K) | (apply Exists.intro; refine ⟨fun _ => ?_, hK _ ?_⟩; (go_at_call 66; exact HU.out _); clear hK K)) | ((with_reducible refine wpQuiet_skip ?hwq ?_); (case hwq => rfl); simp only [Act.put, List.setIfInBounds_toArray, List.set_cons_zero, List.set_cons_succ]))
          with_reducible refine wpQuiet_nil ?_
          rintro _ ⟨nq, rfl⟩
          obtain ⟨Y, hY⟩ : ∃ Y, wr.drewN nq = Y := ⟨_, rfl⟩
          have hPY : PT Y r t N B M Log L T D lb cap lt capt wb capw := by rw [← hY]; exact HPW.out.at nq
          have p0 : Y.cell? ⟨t, 0, none⟩ = some (.pointer (some ⟨r, 0, none⟩)) := (tc_cells hPY.rowT).1
          have p1 : Y.cell? ⟨t, 1, none⟩ = some (.slice (some ⟨lt, 0, none⟩) N capt) := (tc_cells hPY.rowT).2.1
          have p2 : Y.cell? ⟨t, 2, none⟩ = some (.slice (some ⟨wb, 0, none⟩) N capw) := (tc_cells hPY.rowT).2.2.1
          have p3 : Y.cell? ⟨t, 3, none⟩ = some (.bool T.root) := (tc_cells hPY.rowT).2.2.2.1
          have p4 : Y.cell? ⟨r, 2, none⟩ = some (.int .i64 (M : Int)) := (pc_cells hPY.rowP).2.2.1
          have p5 : Y.cell? ⟨lt, k, none⟩ = some (.string sa) := by rw [← hY]; exact i0
          have p6 : Y.cell? ⟨wb, k, none⟩ = some (.bool (T.W k)) := by rw [← hY]; exact i2
          have HU := Lib.hid (hPY.used (k : Int))
          have HPY := Lib.hid hPY
          have HLY : Hid (lS Y (sl ob N c) N (outK N B M L T k)) := by show lS _ _ _ _; rw [← hY]; exact HLK.out.keep rfl
          have HBY : Hid (Below base w Y) := by show Below _ _ _; rw [← hY]; exact below_drewN HBK.out _
          rw [hY]
          clear hPY hY e0 e1 e2 e3 g0 g2 g4 i0 i1 i2
          rw [hus] at HU
          go_wp2_with fail
          refine wp_region_quiet_lit ?_ ?_ ?_
          · kernel_rfl
          · kernel_rfl
          repeat (first | (with_reducible refine wpQuiet_step (fun K hK => ?_); go_simp; first | (refine hK _ ?_; clear hK K) | (apply Exists.intro; refine ⟨fun _ => ?_, hK _ ?_⟩; (go_at_call 66; exact HU.out _); clear hK K)) | ((with_reducible refine wpQuiet_skip ?hwq ?_); (case hwq => rfl); simp only [Act.put, List.setIfInBounds_toArray, List.set_cons_zero, List.set_cons_succ]))
          with_reducible refine wpQuiet_nil ?_
          rintro _ ⟨nq, rfl⟩
          have HLZ : Hid (lS (Y.drewN nq) (sl ob N c) N (outK N B M L T (k + 1))) := by show lS _ _ _ _; rw [outK_no HCH.out]; exact HLY.out.keep rfl
          have HBZ := Lib.hid (below_drewN HBY.out nq)
          go_wp2
          go_roundw
          case rel => exact ⟨k + 1, by omega, by go_num, by rw [HS.out]; go_num, HLZ.out, HBZ.out⟩
          case measure => simp [RowKit.intOf]; omega
        · have hne : ¬ T.L k = L k := fun e => hs (hab.1 e)
          have HCH : Hid (chgAt N B M L T k = true) := by
            show chgAt N B M L T k = true
            unfold chgAt chg1
            simp [hne]; omega
          rw [HCH.out] at hsu
          simp only [if_true, if_false, Bool.false_eq_true] at hsu
          have HS := Lib.hid hsu
          clear hsu
          have hs2 := sneq hs
          clear hab
          go_wp2_with fail
          refine wp_region_quiet_lit ?_ ?_ ?_
          · kernel_rfl
          · kernel_rfl
          repeat (first | (with_reducible refine wpQuiet_step (fun K hK => ?_); go_simp; first | (refine hK _ ?_; clear hK K) | (apply Exists.intro; refine ⟨fun _ => ?_, hK _ ?_⟩; (go_at_call 66; exact HU.out _); clear hK K)) | ((with_reducible refine wpQuiet_skip ?hwq ?_); (case hwq => rfl); simp only [Act.put, List.setIfInBounds_toArray, List.set_cons_zero, List.set_cons_succ]))
          with_reducible refine wpQuiet_nil ?_
          rintro _ ⟨nq, rfl⟩
          obtain ⟨Y, hY⟩ : ∃ Y, wr.drewN nq = Y := ⟨_, rfl⟩
          have hPY : PT Y r t N B M Log L T D lb cap lt capt wb capw := by rw [← hY]; exact HPW.out.at nq
          have p0 : Y.cell? ⟨t, 0, none⟩ = some (.pointer (some ⟨r, 0, none⟩)) := (tc_cells hPY.rowT).1
          have p1 : Y.cell? ⟨t, 1, none⟩ = some (.slice (some ⟨lt, 0, none⟩) N capt) := (tc_cells hPY.rowT).2.1
          have p2 : Y.cell? ⟨t, 2, none⟩ = some (.slice (some ⟨wb, 0, none⟩) N capw) := (tc_cells hPY.rowT).2.2.1
          have p3 : Y.cell? ⟨t, 3, none⟩ = some (.bool T.root) := (tc_cells hPY.rowT).2.2.2.1
          have p4 : Y.cell? ⟨r, 2, none⟩ = some (.int .i64 (M : Int)) := (pc_cells hPY.rowP).2.2.1
          have p5 : Y.cell? ⟨lt, k, none⟩ = some (.string sa) := by rw [← hY]; exact i0
          have p6 : Y.cell? ⟨wb, k, none⟩ = some (.bool (T.W k)) := by rw [← hY]; exact i2
          have HU := Lib.hid (hPY.used (k : Int))
          have HPY := Lib.hid hPY
          have HLY : Hid (lS Y (sl ob N c) N (outK N B M L T k)) := by show lS _ _ _ _; rw [← hY]; exact HLK.out.keep rfl
          have HBY : Hid (Below base w Y) := by show Below _ _ _; rw [← hY]; exact below_drewN HBK.out _
          rw [hY]
          clear hPY hY e0 e1 e2 e3 g0 g2 g4 i0 i1 i2
          rw [hus] at HU
          go_wp2_with fail
          refine wp_region_quiet_lit ?_ ?_ ?_
          · kernel_rfl
          · kernel_rfl
          repeat (first | (with_reducible refine wpQuiet_step (fun K hK => ?_); go_simp; first | (refine hK _ ?_; clear hK K) | (apply Exists.intro; refine ⟨fun _ => ?_, hK _ ?_⟩; (go_at_call 66; exact HU.out _); clear hK K)) | ((with_reducible refine wpQuiet_skip ?hwq ?_); (case hwq => rfl); simp only [Act.put, List.setIfInBounds_toArray, List.set_cons_zero, List.set_cons_succ]))
          with_reducible refine wpQuiet_nil ?_
          rintro _ ⟨nq, rfl⟩
          obtain ⟨Z, hZ⟩ : ∃ Z, Y.drewN nq = Z := ⟨_, rfl⟩
          have hPZ : PT Z r t N B M Log L T D lb cap lt capt wb capw := by rw [← hZ]; exact HPY.out.at nq
          have q1 : Z.cell? ⟨t, 1, none⟩ = some (.slice (some ⟨lt, 0, none⟩) N capt) := (tc_cells hPZ.rowT).2.1
          have q5 : Z.cell? ⟨lt, k, none⟩ = some (.string sa) := by rw [← hZ]; exact p5
          have hLZ : lS Z (sl ob N c) N (outK N B M L T k) := by rw [← hZ]; exact HLY.out.keep rfl
          obtain ⟨_, _, e, _, _, hcO, hfO⟩ := lS.form hLZ (by omega)
          cases e
          have q6 := hcO k hlt
          have q7 := hfO k
          have HLZ : Hid (lS (Z.setCell ⟨ob, k, none⟩ (.string sa)) (sl ob N c) N (outK N B M L T (k + 1))) := by
            show lS _ _ _ _
            rw [outK_yes HCH.out, ← HSA.out]
            exact hLZ.set k hlt _
          have HBZ : Hid (Below base w (Z.setCell ⟨ob, k, none⟩ (.string sa))) := by
            show Below _ _ _
            rw [← hZ]
            exact (below_drewN HBY.out _).setCell (p := ⟨ob, k, none⟩) hob _
          rw [hZ]
          clear hPZ hLZ hcO hfO hZ p0 p1 p2 p3 p4 p5 p6
          go_wp2
          go_roundw
          case rel => exact ⟨k + 1, by omega, by go_num, by rw [HS.out]; go_num, HLZ.out, HBZ.out⟩
          case measure => simp [RowKit.intOf]; omega
      · have hus : usedP N B M T.L (k : Int) = false := by unfold usedP; simp; omega
        have hkM : decide ((k : Int) < (M : Int)) = false := by simp; omega
        have hkM2 : ((k : Int) == (M : Int)) = true := by simp; omega
        have hkN : decide (k < M) = false := by simp; omega
        have hkN2 : ¬ k < M := by omega
        have hkE : (k == M) = true := by simp; omega
        cases hro : T.root
        · have HCH : Hid (chgAt N B M L T k = false) := by
            show chgAt N B M L T k = false
            unfold chgAt chg1
            rw [hus, hro]; simp; omega
          rw [HCH.out] at hsu
          simp only [if_true, if_false, Bool.false_eq_true] at hsu
          have HS := Lib.hid hsu
          clear hsu
          clear hab hM
          go_wp2_with fail
          refine wp_region_quiet_lit ?_ ?_ ?_
          · kernel_rfl
          · kernel_rfl
          repeat (first | (with_reducible refine wpQuiet_step (fun K hK => ?_); go_simp; first | (refine hK _ ?_; clear hK K) | (apply Exists.intro; refine ⟨fun _ => ?_, hK _ ?_⟩; (go_at_call 66; exact HU.out _); clear hK K)) | ((with_reducible refine wpQuiet_skip ?hwq ?_); (case hwq => rfl); simp only [Act.put, List.setIfInBounds_toArray, List.set_cons_zero, List.set_cons_succ]))
          with_reducible refine wpQuiet_nil ?_
          rintro _ ⟨nq, rfl⟩
          obtain ⟨Y, hY⟩ : ∃ Y, wr.drewN nq = Y := ⟨_, rfl⟩
          have hPY : PT Y r t N B M Log L T D lb cap lt capt wb capw := by rw [← hY]; exact HPW.out.at nq
          have p0 : Y.cell? ⟨t, 0, none⟩ = some (.pointer (some ⟨r, 0, none⟩)) := (tc_cells hPY.rowT).1
          have p1 : Y.cell? ⟨t, 1, none⟩ = some (.slice (some ⟨lt, 0, none⟩) N capt) := (tc_cells hPY.rowT).2.1
          have p2 : Y.cell? ⟨t, 2, none⟩ = some (.slice (some ⟨wb, 0, none⟩) N capw) := (tc_cells hPY.rowT).2.2.1
          have p3 : Y.cell? ⟨t, 3, none⟩ = some (.bool T.root) := (tc_cells hPY.rowT).2.2.2.1
          have p4 : Y.cell? ⟨r, 2, none⟩ = some (.int .i64 (M : Int)) := (pc_cells hPY.rowP).2.2.1
          have p5 : Y.cell? ⟨lt, k, none⟩ = some (.string sa) := by rw [← hY]; exact i0
          have p6 : Y.cell? ⟨wb, k, none⟩ = some (.bool (T.W k)) := by rw [← hY]; exact i2
          have HU := Lib.hid (hPY.used (k : Int))
          have HPY := Lib.hid hPY
          have HLY : Hid (lS Y (sl ob N c) N (outK N B M L T k)) := by show lS _ _ _ _; rw [← hY]; exact HLK.out.keep rfl
          have HBY : Hid (Below base w Y) := by show Below _ _ _; rw [← hY]; exact below_drewN HBK.out _
          rw [hY]
          clear hPY hY e0 e1 e2 e3 g0 g2 g4 i0 i1 i2
          rw [hus] at HU
          go_wp2_with fail
          refine wp_region_quiet_lit ?_ ?_ ?_
          · kernel_rfl
          · kernel_rfl
          repeat (first | (with_reducible refine wpQuiet_step (fun K hK => ?_); go_simp; first | (refine hK _ ?_; clear hK K) | (apply Exists.intro; refine ⟨fun _ => ?_, hK _ ?_⟩; (go_at_call 66; exact HU.out _); clear hK K)) | ((with_reducible refine wpQuiet_skip ?hwq ?_); (case hwq => rfl); simp only [Act.put, List.setIfInBounds_toArray, List.set_cons_zero, List.set_cons_succ]))
          with_reducible refine wpQuiet_nil ?_
          rintro _ ⟨nq, rfl⟩
          have HLZ : Hid (lS (Y.drewN nq) (sl ob N c) N (outK N B M L T (k + 1))) := by show lS _ _ _ _; rw [outK_no HCH.out]; exact HLY.out.keep rfl
          have HBZ := Lib.hid (below_drewN HBY.out nq)
          go_wp2
          go_roundw
          case rel => exact ⟨k + 1, by omega, by go_num, by rw [HS.out]; go_num, HLZ.out, HBZ.out⟩
          case measure => simp [RowKit.intOf]; omega
        · have HCH : Hid (chgAt N B M L T k = true) := by
            show chgAt N B M L T k = true
            unfold chgAt chg1
            rw [hus, hro]; simp [hM]
          rw [HCH.out] at hsu
          simp only [if_true, if_false, Bool.false_eq_true] at hsu
          have HS := Lib.hid hsu
          clear hsu
          clear hab hM
          go_wp2_with fail
          refine wp_region_quiet_lit ?_ ?_ ?_
          · kernel_rfl
          · kernel_rfl
          repeat (first | (with_reducible refine wpQuiet_step (fun K hK => ?_); go_simp; first | (refine hK _ ?_; clear hK K) | (apply Exists.intro; refine ⟨fun _ => ?_, hK _ ?_⟩; (go_at_call 66; exact HU.out _); clear hK K)) | ((with_reducible refine wpQuiet_skip ?hwq ?_); (case hwq => rfl); simp only [Act.put, List.setIfInBounds_toArray, List.set_cons_zero, List.set_cons_succ]))
          with_reducible refine wpQuiet_nil ?_
          rintro _ ⟨nq, rfl⟩
          obtain ⟨Y, hY⟩ : ∃ Y, wr.drewN nq = Y := ⟨_, rfl⟩
          have hPY : PT Y r t N B M Log L T D lb cap lt capt wb capw := by rw [← hY]; exact HPW.out.at nq
          have p0 : Y.cell? ⟨t, 0, none⟩ = some (.pointer (some ⟨r, 0, none⟩)) := (tc_cells hPY.rowT).1
          have p1 : Y.cell? ⟨t, 1, none⟩ = some (.slice (some ⟨lt, 0, none⟩) N capt) := (tc_cells hPY.rowT).2.1
          have p2 : Y.cell? ⟨t, 2, none⟩ = some (.slice (some ⟨wb, 0, none⟩) N capw) := (tc_cells hPY.rowT).2.2.1
          have p3 : Y.cell? ⟨t, 3, none⟩ = some (.bool T.root) := (tc_cells hPY.rowT).2.2.2.1
          have p4 : Y.cell? ⟨r, 2, none⟩ = some (.int .i64 (M : Int)) := (pc_cells hPY.rowP).2.2.1
          have p5 : Y.cell? ⟨lt, k, none⟩ = some (.string sa) := by rw [← hY]; exact i0
          have p6 : Y.cell? ⟨wb, k, none⟩ = some (.bool (T.W k)) := by rw [← hY]; exact i2
          have HU := Lib.hid (hPY.used (k : Int))
          have HPY := Lib.hid hPY
          have HLY : Hid (lS Y (sl ob N c) N (outK N B M L T k)) := by show lS _ _ _ _; rw [← hY]; exact HLK.out.keep rfl
          have HBY : Hid (Below base w Y) := by show Below _ _ _; rw [← hY]; exact below_drewN HBK.out _
          rw [hY]
          clear hPY hY e0 e1 e2 e3 g0 g2 g4 i0 i1 i2
          rw [hus] at HU
          go_wp2_with fail
          refine wp_region_quiet_lit ?_ ?_ ?_
          · kernel_rfl
          · kernel_rfl
          repeat (first | (with_reducible refine wpQuiet_step (fun K hK => ?_); go_simp; first | (refine hK _ ?_; clear hK K) | (apply Exists.intro; refine ⟨fun _ => ?_, hK _ ?_⟩; (go_at_call 66; exact HU.out _); clear hK K)) | ((with_reducible refine wpQuiet_skip ?hwq ?_); (case hwq => rfl); simp only [Act.put, List.setIfInBounds_toArray, List.set_cons_zero, List.set_cons_succ]))
          with_reducible refine wpQuiet_nil ?_
          rintro _ ⟨nq, rfl⟩
          obtain ⟨Z, hZ⟩ : ∃ Z, Y.drewN nq = Z := ⟨_, rfl⟩
          have hPZ : PT Z r t N B M Log L T D lb cap lt capt wb capw := by rw [← hZ]; exact HPY.out.at nq
          have q1 : Z.cell? ⟨t, 1, none⟩ = some (.slice (some ⟨lt, 0, none⟩) N capt) := (tc_cells hPZ.rowT).2.1
          have q5 : Z.cell? ⟨lt, k, none⟩ = some (.string sa) := by rw [← hZ]; exact p5
          have hLZ : lS Z (sl ob N c) N (outK N B M L T k) := by rw [← hZ]; exact HLY.out.keep rfl
          obtain ⟨_, _, e, _, _, hcO, hfO⟩ := lS.form hLZ (by omega)
          cases e
          have q6 := hcO k hlt
          have q7 := hfO k
          have HLZ : Hid (lS (Z.setCell ⟨ob, k, none⟩ (.string sa)) (sl ob N c) N (outK N B M L T (k + 1))) := by
            show lS _ _ _ _
            rw [outK_yes HCH.out, ← HSA.out]
            exact hLZ.set k hlt _
          have HBZ : Hid (Below base w (Z.setCell ⟨ob, k, none⟩ (.string sa))) := by
            show Below _ _ _
            rw [← hZ]
            exact (below_drewN HBY.out _).setCell (p := ⟨ob, k, none⟩) hob _
          rw [hZ]
          clear hPZ hLZ hcO hfO hZ p0 p1 p2 p3 p4 p5 p6
          go_wp2
          go_roundw
          case rel => exact ⟨k + 1, by omega, by go_num, by rw [HS.out]; go_num, HLZ.out, HBZ.out⟩
          case measure => simp [RowKit.intOf]; omega
      · have hkM : decide ((k : Int) < (M : Int)) = false := by simp; omega
        have hkM2 : ((k : Int) == (M : Int)) = false := by simp; omega
        have hkN : decide (k < M) = false := by simp; omega
        have hkN2 : ¬ k < M := by omega
        have hkE : (k == M) = false := by simp; omega
        cases hus : usedP N B M T.L (k : Int)
        · have HCH : Hid (chgAt N B M L T k = false) := by
            show chgAt N B M L T k = false
            unfold chgAt chg1
            rw [hus]; simp; omega
          rw [HCH.out] at hsu
          simp only [if_true, if_false, Bool.false_eq_true] at hsu
          have HS := Lib.hid hsu
          clear hsu
          clear hab hM
          go_wp2_with fail
          refine wp_region_quiet_lit ?_ ?_ ?_
          · kernel_rfl
          · kernel_rfl
          repeat (first | (with_reducible refine wpQuiet_step (fun K hK => ?_); go_simp; first | (refine hK _ ?_; clear hK K) | (apply Exists.intro; refine ⟨fun _ => ?_, hK _ ?_⟩; (go_at_call 66; exact HU.out _); clear hK K)) | ((with_reducible refine wpQuiet_skip ?hwq ?_); (case hwq => rfl); simp only [Act.put, List.setIfInBounds_toArray, List.set_cons_zero, List.set_cons_succ]))
          with_reducible refine wpQuiet_nil ?_
          rintro _ ⟨nq, rfl⟩
          obtain ⟨Y, hY⟩ : ∃ Y, wr.drewN nq = Y := ⟨_, rfl⟩
          have hPY : PT Y r t N B M Log L T D lb cap lt capt wb capw := by rw [← hY]; exact HPW.out.at nq
          have p0 : Y.cell? ⟨t, 0, none⟩ = some (.pointer (some ⟨r, 0, none⟩)) := (tc_cells hPY.rowT).1
          have p1 : Y.cell? ⟨t, 1, none⟩ = some (.slice (some ⟨lt, 0, none⟩) N capt) := (tc_cells hPY.rowT).2.1
          have p2 : Y.cell? ⟨t, 2, none⟩ = some (.slice (some ⟨wb, 0, none⟩) N capw) := (tc_cells hPY.rowT).2.2.1
          have p3 : Y.cell? ⟨t, 3, none⟩ = some (.bool T.root) := (tc_cells hPY.rowT).2.2.2.1
          have p4 : Y.cell? ⟨r, 2, none⟩ = some (.int .i64 (M : Int)) := (pc_cells hPY.rowP).2.2.1
          have p5 : Y.cell? ⟨lt, k, none⟩ = some (.string sa) := by rw [← hY]; exact i0
          have p6 : Y.cell? ⟨wb, k, none⟩ = some (.bool (T.W k)) := by rw [← hY]; exact i2
          have HU := Lib.hid (hPY.used (k : Int))
          have HPY := Lib.hid hPY
          have HLY : Hid (lS Y (sl ob N c) N (outK N B M L T k)) := by show lS _ _ _ _; rw [← hY]; exact HLK.out.keep rfl
          have HBY : Hid (Below base w Y) := by show Below _ _ _; rw [← hY]; exact below_drewN HBK.out _
          rw [hY]
          clear hPY hY e0 e1 e2 e3 g0 g2 g4 i0 i1 i2
          rw [hus] at HU
          go_wp2_with fail
          refine wp_region_quiet_lit ?_ ?_ ?_
          · kernel_rfl
          · kernel_rfl
          repeat (first | (with_reducible refine wpQuiet_step (fun K hK => ?_); go_simp; first | (refine hK _ ?_; clear hK K) | (apply Exists.intro; refine ⟨fun _ => ?_, hK _ ?_⟩; (go_at_call 66; exact HU.out _); clear hK K)) | ((with_reducible refine wpQuiet_skip ?hwq ?_); (case hwq => rfl); simp only [Act.put, List.setIfInBounds_toArray, List.set_cons_zero, List.set_cons_succ]))
          with_reducible refine wpQuiet_nil ?_
          rintro _ ⟨nq, rfl⟩
          have HLZ : Hid (lS (Y.drewN nq) (sl ob N c) N (outK N B M L T (k + 1))) := by show lS _ _ _ _; rw [outK_no HCH.out]; exact HLY.out.keep rfl
          have HBZ := Lib.hid (below_drewN HBY.out nq)
          go_wp2
          go_roundw
          case rel => exact ⟨k + 1, by omega, by go_num, by rw [HS.out]; go_num, HLZ.out, HBZ.out⟩
          case measure => simp [RowKit.intOf]; omega
        · cases hwk : T.W k
          · have HCH : Hid (chgAt N B M L T k = false) := by
              show chgAt N B M L T k = false
              unfold chgAt chg1
              rw [hus, hwk]; simp; omega
            rw [HCH.out] at hsu
            simp only [if_true, if_false, Bool.false_eq_true] at hsu
            have HS := Lib.hid hsu
            clear hsu
            clear hab hM
            go_wp2_with fail
            refine wp_region_quiet_lit ?_ ?_ ?_
            · kernel_rfl
            · kernel_rfl
            repeat (first | (with_reducible refine wpQuiet_step (fun K hK => ?_); go_simp; first | (refine hK _ ?_; clear hK K) | (apply Exists.intro; refine ⟨fun _ => ?_, hK _ ?_⟩; (go_at_call 66; exact HU.out _); clear hK K)) | ((with_reducible refine wpQuiet_skip ?hwq ?_); (case hwq => rfl); simp only [Act.put, List.setIfInBounds_toArray, List.set_cons_zero, List.set_cons_succ]))
            with_reducible refine wpQuiet_nil ?_
            rintro _ ⟨nq, rfl⟩
            obtain ⟨Y, hY⟩ : ∃ Y, wr.drewN nq = Y := ⟨_, rfl⟩
            have hPY : PT Y r t N B M Log L T D lb cap lt capt wb capw := by rw [← hY]; exact HPW.out.at nq
            have p0 : Y.cell? ⟨t, 0, none⟩ = some (.pointer (some ⟨r, 0, none⟩)) := (tc_cells hPY.rowT).1
            have p1 : Y.cell? ⟨t, 1, none⟩ = some (.slice (some ⟨lt, 0, none⟩) N capt) := (tc_cells hPY.rowT).2.1
            have p2 : Y.cell? ⟨t, 2, none⟩ = some (.slice (some ⟨wb, 0, none⟩) N capw) := (tc_cells hPY.rowT).2.2.1
            have p3 : Y.cell? ⟨t, 3, none⟩ = some (.bool T.root) := (tc_cells hPY.rowT).2.2.2.1
            have p4 : Y.cell? ⟨r, 2, none⟩ = some (.int .i64 (M : Int)) := (pc_cells hPY.rowP).2.2.1
            have p5 : Y.cell? ⟨lt, k, none⟩ = some (.string sa) := by rw [← hY]; exact i0
            have p6 : Y.cell? ⟨wb, k, none⟩ = some (.bool (T.W k)) := by rw [← hY]; exact i2
            have HU := Lib.hid (hPY.used (k : Int))
            have HPY := Lib.hid hPY
            have HLY : Hid (lS Y (sl ob N c) N (outK N B M L T k)) := by show lS _ _ _ _; rw [← hY]; exact HLK.out.keep rfl
            have HBY : Hid (Below base w Y) := by show Below _ _ _; rw [← hY]; exact below_drewN HBK.out _
            rw [hY]
            clear hPY hY e0 e1 e2 e3 g0 g2 g4 i0 i1 i2
            rw [hus] at HU
            go_wp2_with fail
            refine wp_region_quiet_lit ?_ ?_ ?_
            · kernel_rfl
            · kernel_rfl
            repeat (first | (with_reducible refine wpQuiet_step (fun K hK => ?_); go_simp; first | (refine hK _ ?_; clear hK K) | (apply Exists.intro; refine ⟨fun _ => ?_, hK _ ?_⟩; (go_at_call 66; exact HU.out _); clear hK K)) | ((with_reducible refine wpQuiet_skip ?hwq ?_); (case hwq => rfl); simp only [Act.put, List.setIfInBounds_toArray, List.set_cons_zero, List.set_cons_succ]))
            with_reducible refine wpQuiet_nil ?_
            rintro _ ⟨nq, rfl⟩
            have HLZ : Hid (lS (Y.drewN nq) (sl ob N c) N (outK N B M L T (k + 1))) := by show lS _ _ _ _; rw [outK_no HCH.out]; exact HLY.out.keep rfl
            have HBZ := Lib.hid (below_drewN HBY.out nq)
            go_wp2
            go_roundw
            case rel => exact ⟨k + 1, by omega, by go_num, by rw [HS.out]; go_num, HLZ.out, HBZ.out⟩
            case measure => simp [RowKit.intOf]; omega
          · have HCH : Hid (chgAt N B M L T k = true) := by
              show chgAt N B M L T k = true
              unfold chgAt chg1
              rw [hus, hwk]; simp
            rw [HCH.out] at hsu
            simp only [if_true, if_false, Bool.false_eq_true] at hsu
            have HS := Lib.hid hsu
            clear hsu
            clear hab hM
            go_wp2_with fail
            refine wp_region_quiet_lit ?_ ?_ ?_
            · kernel_rfl
            · kernel_rfl
            repeat (first | (with_reducible refine wpQuiet_step (fun K hK => ?_); go_simp; first | (refine hK _ ?_; clear hK K) | (apply Exists.intro; refine ⟨fun _ => ?_, hK _ ?_⟩; (go_at_call 66; exact HU.out _); clear hK K)) | ((with_reducible refine wpQuiet_skip ?hwq ?_); (case hwq => rfl); simp only [Act.put, List.setIfInBounds_toArray, List.set_cons_zero, List.set_cons_succ]))
            with_reducible refine wpQuiet_nil ?_
            rintro _ ⟨nq, rfl⟩
            obtain ⟨Y, hY⟩ : ∃ Y, wr.drewN nq = Y := ⟨_, rfl⟩
            have hPY : PT Y r t N B M Log L T D lb cap lt capt wb capw := by rw [← hY]; exact HPW.out.at nq
            have p0 : Y.cell? ⟨t, 0, none⟩ = some (.pointer (some ⟨r, 0, none⟩)) := (tc_cells hPY.rowT).1
            have p1 : Y.cell? ⟨t, 1, none⟩ = some (.slice (some ⟨lt, 0, none⟩) N capt) := (tc_cells hPY.rowT).2.1
            have p2 : Y.cell? ⟨t, 2, none⟩ = some (.slice (some ⟨wb, 0, none⟩) N capw) := (tc_cells hPY.rowT).2.2.1
            have p3 : Y.cell? ⟨t, 3, none⟩ = some (.bool T.root) := (tc_cells hPY.rowT).2.2.2.1
            have p4 : Y.cell? ⟨r, 2, none⟩ = some (.int .i64 (M : Int)) := (pc_cells hPY.rowP).2.2.1
            have p5 : Y.cell? ⟨lt, k, none⟩ = some (.string sa) := by rw [← hY]; exact i0
            have p6 : Y.cell? ⟨wb, k, none⟩ = some (.bool (T.W k)) := by rw [← hY]; exact i2
            have HU := Lib.hid (hPY.used (k : Int))
            have HPY := Lib.hid hPY
            have HLY : Hid (lS Y (sl ob N c) N (outK N B M L T k)) := by show lS _ _ _ _; rw [← hY]; exact HLK.out.keep rfl
            have HBY : Hid (Below base w Y) := by show Below _ _ _; rw [← hY]; exact below_drewN HBK.out _
            rw [hY]
            clear hPY hY e0 e1 e2 e3 g0 g2 g4 i0 i1 i2
            rw [hus] at HU
            go_wp2_with fail
            refine wp_region_quiet_lit ?_ ?_ ?_
            · kernel_rfl
            · kernel_rfl
            repeat (first | (with_reducible refine wpQuiet_step (fun K hK => ?_); go_simp; first | (refine hK _ ?_; clear hK K) | (apply Exists.intro; refine ⟨fun _ => ?_, hK _ ?_⟩; (go_at_call 66; exact HU.out _); clear hK K)) | ((with_reducible refine wpQuiet_skip ?hwq ?_); (case hwq => rfl); simp only [Act.put, List.setIfInBounds_toArray, List.set_cons_zero, List.set_cons_succ]))
            with_reducible refine wpQuiet_nil ?_
            rintro _ ⟨nq, rfl⟩
            obtain ⟨Z, hZ⟩ : ∃ Z, Y.drewN nq = Z := ⟨_, rfl⟩
            have hPZ : PT Z r t N B M Log L T D lb cap lt capt wb capw := by rw [← hZ]; exact HPY.out.at nq
            have q1 : Z.cell? ⟨t, 1, none⟩ = some (.slice (some ⟨lt, 0, none⟩) N capt) := (tc_cells hPZ.rowT).2.1
            have q5 : Z.cell? ⟨lt, k, none⟩ = some (.string sa) := by rw [← hZ]; exact p5
            have hLZ : lS Z (sl ob N c) N (outK N B M L T k) := by rw [← hZ]; exact HLY.out.keep rfl
            obtain ⟨_, _, e, _, _, hcO, hfO⟩ := lS.form hLZ (by omega)
            cases e
            have q6 := hcO k hlt
            have q7 := hfO k
            have HLZ : Hid (lS (Z.setCell ⟨ob, k, none⟩ (.string sa)) (sl ob N c) N (outK N B M L T (k + 1))) := by
              show lS _ _ _ _
              rw [outK_yes HCH.out, ← HSA.out]
              exact hLZ.set k hlt _
            have HBZ : Hid (Below base w (Z.setCell ⟨ob, k, none⟩ (.string sa))) := by
              show Below _ _ _
              rw [← hZ]
              exact (below_drewN HBY.out _).setCell (p := ⟨ob, k, none⟩) hob _
            rw [hZ]
            clear hPZ hLZ hcO hfO hZ p0 p1 p2 p3 p4 p5 p6
            go_wp2
            go_roundw
            case rel => exact ⟨k + 1, by omega, by go_num, by rw [HS.out]; go_num, HLZ.out, HBZ.out⟩
            case measure => simp [RowKit.intOf]; omega
    · obtain rfl : k = N := by omega
      clear hsu hPW
      have HLF : Hid (lS wr (sl ob k c) k CL) := by show lS _ _ _ _; rw [← HCL.out]; exact hlk
      have HBF := Lib.hid hbk
      clear hlk hbk
      go_wp2
      go_ret2
      exact ⟨ob, c, by rw [← HCN.out, HFF.out]; rfl, HLF.out, hob, HBF.out⟩
end Go.Proofs.YtephmcbofcfpmaaGreat.Rp

set_option maxRecDepth 8000
set_option linter.unusedSimpArgs false
set_option linter.unusedVariables false
namespace Go.Proofs.YtephmcbofcfpmaaGreat.Rp
open Go.RowKit Go.Bs Go.Dk

set_option maxHeartbeats 2000000 in
theorem Commit_any (w : World) (r t N B M Log : Nat) (L : Nat → List UInt8) (T : TX) (D : Nat → Prop) (h : PTAt w r t N B M Log L T D) :
    Calls Tryz.prog 30 #[.pointer (some ⟨t, 0, none⟩)] w fun e w' => e = .returned (.int .i64 (T.commit N B M Log L).2.2) ∧ PDid D r t N B M Log (T.commit N B M Log L).1 (T.commit N B M Log L).2.1 w w' := by
  have HP := Lib.hid h
  obtain ⟨lb, cap, lt, capt, wb, capw, h⟩ := h
  obtain ⟨_, _, _, _, d4, df⟩ := tc_cells h.rowT
  have df4 := df 4
  obtain ⟨G, hG⟩ : ∃ G, T.commit N B M Log L = G := ⟨_, rfl⟩
  rw [hG]
  by_cases hdn : T.done = true
  · obtain rfl : G = (L, T, 1) := by rw [← hG]; unfold TX.commit; rw [if_pos hdn]
    rw [hdn] at d4
    clear h hG hdn df
    go_enter Tryz.func30, Tryz.ntmps30
    go_wp2
    go_ret
    exact ⟨rfl, PDid.still HP.out (Below.refl _ _)⟩
  · have hdf : T.done = false := by simpa using hdn
    rw [hdf] at d4
    obtain ⟨w1, hw1⟩ : ∃ w1, w.setCell ⟨t, 4, none⟩ (.bool true) = w1 := ⟨_, rfl⟩
    have hP1 : PT w1 r t N B M Log L T.end_ D lb cap lt capt wb capw := by rw [← hw1]; exact h.setT 4 (.bool true) T.root true rfl
    have HF1 : Hid (Fr D w w1) := by show Fr D w w1; rw [← hw1]; exact (Fr.refl _ _).setCell (.inl h.inD.2.1) _
    have HC := Lib.hid (Changes_any w1 r t N B M Log L T.end_ D ⟨_, _, _, _, _, _, hP1⟩)
    have HP1 := Lib.hid hP1
    have hcl := chgN_le N B M L T.end_ N
    have hn1 := h.dT.n1
    unfold TX.commit at hG
    rw [if_neg hdn] at hG
    obtain ⟨n, hn⟩ : ∃ n, chgN N B M L T.end_ N = n := ⟨_, rfl⟩
    obtain ⟨O, hO⟩ : ∃ O, outK N B M L T.end_ N = O := ⟨_, rfl⟩
    rw [hn] at hcl hG HC
    rw [hO] at hG HC
    have HO := Lib.hid hO
    obtain ⟨Te, hTe⟩ : ∃ Te, T.end_ = Te := ⟨_, rfl⟩
    rw [hTe] at hG HP1
    have HTE := Lib.hid hTe
    clear h hP1 hdn df hn hO hTe
    go_enter Tryz.func30, Tryz.ntmps30
    go_wp2_with fail
    refine HC.out.mono ?_
    rintro e w2 ⟨ob, c, rfl, hl2, hob, hb2⟩
    have hP2 : PT w2 r t N B M Log L Te D lb cap lt capt wb capw := HP1.out.keepW hb2.size fun k hk => hb2.block k (HP1.out.blw k hk)
    have HF2 : Hid (Fr D w w2) := HF1.out.trans (Fr.of hb2)
    have e0 : w2.cell? ⟨t, 0, none⟩ = some (.pointer (some ⟨r, 0, none⟩)) := (tc_cells hP2.rowT).1
    have e3 : w2.cell? ⟨r, 3, none⟩ = some (.int .i64 (Log : Int)) := (pc_cells hP2.rowP).2.2.2.1
    have e4 : w2.cell? ⟨r, 4, none⟩ = some (sl lb N cap) := (pc_cells hP2.rowP).2.2.2.2.1
    have f4 : w2.frozen? ⟨r, 4, none⟩ = false := (pc_cells hP2.rowP).2.2.2.2.2 4
    have HP2 := Lib.hid hP2
    by_cases hlg : Log < n
    · rw [if_pos hlg] at hG
      subst hG
      clear hP2 hl2 hb2
      go_wp2
      go_ret
      exact ⟨rfl, D, ⟨lb, cap, lt, capt, wb, capw, HP2.out⟩, fun _ h => .inl h, HF2.out⟩
    · rw [if_neg hlg] at hG
      subst hG
      obtain ⟨a1, a2, a3, a4, a5, a6, a7, a8, a9⟩ := hP2.apart
      have hN : 0 < N := by have := hP2.dP.mn; omega
      obtain ⟨cur, hcur⟩ := hl2.blk hN
      have hobl : ob < w2.heap.size := (Array.getElem?_eq_some_iff.1 hcur).1
      have hnew : ∀ k, D k → k ≠ ob := fun k hk e => by have := HP1.out.blw k hk; omega
      have HP3 : Hid (PT (w2.setCell ⟨r, 4, none⟩ (sl ob N c)) r t N B M Log O Te (fun k => D k ∨ k = ob) ob c lt capt wb capw) := by
        refine ⟨pc_set hP2.rowP _, (setCell_other _ _ _ _ _ (Ne.symm a1)).trans hP2.rowT, lS.keep hl2 (setCell_other _ _ _ _ _ (Ne.symm (hnew r hP2.inD.1))), lS.keep hP2.lT (setCell_other _ _ _ _ _ (Ne.symm a3)), bS.keep hP2.bW (setCell_other _ _ _ _ _ (Ne.symm a4)), Ne.symm (hnew lt hP2.inD.2.2.2.1), ?_, hP2.dT, ⟨.inl hP2.inD.1, .inl hP2.inD.2.1, .inr rfl, .inl hP2.inD.2.2.2.1, .inl hP2.inD.2.2.2.2⟩, fun k hk => ?_⟩
        · rw [← HO.out]
          exact outK_dm hP2.dP (by rw [HTE.out]; exact hP2.dT) N
        · rw [setCell_size]
          rcases hk with hk | hk
          · exact hP2.blw k hk
          · omega
      have HW : Hid (w.heap.size ≤ ob) := by
        show w.heap.size ≤ ob
        have : w1.heap.size = w.heap.size := by rw [← hw1]; exact setCell_size _ _ _
        omega
      have hob' : (sl ob N c) = .slice (some ⟨ob, 0, none⟩) N c := rfl
      clear hP2 hl2 hb2 hcur hnew
      rw [hob']
      go_wp2
      go_ret
      refine ⟨rfl, fun k => D k ∨ k = ob, ⟨ob, c, lt, capt, wb, capw, HP3.out⟩, fun k hk => hk.imp id (fun e => by rw [e]; exact HW.out), HF2.out.setCell (.inl HP2.out.inD.1) _⟩
end Go.Proofs.YtephmcbofcfpmaaGreat.Rp

