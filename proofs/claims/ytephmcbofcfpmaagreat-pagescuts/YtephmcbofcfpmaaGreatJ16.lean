/- Commit: several changes at once. Conditions: none. Read; what is done when it is opened. Conditions: none. -/
import Derived.Test.YtephmcbofcfpmaaGreatJ15
set_option maxRecDepth 8000
set_option linter.unusedSimpArgs false
set_option linter.unusedVariables false
namespace Go.Proofs.YtephmcbofcfpmaaGreat
open Go.RowKit Go.Bs Go.Dk

set_option maxHeartbeats 4000000 in
theorem Commit_any (w : World) (p g : Nat) (s : S) (log : Nat) (down : Bool) (D : Nat → Prop) (h : WalAt w p g s log down D) (hf : s.Fine) (A : Option Addr) (n c : Nat) (l : List Ch) (KK : Nat → Prop) (hl : Chs w A n c l KK) (hKD : ∀ k, KK k → ¬ D k) (hn : n ≤ 1000000) (hd : s.deeds + 8 * (log + 1) < 900000) :
    Calls Tryz.prog 74 #[.pointer (some ⟨p, 0, none⟩), .slice A n c] w fun e w' => e = .returned (.int .i64 (s.commit log down l).2) ∧ Wp D p g (s.commit log down l).1 log ((s.commit log down l).2 == 50) w w' := by
  obtain ⟨z, hz⟩ : ∃ z, w.heap.size = z := ⟨_, rfl⟩
  obtain ⟨W1, hW1⟩ : ∃ W1, w.alloc (.cells #[.pointer (some ⟨p, 0, none⟩)] 90) = W1 := ⟨_, rfl⟩
  have hs1 : W1.heap.size = z + 1 := by rw [← hW1, World.size_alloc, hz]
  have hb1 : Below w.heap.size w W1 := by rw [← hW1]; exact (Below.refl _ _).alloc (Nat.le_refl _) _
  have hn1 : W1.heap[z]? = some (.cells #[.pointer (some ⟨p, 0, none⟩)] 90 (0, 0)) := by rw [← hW1, ← hz]; exact heap_alloc_new w _
  obtain ⟨W2, hW2⟩ : ∃ W2, W1.alloc (.cells #[.slice A n c] 115) = W2 := ⟨_, rfl⟩
  have hs2 : W2.heap.size = z + 2 := by rw [← hW2, World.size_alloc, hs1]
  have hb12 : Below W1.heap.size W1 W2 := by rw [← hW2]; exact (Below.refl _ _).alloc (Nat.le_refl _) _
  have hb2 : Below w.heap.size w W2 := bstep hb1 hb12
  have hn2 : W2.heap[z + 1]? = some (.cells #[.slice A n c] 115 (0, 0)) := by rw [← hW2, ← hs1]; exact heap_alloc_new W1 _
  have hn2' : W2.heap[z]? = some (.cells #[.pointer (some ⟨p, 0, none⟩)] 90 (0, 0)) := (hb12.block z (by omega)).trans hn1
  have x0 : W2.cell? ⟨z, 0, none⟩ = some (.pointer (some ⟨p, 0, none⟩)) := by rw [cell_of_row W2 z _ _ 90 (0, 0) hn2']; rfl
  have x1 : W2.cell? ⟨z + 1, 0, none⟩ = some (.slice A n c) := by rw [cell_of_row W2 (z + 1) _ _ 115 (0, 0) hn2]; rfl
  have HW := Lib.hid h
  have HL := Lib.hid hl
  have HLN := Lib.hid hl.len
  have HB2 := Lib.hid hb2
  have HF := Lib.hid hf
  have HKD := Lib.hid hKD
  have hlog : log ≤ 65536 := by have := h.l1; have := h.disk.ok.s1; omega
  have hplt : p < z := by have := (Array.getElem?_eq_some_iff.1 h.row).1; omega
  have HZ := Lib.hid hz
  have HRD := Lib.hid (wready_any W2 p g log down (h.below hb2).row)
  have HCK := Lib.hid (check_any W2 p g s log down D (h.below hb2) A n c l KK (hl.below hb2) hn)
  obtain ⟨R, hR⟩ : ∃ R, s.commit log down l = R := ⟨_, rfl⟩
  rw [hR]
  clear hb1 hn1 hb12 hn2 hn2' hKD hf hl hb2
  cases down
  · have hR' : (if chk (nbl s log) s.bytes log l ≠ 0 then (s, chk (nbl s log) s.bytes log l) else if l.length = 0 then (s, 0) else S.all (comL log l) s) = R := hR
    by_cases hck : chk (nbl s log) s.bytes log l = 0
    · rw [if_neg (by rw [hck]; simp)] at hR'
      by_cases hl0 : l.length = 0
      · rw [if_pos hl0] at hR'
        have hn0 : n = 0 := by rw [← HLN.out]; exact hl0
        rw [hck] at HCK
        have HR := Lib.hid hR'
        subst hn0
        clear h hR hck hR' hl0
        go_enter Tryz.func74, Tryz.ntmps74
        go_wp2_with fail
        refine HRD.out.mono ?_
        rintro e w1 ⟨rfl, rfl⟩
        go_wp2_with fail
        refine HCK.out.mono ?_
        rintro e W3 ⟨rfl, hb3⟩
        have x1' : W3.cell? ⟨z + 1, 0, none⟩ = some (.slice A 0 c) := (hb3.cell (p := ⟨z + 1, 0, none⟩) (by show z + 1 < W2.heap.size; omega)).trans x1
        have HB3 := Lib.hid hb3
        clear hb3
        go_wp2
        go_ret
        rw [← HR.out]
        exact ⟨rfl, Wp.still HW.out (bstep HB2.out HB3.out)⟩
      · rw [if_neg hl0] at hR'
        have HALL := Lib.hid hR'
        have hn0 : 0 < n := by rw [← HLN.out]; omega
        obtain ⟨hcl, hcj⟩ := chk_zero hck
        rw [HLN.out] at hcl hcj
        have hnb : nbl s log ≤ 65536 := by unfold nbl; have := h.disk.ok.s1; omega
        have hby := h.disk.ok.b1
        have HM : Hid (MayC log n l) := ⟨hcl, fun j hj => by rw [(hcj j hj).2]; omega, fun j hj => ⟨(hcj j hj).1.1, by have := (hcj j hj).1.2; have h1 := h.l1; have h2 := h.disk.ok.s1; unfold nbl at this; omega⟩⟩
        rw [hck] at HCK
        clear hR hck hR' hl0 hcj hnb hby h
        have hmf : ∀ (fn : Fn) (first cap : Array Value) (w : World), (Instr.makeFunc fn first cap).run Tryz.prog w = .ok (.func fn first cap) w := fun _ _ _ _ => rfl
        go_enter Tryz.func74, Tryz.ntmps74
        go_wp2_with fail
        refine HRD.out.mono ?_
        rintro e w1 ⟨rfl, rfl⟩
        go_wp2_with fail
        refine HCK.out.mono ?_
        rintro e W3 ⟨rfl, hb3⟩
        have x0' : W3.cell? ⟨z, 0, none⟩ = some (.pointer (some ⟨p, 0, none⟩)) := (hb3.cell (p := ⟨z, 0, none⟩) (by show z < W2.heap.size; omega)).trans x0
        have x1' : W3.cell? ⟨z + 1, 0, none⟩ = some (.slice A n c) := (hb3.cell (p := ⟨z + 1, 0, none⟩) (by show z + 1 < W2.heap.size; omega)).trans x1
        have hbW3 := bstep HB2.out hb3
        have x2' := (wc_cells (HW.out.below hbW3).row).1
        obtain ⟨q0, hq0⟩ : ∃ q0, W3.heap.size = q0 := ⟨_, rfl⟩
        have hq0z : z + 2 ≤ q0 := by have := hb3.size; omega
        obtain ⟨w4, hw4⟩ : ∃ w4, W3.drew.alloc (.cells (fnB z g).toArray 51) = w4 := ⟨_, rfl⟩
        have hb34 : Below W3.heap.size W3 w4 := by rw [← hw4]; exact (Below.refl _ W3).drew.alloc (Nat.le_refl _) _
        have hbw4 := bstep hbW3 hb34
        have HB4 : Hid (Below z w w4) := by rw [← HZ.out]; exact hbw4
        have HZ4 : Hid (w4.heap.size = q0 + 1 ∧ z + 2 ≤ q0) := ⟨by rw [← hw4, World.size_alloc, ← hq0]; rfl, hq0z⟩
        have HR4 : Hid (w4.heap[q0]? = some (.cells (fnB z g).toArray 51 (0, 0))) := by show _ = _; rw [← hw4, ← hq0]; exact heap_alloc_new W3.drew _
        have hw4' : W3.drew.alloc (.cells #[.func (.func 113) #[] #[.pointer (some ⟨z, 0, none⟩), .pointer (some ⟨z + 1, 0, none⟩)], .func (.func 115) #[.pointer (some ⟨g, 0, none⟩)] #[], .func (.func 116) #[] #[.pointer (some ⟨z, 0, none⟩), .pointer (some ⟨z + 1, 0, none⟩)], .func (.func 115) #[.pointer (some ⟨g, 0, none⟩)] #[]] 51) = w4 := hw4
        have hS4 : w4.drew.cell? ⟨z, 0, none⟩ = some (.pointer (some ⟨p, 0, none⟩)) ∧ w4.drew.cell? ⟨z + 1, 0, none⟩ = some (.slice A n c) :=
          ⟨(hb34.cell (p := ⟨z, 0, none⟩) (by show z < W3.heap.size; omega)).trans x0', (hb34.cell (p := ⟨z + 1, 0, none⟩) (by show z + 1 < W3.heap.size; omega)).trans x1'⟩
        have HFI := Lib.hid (finish_any w4.drew p g s log false D (HW.out.below hbw4.drew) A n c)
        have hKeep : ∀ w5 : World, Below w4.heap.size w4.drew w5 → (w5.cell? ⟨z, 0, none⟩ = some (.pointer (some ⟨p, 0, none⟩)) ∧ w5.cell? ⟨z + 1, 0, none⟩ = some (.slice A n c)) := fun w5 hb =>
          ⟨(hb.cell (p := ⟨z, 0, none⟩) (by show z < w4.heap.size; have := HZ4.out; omega)).trans hS4.1, (hb.cell (p := ⟨z + 1, 0, none⟩) (by show z + 1 < w4.heap.size; have := HZ4.out; omega)).trans hS4.2⟩
        clear hb3 hbW3 hb34 hbw4 hw4
        go_wp2_with fail
        go_still_tail 12, mixed
        go_wp2_with fail
        refine wp_region_held_drew (S := fun W => W.cell? ⟨z, 0, none⟩ = some (.pointer (some ⟨p, 0, none⟩)) ∧ W.cell? ⟨z + 1, 0, none⟩ = some (.slice A n c)) (by kernel_rfl) (hS4) (fun hHeld => ?_)
        refine wpAnyH_take (i := 0) (oi := { dst := some 37, op := Go.Op.load 90 (Go.Operand.tmp 2), type := 90, pos := "wal.go:86", after := #[], guard := none }) (v := ?v0) rfl (by kernel_rfl) (by kernel_rfl) (by kernel_rfl) (fun _ _ _ h => h) (Or.inl ⟨by rfl, ?hy0⟩) hHeld ?_
        case hy0 => (intro w hSw; (try dsimp only at hSw); go_simp; first | done | with_reducible rfl)
        try simp only [Act.put, List.setIfInBounds_toArray, List.set_cons_zero, List.set_cons_succ]
        refine wpAnyH_take (i := 1) (oi := { dst := some 38, op := Go.Op.move (Go.Operand.tmp 7), type := 176, pos := "wal.go:86", after := #[], guard := none }) (v := ?v1) rfl (by kernel_rfl) (by kernel_rfl) (by kernel_rfl) (fun _ _ _ h => h) (Or.inl ⟨by rfl, ?hy1⟩) hHeld ?_
        case hy1 => (intro w hSw; (try dsimp only at hSw); go_simp; first | done | with_reducible rfl)
        try simp only [Act.put, List.setIfInBounds_toArray, List.set_cons_zero, List.set_cons_succ]
        refine wpAnyH_take (i := 2) (oi := { dst := some 39, op := Go.Op.load 90 (Go.Operand.tmp 2), type := 90, pos := "wal.go:86", after := #[], guard := none }) (v := ?v2) rfl (by kernel_rfl) (by kernel_rfl) (by kernel_rfl) (fun _ _ _ h => h) (Or.inl ⟨by rfl, ?hy2⟩) hHeld ?_
        case hy2 => (intro w hSw; (try dsimp only at hSw); go_simp; first | done | with_reducible rfl)
        try simp only [Act.put, List.setIfInBounds_toArray, List.set_cons_zero, List.set_cons_succ]
        refine wpAnyH_take (i := 3) (oi := { dst := some 40, op := Go.Op.load 115 (Go.Operand.tmp 3), type := 115, pos := "wal.go:86", after := #[], guard := none }) (v := ?v3) rfl (by kernel_rfl) (by kernel_rfl) (by kernel_rfl) (fun _ _ _ h => h) (Or.inl ⟨by rfl, ?hy3⟩) hHeld ?_
        case hy3 => (intro w hSw; (try dsimp only at hSw); go_simp; first | done | with_reducible rfl)
        try simp only [Act.put, List.setIfInBounds_toArray, List.set_cons_zero, List.set_cons_succ]
        refine wpAnyH_ready (rs := [4]) (by kernel_rfl) (by simp) ?_
        refine AllReadyH.cons (o := { dst := some 41, op := Go.Op.call { callee := Go.Callee.value (Go.Operand.func 119), args := #[Go.Operand.tmp 39, Go.Operand.tmp 40], argTypes := #[90, 115] }, type := 176, pos := "wal.go:86", after := #[{ on := 2, ground := Go.Ground.data }, { on := 3, ground := Go.Ground.data }], guard := none }) rfl (fun K hK => ?_) AllReadyH.nil
        go_simp
        refine HFI.out.mono ?_
        rintro e w5 ⟨q1, b1, b2, rfl, hb5, hq1, hb1', hb2', hrow5, y1, y2⟩
        have hs4d : w4.drew.heap.size = w4.heap.size := rfl
        rw [hs4d] at hb5 hq1 hb1' hb2'
        have hbT5 : Below z w w5 := HB4.out.drew.trans (hb5.mono (by have := HZ4.out; omega))
        have hrow45 : w5.heap[q0]? = some (.cells (fnB z g).toArray 51 (0, 0)) := (hb5.block q0 (by have := HZ4.out; omega)).trans HR4.out
        obtain ⟨q, cap, w6, hrun, hcell, hg6, hqat⟩ := app_fns w5 q0 q1 (fnB z g) (fnE g p b1 b2) hrow45 hrow5 rfl rfl (fnE_one g p b1 b2)
        have hs5 := hb5.size
        have hB6 : Below z w w6 := below_grown6 hbT5 hg6 (by have := HZ4.out; omega) (by have := HZ4.out; omega)
        have hWA := HW.out.below (by rw [HZ.out]; exact hB6)
        have hCA := HL.out.below (by rw [HZ.out]; exact hB6)
        have hDz : ∀ k, D k → k < z := fun k hk => by have := HW.out.disk.lt k hk; rw [HZ.out] at this; exact this
        have hz4 := HZ4.out
        have hkeep6 : ∀ b v, b < z + 2 ∨ w4.heap.size ≤ b → w5.cell? ⟨b, 0, none⟩ = some v → w6.cell? ⟨b, 0, none⟩ = some v := fun b v hb hv => (World.cell?_of_block (a := ⟨b, 0, none⟩) (hg6.block b (lt_of_cell hv) (fun e => by cases e; omega))).trans hv
        have hS5 := hKeep w5 hb5
        have hS6 : w6.cell? ⟨z, 0, none⟩ = some (.pointer (some ⟨p, 0, none⟩)) ∧ w6.cell? ⟨z + 1, 0, none⟩ = some (.slice A n c) := ⟨hkeep6 z _ (by omega) hS5.1, hkeep6 (z + 1) _ (by omega) hS5.2⟩
        have HDO := Lib.hid (do_all w6 p g s log false D hWA HF.out (comL log l) 8 (n + 1) rfl (by omega) (by omega) (comL_good log l (n + 1) (by rw [HLN.out]; exact Nat.le_refl _)) q cap fn8 (fb8 g p) (cp8 z b1 b2) (fun j hj => by rw [hcell j hj, fn8_at z g p b1 b2 j hj]) (fun hd => by have := hDz q hd; omega) ent8 (com_step w6 p g s log false D A n c l KK hCA HKD.out HM.out hlog z b1 b2 hS6.1 hS6.2 (fun hd => by have := hDz z hd; omega) (fun hd => by have := hDz (z + 1) hd; omega) (hkeep6 b1 _ (by omega) y1) (hkeep6 b2 _ (by omega) y2) (fun hd => by have := hDz b1 hd; omega) (fun hd => by have := hDz b2 hd; omega) (n + 1) (Nat.le_refl _)))
        rw [HALL.out] at HDO
        have HB6 := Lib.hid hB6
        have HDZ := Lib.hid hDz
        have HWA := Lib.hid hWA
        have hlt6 : z + 2 ≤ w6.heap.size := by have := hg6.size; omega
        clear hb5 hbT5 hrow45 hrow5 hcell hg6 hqat y1 y2 hq1 hb1' hb2' hs4d hB6 hWA hCA hDz hz4 hkeep6 hs5
        go_wp2_with fail
        refine hK.out _ _ (hS5) (fun hHeld => ?_)
        clear hK K
        try simp only [Act.put, List.setIfInBounds_toArray, List.set_cons_zero, List.set_cons_succ]
        refine wpAnyH_ready (rs := [5]) (by kernel_rfl) (by simp) ?_
        refine AllReadyH.cons (o := { dst := some 42, op := Go.Op.call { callee := Go.Callee.builtin Go.Builtin.append, args := #[Go.Operand.tmp 38, Go.Operand.tmp 41], argTypes := #[176, 176] }, type := 176, pos := "wal.go:86", after := #[{ on := 1, ground := Go.Ground.data }, { on := 4, ground := Go.Ground.data }, { on := 4, ground := Go.Ground.chain }], guard := none }) rfl (fun K hK => ?_) AllReadyH.nil
        refine op_append_fn (.tmp 38) (.tmp 41) rfl (.slice (some ⟨q0, 0, none⟩) 4 4) (.slice (some ⟨q1, 0, none⟩) 4 4) (.slice (some ⟨q, 0, none⟩) 8 cap) rfl rfl hrun ?_
        refine hK.out _ _ (hS6) (fun hHeld => ?_)
        clear hK K
        try simp only [Act.put, List.setIfInBounds_toArray, List.set_cons_zero, List.set_cons_succ]
        refine wpAnyH_ready (rs := [6]) (by kernel_rfl) (by simp) ?_
        refine AllReadyH.cons (o := { dst := some 43, op := Go.Op.call { callee := Go.Callee.value (Go.Operand.func 120), args := #[Go.Operand.tmp 42], argTypes := #[176] }, type := 26, pos := "wal.go:86", after := #[{ on := 5, ground := Go.Ground.data }, { on := 5, ground := Go.Ground.chain }], guard := none }) rfl (fun K hK => ?_) AllReadyH.nil
        go_simp
        refine HDO.out.mono ?_
        rintro e w7 ⟨rfl, D7, hw7, hd7, hf7⟩
        have HW7 := Lib.hid hw7
        have HD7 := Lib.hid hd7
        have HF7 := Lib.hid hf7
        have HHE := Lib.hid (heed_any w7 p g log false hw7.row R.2)
        have hS7 : w7.cell? ⟨z, 0, none⟩ = some (.pointer (some ⟨p, 0, none⟩)) ∧ w7.cell? ⟨z + 1, 0, none⟩ = some (.slice A n c) := ⟨box_fr hS6.1 (fun hd => by have := HDZ.out z hd; omega) hf7, box_fr hS6.2 (fun hd => by have := HDZ.out (z + 1) hd; omega) hf7⟩
        clear hw7 hd7 hf7
        go_wp2_with fail
        refine hK.out _ _ (hS7) (fun hHeld => ?_)
        clear hK K
        try simp only [Act.put, List.setIfInBounds_toArray, List.set_cons_zero, List.set_cons_succ]
        refine wpAnyH_ready (rs := [7]) (by kernel_rfl) (by simp) ?_
        refine AllReadyH.cons (o := { dst := some 44, op := Go.Op.call { callee := Go.Callee.value (Go.Operand.func 107), args := #[Go.Operand.tmp 37, Go.Operand.tmp 43], argTypes := #[90, 26] }, type := 26, pos := "wal.go:86", after := #[{ on := 0, ground := Go.Ground.data }, { on := 6, ground := Go.Ground.data }, { on := 6, ground := Go.Ground.chain }], guard := none }) rfl (fun K hK => ?_) AllReadyH.nil
        go_simp
        refine HHE.out.mono ?_
        rintro e w8 ⟨rfl, hw8⟩
        have HW8 := Lib.hid hw8
        have hS8 : w8.cell? ⟨z, 0, none⟩ = some (.pointer (some ⟨p, 0, none⟩)) ∧ w8.cell? ⟨z + 1, 0, none⟩ = some (.slice A n c) := by rw [hw8]; exact ⟨(World.cell?_of_block (a := ⟨z, 0, none⟩) (setCell_other w7 p 2 z _ (by omega))).trans hS7.1, (World.cell?_of_block (a := ⟨z + 1, 0, none⟩) (setCell_other w7 p 2 (z + 1) _ (by omega))).trans hS7.2⟩
        clear hw8
        go_wp2_with fail
        refine hK.out _ _ (hS8) (fun hHeld => ?_)
        clear hK K
        try simp only [Act.put, List.setIfInBounds_toArray, List.set_cons_zero, List.set_cons_succ]
        refine wpAnyH_take (i := 8) (oi := { dst := some 4, op := Go.Op.assign (Go.Operand.tmp 44), type := 26, pos := "wal.go:86", after := #[{ on := 7, ground := Go.Ground.data }, { on := 7, ground := Go.Ground.chain }, { on := 0, ground := Go.Ground.phase }, { on := 1, ground := Go.Ground.phase }, { on := 2, ground := Go.Ground.phase }, { on := 3, ground := Go.Ground.phase }, { on := 4, ground := Go.Ground.phase }, { on := 5, ground := Go.Ground.phase }, { on := 6, ground := Go.Ground.phase }, { on := 7, ground := Go.Ground.phase }], guard := none }) (v := ?v8) rfl (by kernel_rfl) (by kernel_rfl) (by kernel_rfl) (fun _ _ _ h => h) (Or.inl ⟨by rfl, ?hy8⟩) hHeld ?_
        case hy8 => (intro w hSw; (try dsimp only at hSw); go_simp; first | done | with_reducible rfl)
        try simp only [Act.put, List.setIfInBounds_toArray, List.set_cons_zero, List.set_cons_succ]
        refine wpAnyH_done (by kernel_rfl) ?_ _
        go_wp2
        go_ret
        refine ⟨rfl, D7, by rw [HW8.out]; exact HW7.out.heed _, fun k hk => ?_, ?_⟩
        · rcases HD7.out k hk with h | h
          · exact .inl h
          · exact .inr (by have := hlt6; have := HZ.out; omega)
        · rw [HW8.out]
          refine Fr.setCell ((Fr.of (D := fun k => D k ∨ k = p) (by rw [HZ.out]; exact HB6.out)).trans (HF7.out.mono fun k h => .inl h)) (.inl (.inr rfl)) _
    · rw [if_pos hck] at hR'
      have HR := Lib.hid hR'
      obtain ⟨y, hy⟩ : ∃ y, chk (nbl s log) s.bytes log l = y := ⟨_, rfl⟩
      rw [hy] at HCK hck
      have HY := Lib.hid hy
      have HYB : Hid ((y == 50) = false) := by
        show (y == 50) = false
        have : y = 1 ∨ y = 8 ∨ y = 0 := by
          rw [← hy]; unfold chk
          split
          · exact .inl rfl
          · split
            · exact .inr (.inl rfl)
            · exact .inr (.inr rfl)
        rcases this with h | h | h <;> rw [h] <;> rfl
      clear h hR hR' hy
      go_enter Tryz.func74, Tryz.ntmps74
      go_wp2_with fail
      refine HRD.out.mono ?_
      rintro e w1 ⟨rfl, rfl⟩
      go_wp2_with fail
      refine HCK.out.mono ?_
      rintro e W3 ⟨rfl, hb3⟩
      have HB3 := Lib.hid hb3
      clear hb3
      go_wp2
      go_ret
      rw [← HR.out]
      exact ⟨by rw [HY.out]; rfl, by rw [HY.out, HYB.out]; exact Wp.still HW.out (bstep HB2.out HB3.out)⟩
  · have hR' : ((s, (50 : Int)) : S × Int) = R := hR
    have HR := Lib.hid hR'
    clear h hR hR'
    go_enter Tryz.func74, Tryz.ntmps74
    go_wp2_with fail
    refine HRD.out.mono ?_
    rintro e w1 ⟨rfl, rfl⟩
    go_wp2
    go_ret
    rw [← HR.out]
    exact ⟨rfl, Wp.still HW.out HB2.out⟩
end Go.Proofs.YtephmcbofcfpmaaGreat

set_option maxRecDepth 8000
set_option linter.unusedSimpArgs false
set_option linter.unusedVariables false
namespace Go.Dk
open Go.RowKit Go.Bs
def S.rdB (s : S) (log : Nat) (down : Bool) (i : Int) : List UInt8 × Int :=
  if down then ([], 50) else if 0 ≤ i ∧ i < ((s.sectors - 1 - log : Nat) : Int) then s.read (1 + (log : Int) + i) else ([], 1)
end Go.Dk
namespace Go.Proofs.YtephmcbofcfpmaaGreat
open Go.RowKit Go.Bs Go.Dk

theorem wRead_nil (w : World) (i : Int) : Calls Tryz.prog 57 #[.pointer none, .int .i64 i] w fun e w' => e = .returned (.tuple #[.slice none 0 0, .int .i64 3]) ∧ w = w' := by
  have HR := Lib.hid (wready_nil w)
  go_enter Tryz.func57, Tryz.ntmps57
  go_wp2_with fail
  refine HR.out.mono ?_
  rintro e w1 ⟨rfl, rfl⟩
  go_wp2
  go_ret2
  exact ⟨rfl, rfl⟩
/-- what was read: new memory, or nil. -/
def RdN (w w' : World) (v : Value) (bs : List UInt8) : Prop := (v = .slice none 0 0 ∧ bs = []) ∨ ∃ b, v = .slice (some ⟨b, 0, none⟩) bs.length bs.length ∧ Blk w' b 5 bs ∧ w.heap.size ≤ b
set_option maxHeartbeats 2000000 in
theorem wRead_any (w : World) (p g : Nat) (s : S) (log : Nat) (down : Bool) (D : Nat → Prop) (h : WalAt w p g s log down D) (i : Int) :
    Calls Tryz.prog 57 #[.pointer (some ⟨p, 0, none⟩), .int .i64 i] w fun e w' => ∃ v, e = .returned (.tuple #[v, .int .i64 (s.rdB log down i).2]) ∧ RdN w w' v (s.rdB log down i).1 ∧ WalAt w' p g s log ((s.rdB log down i).2 == 50) D ∧ Fr (fun k => k = p) w w' := by
  have HW := Lib.hid h
  have HRD := Lib.hid (wready_any w p g log down h.row)
  have HH := Lib.hid (whas_any w p g s log down D h i)
  have hlog : log ≤ 65536 := by have := h.l1; have := h.disk.ok.s1; omega
  obtain ⟨nb, hnb⟩ : ∃ nb, nbl s log = nb := ⟨_, rfl⟩
  have hnbl : nb ≤ 65536 := by unfold nbl at hnb; have := h.disk.ok.s1; omega
  rw [hnb] at HH
  have hplt := (Array.getElem?_eq_some_iff.1 h.row).1
  obtain ⟨R, hR⟩ : ∃ R, s.rdB log down i = R := ⟨_, rfl⟩
  rw [hR]
  unfold S.rdB at hR
  rw [show s.sectors - 1 - log = nb from hnb] at hR
  cases down
  · rw [if_neg (by simp)] at hR
    by_cases hi : 0 ≤ i ∧ i < (nb : Int)
    · rw [if_pos hi] at hR
      have hib : (decide (0 ≤ i) && decide (i < (nb : Int))) = true := by simp; exact hi
      rw [hib] at HH
      have HR := Lib.hid hR
      clear h hR hnb
      go_enter Tryz.func57, Tryz.ntmps57
      go_wp2_with fail
      refine HRD.out.mono ?_
      rintro e w1 ⟨rfl, rfl⟩
      go_wp2_with fail
      refine HH.out.mono ?_
      rintro e w1 ⟨rfl, k, rfl⟩
      obtain ⟨W1, hW1⟩ : ∃ W1, w.drewN k = W1 := ⟨_, rfl⟩
      have hbW : Below w.heap.size w W1 := by rw [← hW1]; exact below_drewN (Below.refl _ _) _
      have hszW : W1.heap.size = w.heap.size := by rw [← hW1]; rfl
      rw [hW1]
      clear hW1
      have hWd := HW.out.below hbW.drew
      have x2d := (wc_cells hWd.row).1
      have HSC := Lib.hid (sector_any W1.drew p g log false hWd.row hlog i (by omega))
      have HRE := Lib.hid (Read_any W1.drew g s D hWd.disk (1 + (log : Int) + i))
      have HWD := Lib.hid hWd
      have HBD := Lib.hid hbW.drew
      rw [HR.out] at HRE
      rw [← hszW] at hplt
      clear hWd hbW
      go_wp2_with fail
      refine wp_region_held_drew (S := fun W => W.cell? ⟨p, 0, none⟩ = some (.pointer (some ⟨g, 0, none⟩))) (by kernel_rfl) (x2d) (fun hHeld => ?_)
      refine wpAnyH_take (i := 0) (oi := { dst := some 19, op := Go.Op.move (Go.Operand.tmp 0), type := 90, pos := "wal.go:68", after := #[], guard := none }) (v := ?v0) rfl (by kernel_rfl) (by kernel_rfl) (by kernel_rfl) (fun _ _ _ h => h) (Or.inl ⟨by rfl, ?hy0⟩) hHeld ?_
      case hy0 => (intro w hSw; (try dsimp only at hSw); go_simp; first | done | with_reducible rfl)
      try simp only [Act.put, List.setIfInBounds_toArray, List.set_cons_zero, List.set_cons_succ]
      refine wpAnyH_take (i := 1) (oi := { dst := some 20, op := Go.Op.nilCheck (Go.Operand.tmp 19), type := 0, pos := "wal.go:68", after := #[{ on := 0, ground := Go.Ground.data }], guard := none }) (v := ?v1) rfl (by kernel_rfl) (by kernel_rfl) (by kernel_rfl) (fun _ _ _ h => h) (Or.inl ⟨by rfl, ?hy1⟩) hHeld ?_
      case hy1 => (intro w hSw; (try dsimp only at hSw); go_simp; first | done | with_reducible rfl)
      try simp only [Act.put, List.setIfInBounds_toArray, List.set_cons_zero, List.set_cons_succ]
      refine wpAnyH_take (i := 2) (oi := { dst := some 21, op := Go.Op.fieldAddr 163 (Go.Operand.tmp 20) 0, type := 0, pos := "wal.go:68", after := #[{ on := 1, ground := Go.Ground.data }], guard := none }) (v := ?v2) rfl (by kernel_rfl) (by kernel_rfl) (by kernel_rfl) (fun _ _ _ h => h) (Or.inl ⟨by rfl, ?hy2⟩) hHeld ?_
      case hy2 => (intro w hSw; (try dsimp only at hSw); go_simp; first | done | with_reducible rfl)
      try simp only [Act.put, List.setIfInBounds_toArray, List.set_cons_zero, List.set_cons_succ]
      refine wpAnyH_take (i := 3) (oi := { dst := some 22, op := Go.Op.load 25 (Go.Operand.tmp 21), type := 25, pos := "wal.go:68", after := #[{ on := 2, ground := Go.Ground.data }], guard := none }) (v := ?v3) rfl (by kernel_rfl) (by kernel_rfl) (by kernel_rfl) (fun _ _ _ h => h) (Or.inl ⟨by rfl, ?hy3⟩) hHeld ?_
      case hy3 => (intro w hSw; (try dsimp only at hSw); go_simp; first | done | with_reducible rfl)
      try simp only [Act.put, List.setIfInBounds_toArray, List.set_cons_zero, List.set_cons_succ]
      refine wpAnyH_take (i := 4) (oi := { dst := some 23, op := Go.Op.move (Go.Operand.tmp 0), type := 90, pos := "wal.go:68", after := #[], guard := none }) (v := ?v4) rfl (by kernel_rfl) (by kernel_rfl) (by kernel_rfl) (fun _ _ _ h => h) (Or.inl ⟨by rfl, ?hy4⟩) hHeld ?_
      case hy4 => (intro w hSw; (try dsimp only at hSw); go_simp; first | done | with_reducible rfl)
      try simp only [Act.put, List.setIfInBounds_toArray, List.set_cons_zero, List.set_cons_succ]
      refine wpAnyH_take (i := 5) (oi := { dst := some 24, op := Go.Op.move (Go.Operand.tmp 1), type := 3, pos := "wal.go:68", after := #[], guard := none }) (v := ?v5) rfl (by kernel_rfl) (by kernel_rfl) (by kernel_rfl) (fun _ _ _ h => h) (Or.inl ⟨by rfl, ?hy5⟩) hHeld ?_
      case hy5 => (intro w hSw; (try dsimp only at hSw); go_simp; first | done | with_reducible rfl)
      try simp only [Act.put, List.setIfInBounds_toArray, List.set_cons_zero, List.set_cons_succ]
      refine wpAnyH_ready (rs := [6]) (by kernel_rfl) (by simp) ?_
      refine AllReadyH.cons (o := { dst := some 25, op := Go.Op.call { callee := Go.Callee.value (Go.Operand.func 106), args := #[Go.Operand.tmp 23, Go.Operand.tmp 24], argTypes := #[90, 3] }, type := 3, pos := "wal.go:68", after := #[{ on := 4, ground := Go.Ground.data }, { on := 5, ground := Go.Ground.data }], guard := none }) rfl (fun K hK => ?_) AllReadyH.nil
      go_simp
      refine HSC.out.mono ?_
      rintro e w2 ⟨rfl, rfl⟩
      go_wp2_with fail
      refine hK.out _ _ (x2d) (fun hHeld => ?_)
      clear hK K
      try simp only [Act.put, List.setIfInBounds_toArray, List.set_cons_zero, List.set_cons_succ]
      refine wpAnyH_ready (rs := [7]) (by kernel_rfl) (by simp) ?_
      refine AllReadyH.cons (o := { dst := some 26, op := Go.Op.call { callee := Go.Callee.value (Go.Operand.func 105), args := #[Go.Operand.tmp 22, Go.Operand.tmp 25], argTypes := #[25, 3] }, type := 46, pos := "wal.go:68", after := #[{ on := 3, ground := Go.Ground.data }, { on := 6, ground := Go.Ground.data }, { on := 6, ground := Go.Ground.chain }], guard := none }) rfl (fun K hK => ?_) AllReadyH.nil
      go_simp
      refine HRE.out.mono ?_
      rintro e w3 ⟨v, rfl, hrv, hb3⟩
      have HRV := Lib.hid hrv
      have HB3 := Lib.hid hb3
      have x3 : w3.cell? ⟨p, 0, none⟩ = some (.pointer (some ⟨g, 0, none⟩)) := (hb3.cell (p := ⟨p, 0, none⟩) hplt).trans x2d
      clear hrv hb3
      go_wp2_with fail
      refine hK.out _ _ (x3) (fun hHeld => ?_)
      clear hK K
      try simp only [Act.put, List.setIfInBounds_toArray, List.set_cons_zero, List.set_cons_succ]
      refine wpAnyH_take (i := 8) (oi := { dst := some 18, op := Go.Op.move (Go.Operand.tmp 26), type := 46, pos := "wal.go:68", after := #[{ on := 7, ground := Go.Ground.data }], guard := none }) (v := ?v8) rfl (by kernel_rfl) (by kernel_rfl) (by kernel_rfl) (fun _ _ _ h => h) (Or.inl ⟨by rfl, ?hy8⟩) hHeld ?_
      case hy8 => (intro w hSw; (try dsimp only at hSw); go_simp; first | done | with_reducible rfl)
      try simp only [Act.put, List.setIfInBounds_toArray, List.set_cons_zero, List.set_cons_succ]
      refine wpAnyH_take (i := 9) (oi := { dst := some 27, op := Go.Op.extract (Go.Operand.tmp 18) 0, type := 39, pos := "wal.go:68", after := #[{ on := 8, ground := Go.Ground.data }], guard := none }) (v := ?v9) rfl (by kernel_rfl) (by kernel_rfl) (by kernel_rfl) (fun _ _ _ h => h) (Or.inl ⟨by rfl, ?hy9⟩) hHeld ?_
      case hy9 => (intro w hSw; (try dsimp only at hSw); go_simp; first | done | with_reducible rfl)
      try simp only [Act.put, List.setIfInBounds_toArray, List.set_cons_zero, List.set_cons_succ]
      refine wpAnyH_take (i := 10) (oi := { dst := some 28, op := Go.Op.extract (Go.Operand.tmp 18) 1, type := 26, pos := "wal.go:68", after := #[{ on := 8, ground := Go.Ground.data }, { on := 11, ground := Go.Ground.gcOnly Go.Departure.lateStores }], guard := none }) (v := ?v10) rfl (by kernel_rfl) (by kernel_rfl) (by kernel_rfl) (fun _ _ _ h => h) (Or.inl ⟨by rfl, ?hy10⟩) hHeld ?_
      case hy10 => (intro w hSw; (try dsimp only at hSw); go_simp; first | done | with_reducible rfl)
      try simp only [Act.put, List.setIfInBounds_toArray, List.set_cons_zero, List.set_cons_succ]
      refine wpAnyH_take (i := 11) (oi := { dst := some 7, op := Go.Op.assign (Go.Operand.tmp 27), type := 39, pos := "wal.go:68", after := #[{ on := 9, ground := Go.Ground.data }, { on := 7, ground := Go.Ground.chain }, { on := 0, ground := Go.Ground.phase }, { on := 1, ground := Go.Ground.phase }, { on := 2, ground := Go.Ground.phase }, { on := 3, ground := Go.Ground.phase }, { on := 4, ground := Go.Ground.phase }, { on := 5, ground := Go.Ground.phase }, { on := 6, ground := Go.Ground.phase }, { on := 7, ground := Go.Ground.phase }, { on := 8, ground := Go.Ground.phase }, { on := 9, ground := Go.Ground.phase }, { on := 10, ground := Go.Ground.textOnly Go.Departure.lateStores }], guard := none }) (v := ?v11) rfl (by kernel_rfl) (by kernel_rfl) (by kernel_rfl) (fun _ _ _ h => h) (Or.inl ⟨by rfl, ?hy11⟩) hHeld ?_
      case hy11 => (intro w hSw; (try dsimp only at hSw); go_simp; first | done | with_reducible rfl)
      try simp only [Act.put, List.setIfInBounds_toArray, List.set_cons_zero, List.set_cons_succ]
      refine wpAnyH_take (i := 12) (oi := { dst := some 8, op := Go.Op.assign (Go.Operand.tmp 28), type := 26, pos := "wal.go:68", after := #[{ on := 10, ground := Go.Ground.data }, { on := 11, ground := Go.Ground.chain }, { on := 0, ground := Go.Ground.phase }, { on := 1, ground := Go.Ground.phase }, { on := 2, ground := Go.Ground.phase }, { on := 3, ground := Go.Ground.phase }, { on := 4, ground := Go.Ground.phase }, { on := 5, ground := Go.Ground.phase }, { on := 6, ground := Go.Ground.phase }, { on := 7, ground := Go.Ground.phase }, { on := 8, ground := Go.Ground.phase }, { on := 9, ground := Go.Ground.phase }, { on := 10, ground := Go.Ground.phase }, { on := 11, ground := Go.Ground.phase }], guard := none }) (v := ?v12) rfl (by kernel_rfl) (by kernel_rfl) (by kernel_rfl) (fun _ _ _ h => h) (Or.inl ⟨by rfl, ?hy12⟩) hHeld ?_
      case hy12 => (intro w hSw; (try dsimp only at hSw); go_simp; first | done | with_reducible rfl)
      try simp only [Act.put, List.setIfInBounds_toArray, List.set_cons_zero, List.set_cons_succ]
      refine wpAnyH_done (by kernel_rfl) ?_ _
      have HHE := Lib.hid (heed_any w3 p g log false (HWD.out.below HB3.out).row R.2)
      go_wp2_with fail
      refine HHE.out.mono ?_
      rintro e w4 ⟨rfl, hw4⟩
      have HW4 := Lib.hid hw4
      clear hw4
      go_wp2
      go_ret2
      have hbT : Below w.heap.size w w3 := HBD.out.trans (HB3.out.mono (by show w.heap.size ≤ W1.heap.size; omega))
      refine ⟨_, rfl, ?_, ?_, ?_⟩
      · rcases HRV.out with hv | ⟨hv, hk⟩
        · exact .inl hv
        · refine .inr ⟨_, hv, ?_, by show w.heap.size ≤ W1.heap.size; omega⟩
          rw [HW4.out]
          exact (setCell_other w3 p 2 _ _ (by show W1.heap.size ≠ p; omega)).trans hk
      · rw [HW4.out]
        exact (HWD.out.below HB3.out).heed _
      · rw [HW4.out]
        exact Fr.setCell (D := fun k => k = p) (g := p) (Fr.of hbT) (.inl rfl) _
    · rw [if_neg hi] at hR
      have hib : (decide (0 ≤ i) && decide (i < (nb : Int))) = false := by simp; omega
      rw [hib] at HH
      have HR := Lib.hid hR
      clear h hR hnb hi hib
      go_enter Tryz.func57, Tryz.ntmps57
      go_wp2_with fail
      refine HRD.out.mono ?_
      rintro e w1 ⟨rfl, rfl⟩
      go_wp2_with fail
      refine HH.out.mono ?_
      rintro e w1 ⟨rfl, k, rfl⟩
      go_wp2
      go_ret2
      rw [← HR.out]
      exact ⟨_, rfl, .inl ⟨rfl, rfl⟩, HW.out.below (below_drewN (Below.refl _ _) _), Fr.of (below_drewN (Below.refl _ _) _)⟩
  · rw [if_pos rfl] at hR
    have HR := Lib.hid hR
    clear h hR hnb
    go_enter Tryz.func57, Tryz.ntmps57
    go_wp2_with fail
    refine HRD.out.mono ?_
    rintro e w1 ⟨rfl, rfl⟩
    go_wp2
    go_ret2
    rw [← HR.out]
    exact ⟨_, rfl, .inl ⟨rfl, rfl⟩, HW.out, Fr.refl _ _⟩
end Go.Proofs.YtephmcbofcfpmaaGreat

