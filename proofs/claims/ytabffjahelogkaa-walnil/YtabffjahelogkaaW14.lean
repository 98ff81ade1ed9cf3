/- Read; what is done when it is opened. Conditions: none. -/
import Derived.Test.YtabffjahelogkaaW13
namespace Go.Dk
open Go.RowKit Go.Bs
def S.rdB (s : S) (log : Nat) (down : Bool) (i : Int) : List UInt8 × Int :=
  if down then ([], 50) else if 0 ≤ i ∧ i < ((s.sectors - 1 - log : Nat) : Int) then s.read (1 + (log : Int) + i) else ([], 1)
end Go.Dk
namespace Go.Proofs.Ytabffjahelogkaa
open Go.RowKit Go.Bs Go.Dk

theorem wRead_nil (w : World) (i : Int) : Calls Try.prog 4 #[.pointer none, .int .i64 i] w fun e w' => e = .returned (.tuple #[.slice none 0 0, .int .i64 3]) ∧ w = w' := by
  have HR := Lib.hid (wready_nil w)
  go_enter Try.func4, Try.ntmps4
  go_wp2_with fail
  refine HR.out.mono ?_
  rintro e w1 ⟨rfl, rfl⟩
  go_wp2
  go_ret2
  exact ⟨rfl, rfl⟩
/-- what was read: new memory, or nil. -/
def RdN (w w' : World) (v : Value) (bs : List UInt8) : Prop := (v = .slice none 0 0 ∧ bs = []) ∨ ∃ b, v = .slice (some ⟨b, 0, none⟩) bs.length bs.length ∧ Blk w' b 5 bs ∧ w.heap.size ≤ b
set_option maxHeartbeats 2000000 in
theorem wRead_any (w : World) (p g : Nat) (s : S) (log : Nat) (down : Bool) (D : Nat → Prop) (h : WalAt w p g s log down D) (i : Int) :
    Calls Try.prog 4 #[.pointer (some ⟨p, 0, none⟩), .int .i64 i] w fun e w' => ∃ v, e = .returned (.tuple #[v, .int .i64 (s.rdB log down i).2]) ∧ RdN w w' v (s.rdB log down i).1 ∧ WalAt w' p g s log ((s.rdB log down i).2 == 50) D ∧ Fr (fun k => k = p) w w' := by
  have HW := Lib.hid h
  have HRD := Lib.hid (wready_any w p g log down h.row)
  have HH := Lib.hid (whas_any w p g s log down D h i)
  have hlog : log ≤ 65536 := by have := h.l1; have := h.disk.ok.s1; omega
  obtain ⟨nb, hnb⟩ : ∃ nb, nbl s log = nb := ⟨_, rfl⟩
  have hnbl : nb ≤ 65536 := by unfold nbl at hnb; have := h.disk.ok.s1; omega
  rw [hnb] at HH
  have hplt := (Array.getElem?_eq_some_iff.1 h.row).1
  obtain ⟨R, hR⟩ : ∃ R, s.rdB log down i = R := ⟨_, rfl⟩
  rw [hR]
  unfold S.rdB at hR
  rw [show s.sectors - 1 - log = nb from hnb] at hR
  cases down
  · rw [if_neg (by simp)] at hR
    by_cases hi : 0 ≤ i ∧ i < (nb : Int)
    · rw [if_pos hi] at hR
      have hib : (decide (0 ≤ i) && decide (i < (nb : Int))) = true := by simp; exact hi
      rw [hib] at HH
      have HR := Lib.hid hR
      clear h hR hnb
      go_enter Try.func4, Try.ntmps4
      go_wp2_with fail
      refine HRD.out.mono ?_
      rintro e w1 ⟨rfl, rfl⟩
      go_wp2_with fail
      refine HH.out.mono ?_
      rintro e w1 ⟨rfl, k, rfl⟩
      obtain ⟨W1, hW1⟩ : ∃ W1, w.drewN k = W1 := ⟨_, rfl⟩
      have hbW : Below w.heap.size w W1 := by rw [← hW1]; exact below_drewN (Below.refl _ _) _
      have hszW : W1.heap.size = w.heap.size := by rw [← hW1]; rfl
      rw [hW1]
      clear hW1
      have hWd := HW.out.below hbW.drew
      have x2d := (wc_cells hWd.row).1
      have HSC := Lib.hid (sector_any W1.drew p g log false hWd.row hlog i (by omega))
      have HRE := Lib.hid (Read_any W1.drew g s D hWd.disk (1 + (log : Int) + i))
      have HWD := Lib.hid hWd
      have HBD := Lib.hid hbW.drew
      rw [HR.out] at HRE
      rw [← hszW] at hplt
      clear hWd hbW
      go_wp2_with fail
      refine wp_region_held_drew (S := fun W => W.cell? ⟨p, 0, none⟩ = some (.pointer (some ⟨g, 0, none⟩))) (by kernel_rfl) (x2d) (fun hHeld => ?_)
      refine wpAnyH_take (i := 0) (oi := { dst := some 19, op := Go.Op.move (Go.Operand.tmp 0), type := 23, pos := "wal.go:68", after := #[], guard := none }) (v := ?v0) rfl (by kernel_rfl) (by kernel_rfl) (by kernel_rfl) (fun _ _ _ h => h) (Or.inl ⟨by rfl, ?hy0⟩) hHeld ?_
      case hy0 => (intro w hSw; (try dsimp only at hSw); go_simp; first | done | with_reducible rfl)
      try simp only [Act.put, List.setIfInBounds_toArray, List.set_cons_zero, List.set_cons_succ]
      refine wpAnyH_take (i := 1) (oi := { dst := some 20, op := Go.Op.nilCheck (Go.Operand.tmp 19), type := 0, pos := "wal.go:68", after := #[{ on := 0, ground := Go.Ground.data }], guard := none }) (v := ?v1) rfl (by kernel_rfl) (by kernel_rfl) (by kernel_rfl) (fun _ _ _ h => h) (Or.inl ⟨by rfl, ?hy1⟩) hHeld ?_
      case hy1 => (intro w hSw; (try dsimp only at hSw); go_simp; first | done | with_reducible rfl)
      try simp only [Act.put, List.setIfInBounds_toArray, List.set_cons_zero, List.set_cons_succ]
      refine wpAnyH_take (i := 2) (oi := { dst := some 21, op := Go.Op.fieldAddr 43 (Go.Operand.tmp 20) 0, type := 0, pos := "wal.go:68", after := #[{ on := 1, ground := Go.Ground.data }], guard := none }) (v := ?v2) rfl (by kernel_rfl) (by kernel_rfl) (by kernel_rfl) (fun _ _ _ h => h) (Or.inl ⟨by rfl, ?hy2⟩) hHeld ?_
      case hy2 => (intro w hSw; (try dsimp only at hSw); go_simp; first | done | with_reducible rfl)
      try simp only [Act.put, List.setIfInBounds_toArray, List.set_cons_zero, List.set_cons_succ]
      refine wpAnyH_take (i := 3) (oi := { dst := some 22, op := Go.Op.load 32 (Go.Operand.tmp 21), type := 32, pos := "wal.go:68", after := #[{ on := 2, ground := Go.Ground.data }], guard := none }) (v := ?v3) rfl (by kernel_rfl) (by kernel_rfl) (by kernel_rfl) (fun _ _ _ h => h) (Or.inl ⟨by rfl, ?hy3⟩) hHeld ?_
      case hy3 => (intro w hSw; (try dsimp only at hSw); go_simp; first | done | with_reducible rfl)
      try simp only [Act.put, List.setIfInBounds_toArray, List.set_cons_zero, List.set_cons_succ]
      refine wpAnyH_take (i := 4) (oi := { dst := some 23, op := Go.Op.move (Go.Operand.tmp 0), type := 23, pos := "wal.go:68", after := #[], guard := none }) (v := ?v4) rfl (by kernel_rfl) (by kernel_rfl) (by kernel_rfl) (fun _ _ _ h => h) (Or.inl ⟨by rfl, ?hy4⟩) hHeld ?_
      case hy4 => (intro w hSw; (try dsimp only at hSw); go_simp; first | done | with_reducible rfl)
      try simp only [Act.put, List.setIfInBounds_toArray, List.set_cons_zero, List.set_cons_succ]
      refine wpAnyH_take (i := 5) (oi := { dst := some 24, op := Go.Op.move (Go.Operand.tmp 1), type := 3, pos := "wal.go:68", after := #[], guard := none }) (v := ?v5) rfl (by kernel_rfl) (by kernel_rfl) (by kernel_rfl) (fun _ _ _ h => h) (Or.inl ⟨by rfl, ?hy5⟩) hHeld ?_
      case hy5 => (intro w hSw; (try dsimp only at hSw); go_simp; first | done | with_reducible rfl)
      try simp only [Act.put, List.setIfInBounds_toArray, List.set_cons_zero, List.set_cons_succ]
      refine wpAnyH_ready (rs := [6]) (by kernel_rfl) (by simp) ?_
      refine AllReadyH.cons (o := { dst := some 25, op := Go.Op.call { callee := Go.Callee.value (Go.Operand.func 15), args := #[Go.Operand.tmp 23, Go.Operand.tmp 24], argTypes := #[23, 3] }, type := 3, pos := "wal.go:68", after := #[{ on := 4, ground := Go.Ground.data }, { on := 5, ground := Go.Ground.data }], guard := none }) rfl (fun K hK => ?_) AllReadyH.nil
      go_simp
      refine HSC.out.mono ?_
      rintro e w2 ⟨rfl, rfl⟩
      go_wp2_with fail
      refine hK.out _ _ (x2d) (fun hHeld => ?_)
      clear hK K
      try simp only [Act.put, List.setIfInBounds_toArray, List.set_cons_zero, List.set_cons_succ]
      refine wpAnyH_ready (rs := [7]) (by kernel_rfl) (by simp) ?_
      refine AllReadyH.cons (o := { dst := some 26, op := Go.Op.call { callee := Go.Callee.value (Go.Operand.func 14), args := #[Go.Operand.tmp 22, Go.Operand.tmp 25], argTypes := #[32, 3] }, type := 26, pos := "wal.go:68", after := #[{ on := 3, ground := Go.Ground.data }, { on := 6, ground := Go.Ground.data }, { on := 6, ground := Go.Ground.chain }], guard := none }) rfl (fun K hK => ?_) AllReadyH.nil
      go_simp
      refine HRE.out.mono ?_
      rintro e w3 ⟨v, rfl, hrv, hb3⟩
      have HRV := Lib.hid hrv
      have HB3 := Lib.hid hb3
      have x3 : w3.cell? ⟨p, 0, none⟩ = some (.pointer (some ⟨g, 0, none⟩)) := (hb3.cell (p := ⟨p, 0, none⟩) hplt).trans x2d
      clear hrv hb3
      go_wp2_with fail
      refine hK.out _ _ (x3) (fun hHeld => ?_)
      clear hK K
      try simp only [Act.put, List.setIfInBounds_toArray, List.set_cons_zero, List.set_cons_succ]
      refine wpAnyH_take (i := 8) (oi := { dst := some 18, op := Go.Op.move (Go.Operand.tmp 26), type := 26, pos := "wal.go:68", after := #[{ on := 7, ground := Go.Ground.data }], guard := none }) (v := ?v8) rfl (by kernel_rfl) (by kernel_rfl) (by kernel_rfl) (fun _ _ _ h => h) (Or.inl ⟨by rfl, ?hy8⟩) hHeld ?_
      case hy8 => (intro w hSw; (try dsimp only at hSw); go_simp; first | done | with_reducible rfl)
      try simp only [Act.put, List.setIfInBounds_toArray, List.set_cons_zero, List.set_cons_succ]
      refine wpAnyH_take (i := 9) (oi := { dst := some 27, op := Go.Op.extract (Go.Operand.tmp 18) 0, type := 24, pos := "wal.go:68", after := #[{ on := 8, ground := Go.Ground.data }], guard := none }) (v := ?v9) rfl (by kernel_rfl) (by kernel_rfl) (by kernel_rfl) (fun _ _ _ h => h) (Or.inl ⟨by rfl, ?hy9⟩) hHeld ?_
      case hy9 => (intro w hSw; (try dsimp only at hSw); go_simp; first | done | with_reducible rfl)
      try simp only [Act.put, List.setIfInBounds_toArray, List.set_cons_zero, List.set_cons_succ]
      refine wpAnyH_take (i := 10) (oi := { dst := some 28, op := Go.Op.extract (Go.Operand.tmp 18) 1, type := 25, pos := "wal.go:68", after := #[{ on := 8, ground := Go.Ground.data }, { on := 11, ground := Go.Ground.gcOnly Go.Departure.lateStores }], guard := none }) (v := ?v10) rfl (by kernel_rfl) (by kernel_rfl) (by kernel_rfl) (fun _ _ _ h => h) (Or.inl ⟨by rfl, ?hy10⟩) hHeld ?_
      case hy10 => (intro w hSw; (try dsimp only at hSw); go_simp; first | done | with_reducible rfl)
      try simp only [Act.put, List.setIfInBounds_toArray, List.set_cons_zero, List.set_cons_succ]
      refine wpAnyH_take (i := 11) (oi := { dst := some 7, op := Go.Op.assign (Go.Operand.tmp 27), type := 24, pos := "wal.go:68", after := #[{ on := 9, ground := Go.Ground.data }, { on := 7, ground := Go.Ground.chain }, { on := 0, ground := Go.Ground.phase }, { on := 1, ground := Go.Ground.phase }, { on := 2, ground := Go.Ground.phase }, { on := 3, ground := Go.Ground.phase }, { on := 4, ground := Go.Ground.phase }, { on := 5, ground := Go.Ground.phase }, { on := 6, ground := Go.Ground.phase }, { on := 7, ground := Go.Ground.phase }, { on := 8, ground := Go.Ground.phase }, { on := 9, ground := Go.Ground.phase }, { on := 10, ground := Go.Ground.textOnly Go.Departure.lateStores }], guard := none }) (v := ?v11) rfl (by kernel_rfl) (by kernel_rfl) (by kernel_rfl) (fun _ _ _ h => h) (Or.inl ⟨by rfl, ?hy11⟩) hHeld ?_
      case hy11 => (intro w hSw; (try dsimp only at hSw); go_simp; first | done | with_reducible rfl)
      try simp only [Act.put, List.setIfInBounds_toArray, List.set_cons_zero, List.set_cons_succ]
      refine wpAnyH_take (i := 12) (oi := { dst := some 8, op := Go.Op.assign (Go.Operand.tmp 28), type := 25, pos := "wal.go:68", after := #[{ on := 10, ground := Go.Ground.data }, { on := 11, ground := Go.Ground.chain }, { on := 0, ground := Go.Ground.phase }, { on := 1, ground := Go.Ground.phase }, { on := 2, ground := Go.Ground.phase }, { on := 3, ground := Go.Ground.phase }, { on := 4, ground := Go.Ground.phase }, { on := 5, ground := Go.Ground.phase }, { on := 6, ground := Go.Ground.phase }, { on := 7, ground := Go.Ground.phase }, { on := 8, ground := Go.Ground.phase }, { on := 9, ground := Go.Ground.phase }, { on := 10, ground := Go.Ground.phase }, { on := 11, ground := Go.Ground.phase }], guard := none }) (v := ?v12) rfl (by kernel_rfl) (by kernel_rfl) (by kernel_rfl) (fun _ _ _ h => h) (Or.inl ⟨by rfl, ?hy12⟩) hHeld ?_
      case hy12 => (intro w hSw; (try dsimp only at hSw); go_simp; first | done | with_reducible rfl)
      try simp only [Act.put, List.setIfInBounds_toArray, List.set_cons_zero, List.set_cons_succ]
      refine wpAnyH_done (by kernel_rfl) ?_ _
      have HHE := Lib.hid (heed_any w3 p g log false (HWD.out.below HB3.out).row R.2)
      go_wp2_with fail
      refine HHE.out.mono ?_
      rintro e w4 ⟨rfl, hw4⟩
      have HW4 := Lib.hid hw4
      clear hw4
      go_wp2
      go_ret2
      have hbT : Below w.heap.size w w3 := HBD.out.trans (HB3.out.mono (by show w.heap.size ≤ W1.heap.size; omega))
      refine ⟨_, rfl, ?_, ?_, ?_⟩
      · rcases HRV.out with hv | ⟨hv, hk⟩
        · exact .inl hv
        · refine .inr ⟨_, hv, ?_, by show w.heap.size ≤ W1.heap.size; omega⟩
          rw [HW4.out]
          exact (setCell_other w3 p 2 _ _ (by show W1.heap.size ≠ p; omega)).trans hk
      · rw [HW4.out]
        exact (HWD.out.below HB3.out).heed _
      · rw [HW4.out]
        exact Fr.setCell (D := fun k => k = p) (g := p) (Fr.of hbT) (.inl rfl) _
    · rw [if_neg hi] at hR
      have hib : (decide (0 ≤ i) && decide (i < (nb : Int))) = false := by simp; omega
      rw [hib] at HH
      have HR := Lib.hid hR
      clear h hR hnb hi hib
      go_enter Try.func4, Try.ntmps4
      go_wp2_with fail
      refine HRD.out.mono ?_
      rintro e w1 ⟨rfl, rfl⟩
      go_wp2_with fail
      refine HH.out.mono ?_
      rintro e w1 ⟨rfl, k, rfl⟩
      go_wp2
      go_ret2
      rw [← HR.out]
      exact ⟨_, rfl, .inl ⟨rfl, rfl⟩, HW.out.below (below_drewN (Below.refl _ _) _), Fr.of (below_drewN (Below.refl _ _) _)⟩
  · rw [if_pos rfl] at hR
    have HR := Lib.hid hR
    clear h hR hnb
    go_enter Try.func4, Try.ntmps4
    go_wp2_with fail
    refine HRD.out.mono ?_
    rintro e w1 ⟨rfl, rfl⟩
    go_wp2
    go_ret2
    rw [← HR.out]
    exact ⟨_, rfl, .inl ⟨rfl, rfl⟩, HW.out, Fr.refl _ _⟩
end Go.Proofs.Ytabffjahelogkaa
