/- The commit is unset. Conditions: none. -/
import Derived.Test.YtabffjahelogkaaW4
import Derived.Deep.RegionHeld3
namespace Go.Proofs.Ytabffjahelogkaa
open Go.RowKit Go.Bs Go.Dk

set_option maxHeartbeats 2000000 in
theorem unset_any (w : World) (p g : Nat) (s : S) (log : Nat) (down : Bool) (D : Nat → Prop) (h : WalAt w p g s log down D) (hd : s.deeds < 900000) (hf : s.Fine) :
    Calls Try.prog 40 #[.pointer (some ⟨p, 0, none⟩)] w fun e w' => e = .returned (.int .i64 (s.write 0 (zeros s.bytes)).2) ∧ Wd D p g (s.write 0 (zeros s.bytes)).1 log down w w' := by
  have HS := Lib.hid (Size_any w g s D h.disk)
  obtain ⟨c0, _, _, _⟩ := wc_cells h.row
  have hb1 := h.disk.ok.b1
  obtain ⟨n, hn⟩ : ∃ n, s.bytes = n := ⟨_, rfl⟩
  have HW := Lib.hid h
  have HSZ := Lib.hid (S.write_sz s 0 (zeros n))
  have HF := Lib.hid hf
  obtain ⟨R, hR⟩ : ∃ R, s.write 0 (zeros n) = R := ⟨_, rfl⟩
  have HR := Lib.hid hR
  rw [hn] at HS hb1 ⊢
  rw [hR] at HSZ ⊢
  clear h hf hn hR
  go_enter Try.func40, Try.ntmps40
  go_wp2_with fail
  refine HS.out.mono ?_
  rintro e w1 ⟨rfl, k, rfl⟩
  obtain ⟨W1, hW1⟩ : ∃ W1, w.drewN k = W1 := ⟨_, rfl⟩
  have hbW : Below w.heap.size w W1 := by rw [← hW1]; exact below_drewN (Below.refl _ _) _
  rw [hW1]
  clear hW1
  have c0' : W1.cell? ⟨p, 0, none⟩ = some (.pointer (some ⟨g, 0, none⟩)) := (wc_cells (HW.out.below hbW).row).1
  have hmk := make_zeros n (by omega) W1.drew
  obtain ⟨X, hX⟩ : ∃ X, W1.drew.alloc (rowObj 5 (zeros n)) = X := ⟨_, rfl⟩
  have hXb : Below w.heap.size w X := by rw [← hX]; exact hbW.drew.alloc hbW.size _
  have hrd : Rd X (some ⟨W1.drew.heap.size, 0, none⟩) n n (zeros n) := by rw [← hX]; exact (Blk.new W1.drew 5 (zeros n)).all' n n (zeros_length n) (Nat.le_refl _)
  have HC := Lib.hid (Write_any X g s D (HW.out.below hXb).disk HF.out hd 0 _ n n _ hrd (by omega))
  rw [HR.out] at HC
  have c0X := (wc_cells (HW.out.below hXb).row).1
  have c0d : W1.drew.cell? ⟨p, 0, none⟩ = some (.pointer (some ⟨g, 0, none⟩)) := c0'
  obtain ⟨z, hz⟩ : ∃ z, W1.drew.heap.size = z := ⟨_, rfl⟩
  have hrowK : ∀ {w2 : World}, Did D g R.1 X w2 → w2.cell? ⟨p, 0, none⟩ = some (.pointer (some ⟨g, 0, none⟩)) := fun hd => by
    obtain ⟨D2, h3, h4, h5⟩ := hd
    exact (World.cell?_of_block (a := ⟨p, 0, none⟩) (h5.block p (Array.getElem?_eq_some_iff.1 (HW.out.below hXb).row).1 HW.out.pD)).trans c0X
  rw [hz] at hmk HC
  rw [hX] at hmk
  have HXB := Lib.hid hXb
  clear hXb hrd hz hX hbW
  go_wp2_with fail
  refine wp_region_held_drew (S := fun W => W.cell? ⟨p, 0, none⟩ = some (.pointer (some ⟨g, 0, none⟩))) (by kernel_rfl) (c0d) (fun hHeld => ?_)
  refine wpAnyH_take (i := 0) (oi := { dst := some 13, op := Go.Op.move (Go.Operand.tmp 0), type := 23, pos := "wal.go:147", after := #[], guard := none }) (v := ?v0) rfl (by kernel_rfl) (by kernel_rfl) (by kernel_rfl) (fun _ _ _ h => h) (Or.inl ⟨by rfl, ?hy0⟩) hHeld ?_
  case hy0 => (intro w hSw; (try dsimp only at hSw); go_simp; first | done | with_reducible rfl)
  try simp only [Act.put, List.setIfInBounds_toArray, List.set_cons_zero, List.set_cons_succ]
  refine wpAnyH_take (i := 1) (oi := { dst := some 14, op := Go.Op.nilCheck (Go.Operand.tmp 13), type := 0, pos := "wal.go:147", after := #[{ on := 0, ground := Go.Ground.data }], guard := none }) (v := ?v1) rfl (by kernel_rfl) (by kernel_rfl) (by kernel_rfl) (fun _ _ _ h => h) (Or.inl ⟨by rfl, ?hy1⟩) hHeld ?_
  case hy1 => (intro w hSw; (try dsimp only at hSw); go_simp; first | done | with_reducible rfl)
  try simp only [Act.put, List.setIfInBounds_toArray, List.set_cons_zero, List.set_cons_succ]
  refine wpAnyH_take (i := 2) (oi := { dst := some 15, op := Go.Op.fieldAddr 43 (Go.Operand.tmp 14) 0, type := 0, pos := "wal.go:147", after := #[{ on := 1, ground := Go.Ground.data }], guard := none }) (v := ?v2) rfl (by kernel_rfl) (by kernel_rfl) (by kernel_rfl) (fun _ _ _ h => h) (Or.inl ⟨by rfl, ?hy2⟩) hHeld ?_
  case hy2 => (intro w hSw; (try dsimp only at hSw); go_simp; first | done | with_reducible rfl)
  try simp only [Act.put, List.setIfInBounds_toArray, List.set_cons_zero, List.set_cons_succ]
  refine wpAnyH_take (i := 3) (oi := { dst := some 16, op := Go.Op.load 32 (Go.Operand.tmp 15), type := 32, pos := "wal.go:147", after := #[{ on := 2, ground := Go.Ground.data }], guard := none }) (v := ?v3) rfl (by kernel_rfl) (by kernel_rfl) (by kernel_rfl) (fun _ _ _ h => h) (Or.inl ⟨by rfl, ?hy3⟩) hHeld ?_
  case hy3 => (intro w hSw; (try dsimp only at hSw); go_simp; first | done | with_reducible rfl)
  try simp only [Act.put, List.setIfInBounds_toArray, List.set_cons_zero, List.set_cons_succ]
  refine wpAnyH_take (i := 4) (oi := { dst := some 17, op := Go.Op.move (Go.Operand.tmp 4), type := 3, pos := "wal.go:147", after := #[], guard := none }) (v := ?v4) rfl (by kernel_rfl) (by kernel_rfl) (by kernel_rfl) (fun _ _ _ h => h) (Or.inl ⟨by rfl, ?hy4⟩) hHeld ?_
  case hy4 => (intro w hSw; (try dsimp only at hSw); go_simp; first | done | with_reducible rfl)
  try simp only [Act.put, List.setIfInBounds_toArray, List.set_cons_zero, List.set_cons_succ]
  refine wpAnyH_ready (rs := [5]) (by kernel_rfl) (by simp) ?_
  refine AllReadyH.cons (o := { dst := some 18, op := Go.Op.makeSlice 24 (Go.Operand.tmp 17) (Go.Operand.tmp 17), type := 24, pos := "wal.go:147", after := #[{ on := 4, ground := Go.Ground.data }, { on := 4, ground := Go.Ground.data }], guard := none }) rfl (fun K hK => ?_) AllReadyH.nil
  go_simp
  refine hK.out _ _ (c0X) (fun hHeld => ?_)
  clear hK K
  try simp only [Act.put, List.setIfInBounds_toArray, List.set_cons_zero, List.set_cons_succ]
  refine wpAnyH_ready (rs := [6]) (by kernel_rfl) (by simp) ?_
  refine AllReadyH.cons (o := { dst := some 19, op := Go.Op.call { callee := Go.Callee.value (Go.Operand.func 29), args := #[Go.Operand.tmp 16, Go.Operand.const (Go.Value.int Go.IntKind.i64 0), Go.Operand.tmp 18], argTypes := #[32, 3, 24] }, type := 25, pos := "wal.go:147", after := #[{ on := 3, ground := Go.Ground.data }, { on := 5, ground := Go.Ground.data }], guard := none }) rfl (fun K hK => ?_) AllReadyH.nil
  go_simp
  refine HC.out.mono ?_
  rintro e w2 ⟨rfl, hdid⟩
  have HDID := Lib.hid hdid
  have c0Y : w2.cell? ⟨p, 0, none⟩ = some (.pointer (some ⟨g, 0, none⟩)) := hrowK hdid
  clear hdid
  go_wp2_with fail
  refine hK.out _ _ (c0Y) (fun hHeld => ?_)
  clear hK K
  try simp only [Act.put, List.setIfInBounds_toArray, List.set_cons_zero, List.set_cons_succ]
  refine wpAnyH_take (i := 7) (oi := { dst := some 2, op := Go.Op.assign (Go.Operand.tmp 19), type := 25, pos := "wal.go:147", after := #[{ on := 6, ground := Go.Ground.data }, { on := 6, ground := Go.Ground.chain }, { on := 0, ground := Go.Ground.phase }, { on := 1, ground := Go.Ground.phase }, { on := 2, ground := Go.Ground.phase }, { on := 3, ground := Go.Ground.phase }, { on := 4, ground := Go.Ground.phase }, { on := 5, ground := Go.Ground.phase }, { on := 6, ground := Go.Ground.phase }], guard := none }) (v := ?v7) rfl (by kernel_rfl) (by kernel_rfl) (by kernel_rfl) (fun _ _ _ h => h) (Or.inl ⟨by rfl, ?hy7⟩) hHeld ?_
  case hy7 => (intro w hSw; (try dsimp only at hSw); go_simp; first | done | with_reducible rfl)
  try simp only [Act.put, List.setIfInBounds_toArray, List.set_cons_zero, List.set_cons_succ]
  refine wpAnyH_done (by kernel_rfl) ?_ _
  go_wp2
  go_ret
  exact ⟨rfl, (HW.out.below HXB.out).did (fun _ h => .inl h) (Fr.of HXB.out) HDID.out HSZ.out⟩
end Go.Proofs.Ytabffjahelogkaa
