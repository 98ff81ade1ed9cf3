/- Parse. Conditions: none. -/
import Derived.Test.YtlnghdldecnmgaaKE
import Derived.Deep.RegionHeld3
set_option maxRecDepth 8000
set_option linter.unusedSimpArgs false
set_option linter.unusedVariables false
namespace Go.Kx
open Go.RowKit Go.Bs
def ParseE (l : List UInt8) (e : Ending) : Prop := match parseF l with
  | some k => e = .returned (.tuple #[k.val, .int .i64 0])
  | none => e = .returned (.tuple #[(noneK 0).val, .int .i64 4])
theorem KyAt.set_a {w : World} {z : Nat} {k : Ky} (h : KyAt w z k) : w.setCell ⟨z, 1, none⟩ (st k.a) = w := by
  have e : k.cells.setIfInBounds 1 (st k.a) = k.cells := by simp [Ky.cells]
  rw [setCell_eq_setRow w z 1 _ 23 _ _ h, e]
  exact setRow_self w z _ 23 _ h
theorem KyAt.set_b {w : World} {z : Nat} {k : Ky} (h : KyAt w z k) : w.setCell ⟨z, 2, none⟩ (st k.b) = w := by
  have e : k.cells.setIfInBounds 2 (st k.b) = k.cells := by simp [Ky.cells]
  rw [setCell_eq_setRow w z 2 _ 23 _ _ h, e]
  exact setRow_self w z _ 23 _ h
end Go.Kx
namespace Go.Proofs.Ytlnghdldecnmgaa
open Go.RowKit Go.Bs Go.Kx
theorem results_cell2 {P : Program} {fn : Func} {t u : Tmp} {ty : TypeId} {ad : Addr} {v : Value} (h : fn.results = #[.cell t ty, .tmp u]) (tmps : Array Value) (w : World) (ht : tmps.getD t undef = .pointer (some ad))
    (hl : (loadVar ty ad).run P w = .ok v w) : (results fn tmps).run P w = .ok (.tuple #[v, tmps.getD u undef]) w := by
  have ht' : tmps[t]?.getD undef = .pointer (some ad) := by rw [← ht]; simp [Array.getD_eq_getD_getElem?]
  simp [results, h, ht', hl, asAddr]
theorem bytesE_text {k : Ky} {s : List UInt8} (h : bytesF k = some s) : s.length ≤ 130 := (bytesF_is h).len.2

set_option maxHeartbeats 4000000 in
theorem Parse_any (l : List UInt8) (w : World) (hl : l.length ≤ 1000) : Calls Try.prog 17 #[st l] w fun e w' => ParseE l e ∧ Below w.heap.size w w' := by
  obtain ⟨g, hg⟩ : ∃ g, w.heap.size = g := ⟨_, rfl⟩
  rw [hg]
  have hk0 : KyAt (w.alloc (.cells (noneK 0).cells 23)) g (noneK 0) := by rw [← hg]; exact KyAt.new w _
  have HB0 : Hid (Below g w (w.alloc (.cells (noneK 0).cells 23))) := by rw [← hg]; exact (Below.refl _ _).alloc (Nat.le_refl _) _
  have HRD := Lib.hid (readF_any l (w.alloc (.cells (noneK 0).cells 23)) hl)
  have HBD := Lib.hid (readF_bd l hl)
  obtain ⟨R, hR⟩ : ∃ R, readF l = R := ⟨_, rfl⟩
  have HPF : Hid (parseF l = if bytesF R = some l then some R else none) := by show parseF l = if bytesF R = some l then some R else none; unfold parseF; rw [hR]
  rw [hR] at HRD HBD
  have HK0 := Lib.hid hk0
  have HBY := Lib.hid (fun W => Bytes_any R W HBD.out)
  have HCA := Lib.hid (fun W => Clone_any R.a W (Nat.le_trans HBD.out.a (by omega)))
  have HCB := Lib.hid (fun W => Clone_any R.b W (Nat.le_trans HBD.out.b (by omega)))
  obtain ⟨W0, hW0⟩ : ∃ W0, w.alloc (.cells (noneK 0).cells 23) = W0 := ⟨_, rfl⟩
  rw [hW0] at HRD HB0 HK0
  have hs0 : W0.heap.size = g + 1 := by rw [← hW0]; simp [hg]
  have hW0' : w.alloc (.cells #[.int .i64 0, .string ⟨#[]⟩, .string ⟨#[]⟩, .int .i64 0, .int .i64 0] 23) = W0 := hW0
  obtain ⟨SA, hSA⟩ : ∃ SA, st R.a = .string SA := ⟨_, rfl⟩
  obtain ⟨SB, hSB⟩ : ∃ SB, st R.b = .string SB := ⟨_, rfl⟩
  have HSA := Lib.hid hSA
  have HSB := Lib.hid hSB
  have HW0 := Lib.hid hW0'
  have HS0 := Lib.hid hs0
  rw [hSA] at HCA
  rw [hSB] at HCB
  unfold Ky.val at HRD HBY
  rw [hSA, hSB] at HRD HBY
  have hz0 := HK0.out
  obtain ⟨z0, z1, z2, z3, z4, zf⟩ := hz0.at
  clear hk0 hR hW0 hW0' hs0 hSA hSB hz0 z0 z1 z2 z3 z4 zf
  go_enter Try.func17, Try.ntmps17
  go_wp2_with fail
  rw [HW0.out]
  refine HRD.out.mono ?_
  rintro e w1 ⟨rfl, hb1⟩
  obtain ⟨z, hz⟩ : ∃ z, w1.heap.size = z := ⟨_, rfl⟩
  obtain ⟨W1, hW1⟩ : ∃ W1, w1.alloc (.cells #[.int .i64 R.kind, .string SA, .string SB, .int .i64 R.n, .int .i64 R.m] 23) = W1 := ⟨_, rfl⟩
  have hcs : R.cells = #[.int .i64 R.kind, .string SA, .string SB, .int .i64 R.n, .int .i64 R.m] := by unfold Ky.cells; rw [HSA.out, HSB.out]
  have HK1 : Hid (KyAt W1 z R ∧ KyAt W1 g (noneK 0) ∧ Below g w W1 ∧ g + 2 ≤ W1.heap.size ∧ g < z) := by
    have hbb : Below w1.heap.size w1 W1 := by rw [← hW1]; exact (Below.refl _ _).alloc (Nat.le_refl _) _
    have h3 := hb1.size
    rw [HS0.out] at h3
    refine ⟨?_, (HK0.out.keep hb1).keep hbb, (HB0.out.trans (hb1.mono (by rw [HS0.out]; omega))).trans (hbb.mono (by omega)), ?_⟩
    · rw [← hW1, ← hz, ← hcs]; exact KyAt.new w1 R
    · refine ⟨?_, by omega⟩
      rw [← hW1]; simp; omega
  have HW1 := Lib.hid hW1
  have HZ := Lib.hid hz
  clear hb1 hW1 hcs
  go_wp2_with fail
  rw [HW1.out]
  refine (HBY.out _).mono ?_
  rintro e w2 ⟨he, hb2⟩
  have HB2 : Hid (KyAt w2 z R ∧ KyAt w2 g (noneK 0) ∧ Below g w w2 ∧ g + 2 ≤ w2.heap.size) := ⟨HK1.out.1.keep hb2, HK1.out.2.1.keep hb2, HK1.out.2.2.1.trans (hb2.mono (by have := HK1.out.2.2.2.1; omega)), Nat.le_trans HK1.out.2.2.2.1 hb2.size⟩
  clear hb2
  have hk2 := HB2.out.1
  have hk3 := HB2.out.2.1
  obtain ⟨l0, l1, l2, l3, l4, lf⟩ := hk2.at
  obtain ⟨z0, z1, z2, z3, z4, zf⟩ := hk3.at
  have zf0 := zf 0
  have zf1 := zf 1
  have zf2 := zf 2
  have zf3 := zf 3
  have zf4 := zf 4
  have hZG : g < z := HK1.out.2.2.2.2
  clear hk2 hk3 lf zf
  unfold BytesE at he
  obtain ⟨r, hr⟩ : ∃ r, bytesF R = r := ⟨_, rfl⟩
  rw [hr] at he HPF
  clear hr
  unfold st at z1 z2
  cases r with
  | none =>
    obtain rfl := he
    have HPN : Hid (parseF l = none) := by show parseF l = none; rw [HPF.out]; simp
    have HE : Hid (Below g w (((((w2.setCell ⟨g, 0, none⟩ (.int .i64 (noneK 0).kind)).setCell ⟨g, 1, none⟩ (st (noneK 0).a)).setCell ⟨g, 2, none⟩ (st (noneK 0).b)).setCell ⟨g, 3, none⟩ (.int .i64 (noneK 0).n)).setCell ⟨g, 4, none⟩ (.int .i64 (noneK 0).m))) :=
      ((((HB2.out.2.2.1.setCell (Nat.le_refl _) _).setCell (Nat.le_refl _) _).setCell (Nat.le_refl _) _).setCell (Nat.le_refl _) _).setCell (Nat.le_refl _) _
    go_wp2
    refine bodyPost_ret (results_cell2 (P := Try.prog) (fn := Try.f17) rfl _ _ rfl (run_loadVar_row _ g 23 23 _ (0, 0) _ (HB2.out.2.1.set5 (noneK 0)) Try.underlying23 rfl (by kernel_rfl))) rfl ⟨?_, HE.out⟩
    unfold ParseE
    rw [HPN.out]
    rfl
  | some s =>
    obtain rfl := he
    by_cases hsl : s = l
    · subst hsl
      have HPS : Hid (parseF s = some R) := by show parseF s = some R; rw [HPF.out]; simp
      have hGL1 : Hid (g ≤ w2.drew.heap.size) := Nat.le_trans (by omega) HB2.out.2.2.2
      have HGL1 := hGL1
      have hSB1 : Hid (w2.drew.cell? ⟨z, 1, none⟩ = some (.string SA) ∧ w2.drew.cell? ⟨z, 2, none⟩ = some (.string SB)) := ⟨by rw [← HSA.out]; exact l1, by rw [← HSB.out]; exact l2⟩
      have HWB1 : Hid (KyAt w2.drew z R ∧ KyAt w2.drew g (noneK 0) ∧ Below g w w2.drew) := ⟨HB2.out.1, HB2.out.2.1, HB2.out.2.2.1.drew⟩
      have hgz : g < w2.heap.size := by have := HB2.out.2.2.2; omega
      clear l0 l1 l2 l3 l4 z0 z1 z2 z3 z4 zf0 zf1 zf2 zf3 zf4
      unfold st
      go_wp2_with fail
      refine wp_region_held_drew (S := fun W : World => W.cell? ⟨z, 1, none⟩ = some (.string SA) ∧ W.cell? ⟨z, 2, none⟩ = some (.string SB)) (by kernel_rfl) (hSB1.out) (fun hHeld => ?_)
      refine wpAnyH_take (i := 0) (oi := { dst := some 22, op := Go.Op.fieldAddr 23 (Go.Operand.tmp 4) 1, type := 0, pos := "keys.go:44", after := #[], guard := none }) (v := ?vp0) rfl (by kernel_rfl) (by kernel_rfl) (by kernel_rfl) (fun _ _ _ h => h) (Or.inl ⟨by rfl, ?hyp0⟩) hHeld ?_
      case hyp0 => (intro w hSw; (try dsimp only at hSw); go_simp; first | done | with_reducible rfl)
      try simp only [Act.put, List.setIfInBounds_toArray, List.set_cons_zero, List.set_cons_succ]
      refine wpAnyH_take (i := 1) (oi := { dst := some 23, op := Go.Op.load 9 (Go.Operand.tmp 22), type := 9, pos := "keys.go:44", after := #[{ on := 0, ground := Go.Ground.data }], guard := none }) (v := ?vp1) rfl (by kernel_rfl) (by kernel_rfl) (by kernel_rfl) (fun _ _ _ h => h) (Or.inl ⟨by rfl, ?hyp1⟩) hHeld ?_
      case hyp1 => (intro w hSw; (try dsimp only at hSw); go_simp; first | done | with_reducible rfl)
      try simp only [Act.put, List.setIfInBounds_toArray, List.set_cons_zero, List.set_cons_succ]
      refine wpAnyH_take (i := 3) (oi := { dst := some 25, op := Go.Op.fieldAddr 23 (Go.Operand.tmp 4) 2, type := 0, pos := "keys.go:44", after := #[], guard := none }) (v := ?vp3) rfl (by kernel_rfl) (by kernel_rfl) (by kernel_rfl) (fun _ _ _ h => h) (Or.inl ⟨by rfl, ?hyp3⟩) hHeld ?_
      case hyp3 => (intro w hSw; (try dsimp only at hSw); go_simp; first | done | with_reducible rfl)
      try simp only [Act.put, List.setIfInBounds_toArray, List.set_cons_zero, List.set_cons_succ]
      refine wpAnyH_take (i := 4) (oi := { dst := some 26, op := Go.Op.load 9 (Go.Operand.tmp 25), type := 9, pos := "keys.go:44", after := #[{ on := 3, ground := Go.Ground.data }], guard := none }) (v := ?vp4) rfl (by kernel_rfl) (by kernel_rfl) (by kernel_rfl) (fun _ _ _ h => h) (Or.inl ⟨by rfl, ?hyp4⟩) hHeld ?_
      case hyp4 => (intro w hSw; (try dsimp only at hSw); go_simp; first | done | with_reducible rfl)
      try simp only [Act.put, List.setIfInBounds_toArray, List.set_cons_zero, List.set_cons_succ]
      refine wpAnyH_ready (rs := [2]) (by kernel_rfl) (by simp) ?_
      refine AllReadyH.cons (o := { dst := some 24, op := Go.Op.call { callee := Go.Callee.value (Go.Operand.func 27), args := #[Go.Operand.tmp 23], argTypes := #[9] }, type := 9, pos := "keys.go:44", after := #[{ on := 1, ground := Go.Ground.data }], guard := none }) rfl (fun K hK => ?_) AllReadyH.nil
      go_simp
      refine (HCA.out w2.drew).mono ?_
      rintro e w3 ⟨rfl, hb1⟩
      have hS1 : w3.cell? ⟨z, 1, none⟩ = some (.string SA) ∧ w3.cell? ⟨z, 2, none⟩ = some (.string SB) := ⟨(hb1.cell (p := ⟨z, 1, none⟩) (blt_of_cell hSB1.out.1)).trans hSB1.out.1, (hb1.cell (p := ⟨z, 2, none⟩) (blt_of_cell hSB1.out.2)).trans hSB1.out.2⟩
      have HW1 : Hid (KyAt w3 z R ∧ KyAt w3 g (noneK 0) ∧ Below g w w3) := ⟨HWB1.out.1.keep hb1, HWB1.out.2.1.keep hb1, HWB1.out.2.2.trans (hb1.mono HGL1.out)⟩
      have HGL2 : Hid (g ≤ w3.heap.size) := Nat.le_trans HGL1.out hb1.size
      have hSB2 := Lib.hid hS1
      have HWB2 := HW1
      clear hb1
      go_wp2_with fail
      refine hK.out _ _ (hS1) (fun hHeld => ?_)
      clear hK K
      try simp only [Act.put, List.setIfInBounds_toArray, List.set_cons_zero, List.set_cons_succ]
      refine wpAnyH_take (i := 6) (oi := { dst := some 28, op := Go.Op.fieldAddr 23 (Go.Operand.tmp 4) 1, type := 0, pos := "keys.go:44", after := #[{ on := 0, ground := Go.Ground.phase }, { on := 1, ground := Go.Ground.phase }, { on := 2, ground := Go.Ground.phase }, { on := 3, ground := Go.Ground.phase }, { on := 4, ground := Go.Ground.phase }, { on := 5, ground := Go.Ground.textOnly Go.Departure.lateStoresUnsure }], guard := none }) (v := ?vp6) rfl (by kernel_rfl) (by kernel_rfl) (by kernel_rfl) (fun _ _ _ h => h) (Or.inl ⟨by rfl, ?hyp6⟩) hHeld ?_
      case hyp6 => (intro w hSw; (try dsimp only at hSw); go_simp; first | done | with_reducible rfl)
      try simp only [Act.put, List.setIfInBounds_toArray, List.set_cons_zero, List.set_cons_succ]
      refine wpAnyH_ready (rs := [5]) (by kernel_rfl) (by simp) ?_
      refine AllReadyH.cons (o := { dst := some 27, op := Go.Op.call { callee := Go.Callee.value (Go.Operand.func 27), args := #[Go.Operand.tmp 26], argTypes := #[9] }, type := 9, pos := "keys.go:44", after := #[{ on := 4, ground := Go.Ground.data }, { on := 2, ground := Go.Ground.chain }], guard := none }) rfl (fun K hK => ?_) AllReadyH.nil
      go_simp
      refine (HCB.out w3).mono ?_
      rintro e w4 ⟨rfl, hb2⟩
      have hS2 : w4.cell? ⟨z, 1, none⟩ = some (.string SA) ∧ w4.cell? ⟨z, 2, none⟩ = some (.string SB) := ⟨(hb2.cell (p := ⟨z, 1, none⟩) (blt_of_cell hSB2.out.1)).trans hSB2.out.1, (hb2.cell (p := ⟨z, 2, none⟩) (blt_of_cell hSB2.out.2)).trans hSB2.out.2⟩
      have HW2 : Hid (KyAt w4 z R ∧ KyAt w4 g (noneK 0) ∧ Below g w w4) := ⟨HWB2.out.1.keep hb2, HWB2.out.2.1.keep hb2, HWB2.out.2.2.trans (hb2.mono HGL2.out)⟩
      have HGL3 : Hid (g ≤ w4.heap.size) := Nat.le_trans HGL2.out hb2.size
      have hSB3 := Lib.hid hS2
      have HWB3 := HW2
      clear hb2
      go_wp2_with fail
      refine hK.out _ _ (hS2) (fun hHeld => ?_)
      clear hK K
      try simp only [Act.put, List.setIfInBounds_toArray, List.set_cons_zero, List.set_cons_succ]
      refine wpAnyH_ready (rs := [7]) (by kernel_rfl) (by simp) ?_
      refine AllReadyH.cons (o := { dst := none, op := Go.Op.store 9 (Go.Operand.tmp 28) (Go.Operand.tmp 24), type := 0, pos := "keys.go:44", after := #[{ on := 6, ground := Go.Ground.data }, { on := 2, ground := Go.Ground.data }, { on := 5, ground := Go.Ground.chain }, { on := 0, ground := Go.Ground.phase }, { on := 1, ground := Go.Ground.phase }, { on := 2, ground := Go.Ground.phase }, { on := 3, ground := Go.Ground.phase }, { on := 4, ground := Go.Ground.phase }, { on := 5, ground := Go.Ground.textOnly Go.Departure.lateStoresUnsure }], guard := none }) rfl (fun K hK => ?_) AllReadyH.nil
      have st1 := hS2.1
      have fr1 := HW2.out.1.at.2.2.2.2.2 1
      have hset1 : w4.setCell ⟨z, 1, none⟩ (.string SA) = w4 := HSA.out ▸ HW2.out.1.set_a
      go_simp
      refine hK.out _ _ (hS2) (fun hHeld => ?_)
      clear hK K
      try simp only [Act.put, List.setIfInBounds_toArray, List.set_cons_zero, List.set_cons_succ]
      refine wpAnyH_take (i := 8) (oi := { dst := some 29, op := Go.Op.fieldAddr 23 (Go.Operand.tmp 4) 2, type := 0, pos := "keys.go:44", after := #[{ on := 0, ground := Go.Ground.phase }, { on := 1, ground := Go.Ground.phase }, { on := 2, ground := Go.Ground.phase }, { on := 3, ground := Go.Ground.phase }, { on := 4, ground := Go.Ground.phase }, { on := 5, ground := Go.Ground.phase }, { on := 6, ground := Go.Ground.phase }, { on := 7, ground := Go.Ground.phase }], guard := none }) (v := ?vp8) rfl (by kernel_rfl) (by kernel_rfl) (by kernel_rfl) (fun _ _ _ h => h) (Or.inl ⟨by rfl, ?hyp8⟩) hHeld ?_
      case hyp8 => (intro w hSw; (try dsimp only at hSw); go_simp; first | done | with_reducible rfl)
      try simp only [Act.put, List.setIfInBounds_toArray, List.set_cons_zero, List.set_cons_succ]
      refine wpAnyH_ready (rs := [9]) (by kernel_rfl) (by simp) ?_
      refine AllReadyH.cons (o := { dst := none, op := Go.Op.store 9 (Go.Operand.tmp 29) (Go.Operand.tmp 27), type := 0, pos := "keys.go:44", after := #[{ on := 8, ground := Go.Ground.data }, { on := 5, ground := Go.Ground.data }, { on := 7, ground := Go.Ground.chain }, { on := 0, ground := Go.Ground.phase }, { on := 1, ground := Go.Ground.phase }, { on := 2, ground := Go.Ground.phase }, { on := 3, ground := Go.Ground.phase }, { on := 4, ground := Go.Ground.phase }, { on := 5, ground := Go.Ground.phase }, { on := 6, ground := Go.Ground.phase }, { on := 7, ground := Go.Ground.phase }], guard := none }) rfl (fun K hK => ?_) AllReadyH.nil
      have st2 := hS2.2
      have fr2 := HW2.out.1.at.2.2.2.2.2 2
      have hset2 : w4.setCell ⟨z, 2, none⟩ (.string SB) = w4 := HSB.out ▸ HW2.out.1.set_b
      go_simp
      refine hK.out _ _ (hS2) (fun hHeld => ?_)
      clear hK K
      try simp only [Act.put, List.setIfInBounds_toArray, List.set_cons_zero, List.set_cons_succ]
      refine wpAnyH_done (by kernel_rfl) ?_ _
      clear hHeld
      have hk4 := HW2.out.1
      have hk5 := HW2.out.2.1
      obtain ⟨l0, l1, l2, l3, l4, lf⟩ := hk4.at
      obtain ⟨z0, z1, z2, z3, z4, zf⟩ := hk5.at
      have zf0 := zf 0
      have zf1 := zf 1
      have zf2 := zf 2
      have zf3 := zf 3
      have zf4 := zf 4
      have HE : Hid (Below g w (((((w4.setCell ⟨g, 0, none⟩ (.int .i64 R.kind)).setCell ⟨g, 1, none⟩ (st R.a)).setCell ⟨g, 2, none⟩ (st R.b)).setCell ⟨g, 3, none⟩ (.int .i64 R.n)).setCell ⟨g, 4, none⟩ (.int .i64 R.m))) :=
        ((((HW2.out.2.2.setCell (Nat.le_refl _) _).setCell (Nat.le_refl _) _).setCell (Nat.le_refl _) _).setCell (Nat.le_refl _) _).setCell (Nat.le_refl _) _
      have HK5 := Lib.hid (hk5.set5 R)
      rw [HSA.out] at l1
      rw [HSB.out] at l2
      rw [HSA.out, HSB.out] at HE HK5
      unfold st at z1 z2
      clear hk4 hk5 lf zf hS2 hS1
      go_wp2
      refine bodyPost_ret (results_cell2 (P := Try.prog) (fn := Try.f17) rfl _ _ rfl (run_loadVar_row _ g 23 23 _ (0, 0) _ HK5.out Try.underlying23 rfl (by kernel_rfl))) rfl ⟨?_, HE.out⟩
      unfold ParseE
      rw [HPS.out]
      rfl
    · have hne : (s == l) = false := by rw [beq_eq_false_iff_ne]; exact hsl
      unfold st
      have HPN : Hid (parseF l = none) := by show parseF l = none; rw [HPF.out, if_neg (by intro e; exact hsl (Option.some.inj e))]
      have HE : Hid (Below g w (((((w2.setCell ⟨g, 0, none⟩ (.int .i64 (noneK 0).kind)).setCell ⟨g, 1, none⟩ (st (noneK 0).a)).setCell ⟨g, 2, none⟩ (st (noneK 0).b)).setCell ⟨g, 3, none⟩ (.int .i64 (noneK 0).n)).setCell ⟨g, 4, none⟩ (.int .i64 (noneK 0).m))) :=
        ((((HB2.out.2.2.1.setCell (Nat.le_refl _) _).setCell (Nat.le_refl _) _).setCell (Nat.le_refl _) _).setCell (Nat.le_refl _) _).setCell (Nat.le_refl _) _
      go_wp2
      refine bodyPost_ret (results_cell2 (P := Try.prog) (fn := Try.f17) rfl _ _ rfl (run_loadVar_row _ g 23 23 _ (0, 0) _ (HB2.out.2.1.set5 (noneK 0)) Try.underlying23 rfl (by kernel_rfl))) rfl ⟨?_, HE.out⟩
      unfold ParseE
      rw [HPN.out]
      rfl
end Go.Proofs.Ytlnghdldecnmgaa
