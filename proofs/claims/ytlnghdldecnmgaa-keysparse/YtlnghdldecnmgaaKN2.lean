/- The document's Prefix, by kind. Conditions: none. -/
import Derived.Test.YtlnghdldecnmgaaKM
import Derived.Deep.RegionHeld3
set_option maxRecDepth 8000
set_option linter.unusedSimpArgs false
set_option linter.unusedVariables false
namespace Go.Proofs.Ytlnghdldecnmgaa
open Go.RowKit Go.Bs Go.Kx
set_option maxHeartbeats 4000000 in
theorem rPrefix_3 (a b : List UInt8) (n m : Int)  (w W2 : World) (g : Nat) (L : UInt8) (hL : letterOf 3 = L) (hw2 : w.alloc (.cells (⟨3, a, b, n, m⟩ : Ky).cells 23) = W2) (hg : w.heap.size = g) (hla : a.length ≤ 1000) (hlb : b.length ≤ 1000) (hn : -9223372036854775808 ≤ n ∧ n ≤ 9223372036854775807) :
    Calls Try.prog 13 #[(⟨3, a, b, n, m⟩ : Ky).val] w fun e w' => (∃ s ok, e = .returned (.tuple #[st s, .bool ok]) ∧ (ok = true → prefixF ⟨3, a, b, n, m⟩ = some s) ∧ (ok = false → prefixF ⟨3, a, b, n, m⟩ = none)) ∧ Below g w w' := by
  have HB2 : Hid (Below g w W2) := by rw [← hw2, ← hg]; exact (Below.refl _ _).alloc (Nat.le_refl _) _
  have hk : KyAt W2 g ⟨3, a, b, n, m⟩ := by rw [← hw2, ← hg]; exact KyAt.new w _
  obtain ⟨c0, c1, c2, c3, c4, cf⟩ := hk.at
  have hlr : ∀ W, (Instr.slice 9 (.string ⟨#[32, 110, 105, 99, 100, 112, 114, 117, 102, 103, 116]⟩) (some (.int .i64 3)) (some (.int .i64 4)) none).run Try.prog W = .ok (st [L]) W := by
    rw [← hL]; exact letter_run 3 (by omega)
  obtain ⟨SA, hsa⟩ : ∃ SA, st a = .string SA := ⟨_, rfl⟩
  obtain ⟨SB, hsb⟩ : ∃ SB, st b = .string SB := ⟨_, rfl⟩
  have hw2' : w.alloc (.cells #[.int .i64 3, .string SA, .string SB, .int .i64 n, .int .i64 m] 23) = W2 := by rw [← hw2]; unfold Ky.cells; rw [hsa, hsb]
  have HW2 := Lib.hid hw2'
  have HG := Lib.hid hg
  show Calls Try.prog 13 #[.agg #[.int .i64 3, st a, st b, .int .i64 n, .int .i64 m]] w _
  simp only at c0 c1 c2 c3 c4
  rw [hsa] at c1
  rw [hsb] at c2
  rw [hsa, hsb]
  have HP := Lib.hid (prefix_num ⟨3, a, b, n, m⟩ (by simp))
  obtain ⟨x, hx⟩ : ∃ x : Nat, (if n < 0 then 0 else n) = (x : Int) := ⟨((if n < 0 then 0 else n) : Int).toNat, by split <;> omega⟩
  have H3 : Hid (∀ W, Calls Try.prog 22 #[.int .i64 (x : Int)] W fun e w' => e = .returned (st (be 3 x)) ∧ Below W.heap.size W w') := fun W => rThree_any x W (by split at hx <;> omega)
  have HNU := Lib.hid (fun W => rNumber_any 3 n W)
  obtain ⟨nu, hnu⟩ : ∃ nu, numR 3 n = nu := ⟨_, rfl⟩
  rw [hnu] at HNU
  have HNN : Hid (nu = true ↔ n ≤ 16777215 ∧ 1 ≤ n) := by
    show nu = true ↔ n ≤ 16777215 ∧ 1 ≤ n
    rw [← hnu, numR_iff]; omega
  have HX : Hid (0 ≤ n → n.toNat = x) := fun h => by rw [if_neg (by omega)] at hx; omega
  have hadd0 := add_st [L] (be 3 x) (by simp [be_length])
  obtain ⟨r1, hr1⟩ : ∃ rr, [L] ++ be 3 x = rr := ⟨_, rfl⟩
  rw [hr1] at hadd0
  have HR1 : Hid (L :: be 3 x = r1) := by show L :: be 3 x = r1; rw [← hr1]; rfl
  have HLL := Lib.hid hL
  have hgl : g ≤ W2.heap.size := by have := HB2.out.size; omega
  have HHG : Hid (g ≤ W2.drew.heap.size) := hgl
  have HS0 : Hid (W2.drew.cell? ⟨g, 0, none⟩ = some (.int .i64 3) ∧ W2.drew.cell? ⟨g, 1, none⟩ = some (.string SA) ∧ W2.drew.cell? ⟨g, 3, none⟩ = some (.int .i64 n)) := ⟨c0, c1, c3⟩
  clear hw2 hw2' hk cf hL hsa hsb hnu hr1 hgl
  go_enter Try.func13, Try.ntmps13
  go_wp2_with fail
  rw [HW2.out]
  refine wp_region_held_drew (S := fun W : World => W.cell? ⟨g, 0, none⟩ = some (.int .i64 3) ∧ W.cell? ⟨g, 1, none⟩ = some (.string SA) ∧ W.cell? ⟨g, 3, none⟩ = some (.int .i64 n)) (by kernel_rfl) (HS0.out) (fun hHeld => ?_)
  refine wpAnyH_take (i := 0) (oi := { dst := some 24, op := Go.Op.move (Go.Operand.tmp 4), type := 9, pos := "ref.go:135", after := #[], guard := none }) (v := ?vm30) rfl (by kernel_rfl) (by kernel_rfl) (by kernel_rfl) (fun _ _ _ h => h) (Or.inl ⟨by rfl, ?hym30⟩) hHeld ?_
  case hym30 => (intro w hSw; (try dsimp only at hSw); go_simp; first | done | with_reducible rfl)
  try simp only [Act.put, List.setIfInBounds_toArray, List.set_cons_zero, List.set_cons_succ]
  refine wpAnyH_take (i := 1) (oi := { dst := some 25, op := Go.Op.fieldAddr 23 (Go.Operand.tmp 1) 3, type := 0, pos := "ref.go:135", after := #[], guard := none }) (v := ?vm31) rfl (by kernel_rfl) (by kernel_rfl) (by kernel_rfl) (fun _ _ _ h => h) (Or.inl ⟨by rfl, ?hym31⟩) hHeld ?_
  case hym31 => (intro w hSw; (try dsimp only at hSw); go_simp; first | done | with_reducible rfl)
  try simp only [Act.put, List.setIfInBounds_toArray, List.set_cons_zero, List.set_cons_succ]
  refine wpAnyH_take (i := 2) (oi := { dst := some 26, op := Go.Op.load 3 (Go.Operand.tmp 25), type := 3, pos := "ref.go:135", after := #[{ on := 1, ground := Go.Ground.data }], guard := none }) (v := ?vm32) rfl (by kernel_rfl) (by kernel_rfl) (by kernel_rfl) (fun _ _ _ h => h) (Or.inl ⟨by rfl, ?hym32⟩) hHeld ?_
  case hym32 => (intro w hSw; (try dsimp only at hSw); go_simp; first | done | with_reducible rfl)
  try simp only [Act.put, List.setIfInBounds_toArray, List.set_cons_zero, List.set_cons_succ]
  refine wpAnyH_take (i := 3) (oi := { dst := some 27, op := Go.Op.call { callee := Go.Callee.builtin Go.Builtin.max, args := #[Go.Operand.tmp 26, Go.Operand.const (Go.Value.int Go.IntKind.i64 0)], argTypes := #[3, 3] }, type := 3, pos := "ref.go:135", after := #[{ on := 2, ground := Go.Ground.data }], guard := none }) (v := ?vm33) rfl (by kernel_rfl) (by kernel_rfl) (by kernel_rfl) (fun _ _ _ h => h) (Or.inl ⟨by rfl, ?hym33⟩) hHeld ?_
  case hym33 => (intro w hSw; (try dsimp only at hSw); go_simp; first | done | with_reducible rfl)
  try simp only [Act.put, List.setIfInBounds_toArray, List.set_cons_zero, List.set_cons_succ]
  refine wpAnyH_take (i := 6) (oi := { dst := some 30, op := Go.Op.fieldAddr 23 (Go.Operand.tmp 1) 0, type := 0, pos := "ref.go:135", after := #[], guard := none }) (v := ?vm36) rfl (by kernel_rfl) (by kernel_rfl) (by kernel_rfl) (fun _ _ _ h => h) (Or.inl ⟨by rfl, ?hym36⟩) hHeld ?_
  case hym36 => (intro w hSw; (try dsimp only at hSw); go_simp; first | done | with_reducible rfl)
  try simp only [Act.put, List.setIfInBounds_toArray, List.set_cons_zero, List.set_cons_succ]
  refine wpAnyH_take (i := 7) (oi := { dst := some 31, op := Go.Op.load 3 (Go.Operand.tmp 30), type := 3, pos := "ref.go:135", after := #[{ on := 6, ground := Go.Ground.data }], guard := none }) (v := ?vm37) rfl (by kernel_rfl) (by kernel_rfl) (by kernel_rfl) (fun _ _ _ h => h) (Or.inl ⟨by rfl, ?hym37⟩) hHeld ?_
  case hym37 => (intro w hSw; (try dsimp only at hSw); go_simp; first | done | with_reducible rfl)
  try simp only [Act.put, List.setIfInBounds_toArray, List.set_cons_zero, List.set_cons_succ]
  refine wpAnyH_take (i := 8) (oi := { dst := some 32, op := Go.Op.fieldAddr 23 (Go.Operand.tmp 1) 3, type := 0, pos := "ref.go:135", after := #[], guard := none }) (v := ?vm38) rfl (by kernel_rfl) (by kernel_rfl) (by kernel_rfl) (fun _ _ _ h => h) (Or.inl ⟨by rfl, ?hym38⟩) hHeld ?_
  case hym38 => (intro w hSw; (try dsimp only at hSw); go_simp; first | done | with_reducible rfl)
  try simp only [Act.put, List.setIfInBounds_toArray, List.set_cons_zero, List.set_cons_succ]
  refine wpAnyH_take (i := 9) (oi := { dst := some 33, op := Go.Op.load 3 (Go.Operand.tmp 32), type := 3, pos := "ref.go:135", after := #[{ on := 8, ground := Go.Ground.data }], guard := none }) (v := ?vm39) rfl (by kernel_rfl) (by kernel_rfl) (by kernel_rfl) (fun _ _ _ h => h) (Or.inl ⟨by rfl, ?hym39⟩) hHeld ?_
  case hym39 => (intro w hSw; (try dsimp only at hSw); go_simp; first | done | with_reducible rfl)
  try simp only [Act.put, List.setIfInBounds_toArray, List.set_cons_zero, List.set_cons_succ]
  refine wpAnyH_ready (rs := [4]) (by kernel_rfl) (by simp) ?_
  refine AllReadyH.cons (o := { dst := some 28, op := Go.Op.call { callee := Go.Callee.value (Go.Operand.func 22), args := #[Go.Operand.tmp 27], argTypes := #[3] }, type := 9, pos := "ref.go:135", after := #[{ on := 3, ground := Go.Ground.data }], guard := none }) rfl (fun K hK => ?_) AllReadyH.nil
  go_simp
  refine (H3.out _).mono ?_
  rintro e w3 ⟨rfl, hb3⟩
  have hS3 : w3.cell? ⟨g, 0, none⟩ = some (.int .i64 3) ∧ w3.cell? ⟨g, 1, none⟩ = some (.string SA) ∧ w3.cell? ⟨g, 3, none⟩ = some (.int .i64 n) := ⟨(hb3.cell (p := ⟨g, 0, none⟩) (blt_of_cell HS0.out.1)).trans HS0.out.1, (hb3.cell (p := ⟨g, 1, none⟩) (blt_of_cell HS0.out.2.1)).trans HS0.out.2.1, (hb3.cell (p := ⟨g, 3, none⟩) (blt_of_cell HS0.out.2.2)).trans HS0.out.2.2⟩
  have HB3 : Hid (Below g w w3) := HB2.out.drew.trans (hb3.mono HHG.out)
  clear hb3
  go_wp2_with fail
  refine hK.out _ _ (hS3) (fun hHeld => ?_)
  clear hK K
  try simp only [Act.put, List.setIfInBounds_toArray, List.set_cons_zero, List.set_cons_succ]
  refine wpAnyH_take (i := 5) (oi := { dst := some 29, op := Go.Op.binOp Go.BinOp.add 9 (Go.Operand.tmp 24) (Go.Operand.tmp 28) 9, type := 9, pos := "ref.go:135", after := #[{ on := 0, ground := Go.Ground.data }, { on := 4, ground := Go.Ground.data }], guard := none }) (v := ?vm35) rfl (by kernel_rfl) (by kernel_rfl) (by kernel_rfl) (fun _ _ _ h => h) (Or.inl ⟨by rfl, ?hym35⟩) hHeld ?_
  case hym35 => (intro w hSw; (try dsimp only at hSw); go_simp; first | done | with_reducible rfl)
  try simp only [Act.put, List.setIfInBounds_toArray, List.set_cons_zero, List.set_cons_succ]
  refine wpAnyH_ready (rs := [10]) (by kernel_rfl) (by simp) ?_
  refine AllReadyH.cons (o := { dst := some 34, op := Go.Op.call { callee := Go.Callee.value (Go.Operand.func 23), args := #[Go.Operand.tmp 31, Go.Operand.tmp 33], argTypes := #[3, 3] }, type := 4, pos := "ref.go:135", after := #[{ on := 7, ground := Go.Ground.data }, { on := 9, ground := Go.Ground.data }, { on := 4, ground := Go.Ground.chain }], guard := none }) rfl (fun K hK => ?_) AllReadyH.nil
  go_simp
  refine (HNU.out _).mono ?_
  rintro e w4 ⟨rfl, rfl⟩
  go_wp2_with fail
  refine hK.out _ _ (hS3) (fun hHeld => ?_)
  clear hK K
  try simp only [Act.put, List.setIfInBounds_toArray, List.set_cons_zero, List.set_cons_succ]
  refine wpAnyH_take (i := 11) (oi := { dst := some 2, op := Go.Op.assign (Go.Operand.tmp 29), type := 9, pos := "ref.go:135", after := #[{ on := 5, ground := Go.Ground.data }, { on := 10, ground := Go.Ground.chain }, { on := 0, ground := Go.Ground.phase }, { on := 1, ground := Go.Ground.phase }, { on := 2, ground := Go.Ground.phase }, { on := 3, ground := Go.Ground.phase }, { on := 4, ground := Go.Ground.phase }, { on := 5, ground := Go.Ground.phase }, { on := 6, ground := Go.Ground.textOnly Go.Departure.lateStores }, { on := 7, ground := Go.Ground.textOnly Go.Departure.lateStores }, { on := 8, ground := Go.Ground.textOnly Go.Departure.lateStores }, { on := 9, ground := Go.Ground.textOnly Go.Departure.lateStores }, { on := 10, ground := Go.Ground.textOnly Go.Departure.lateStoresUnsure }], guard := none }) (v := ?vm311) rfl (by kernel_rfl) (by kernel_rfl) (by kernel_rfl) (fun _ _ _ h => h) (Or.inl ⟨by rfl, ?hym311⟩) hHeld ?_
  case hym311 => (intro w hSw; (try dsimp only at hSw); go_simp; first | done | with_reducible rfl)
  try simp only [Act.put, List.setIfInBounds_toArray, List.set_cons_zero, List.set_cons_succ]
  refine wpAnyH_take (i := 12) (oi := { dst := some 3, op := Go.Op.assign (Go.Operand.tmp 34), type := 4, pos := "ref.go:135", after := #[{ on := 10, ground := Go.Ground.data }, { on := 11, ground := Go.Ground.chain }, { on := 0, ground := Go.Ground.phase }, { on := 1, ground := Go.Ground.phase }, { on := 2, ground := Go.Ground.phase }, { on := 3, ground := Go.Ground.phase }, { on := 4, ground := Go.Ground.phase }, { on := 5, ground := Go.Ground.phase }, { on := 6, ground := Go.Ground.phase }, { on := 7, ground := Go.Ground.phase }, { on := 8, ground := Go.Ground.phase }, { on := 9, ground := Go.Ground.phase }, { on := 10, ground := Go.Ground.phase }, { on := 11, ground := Go.Ground.phase }], guard := none }) (v := ?vm312) rfl (by kernel_rfl) (by kernel_rfl) (by kernel_rfl) (fun _ _ _ h => h) (Or.inl ⟨by rfl, ?hym312⟩) hHeld ?_
  case hym312 => (intro w hSw; (try dsimp only at hSw); go_simp; first | done | with_reducible rfl)
  try simp only [Act.put, List.setIfInBounds_toArray, List.set_cons_zero, List.set_cons_succ]
  refine wpAnyH_done (by kernel_rfl) ?_ _
  clear hHeld hS3
  have HFIN : Hid ((nu = true → prefixF ⟨3, a, b, n, m⟩ = some r1) ∧ (nu = false → prefixF ⟨3, a, b, n, m⟩ = none)) := by
    constructor
    · intro h
      have hc := HNN.out.1 h
      have e : n.toNat = x := HX.out (by omega)
      rw [HP.out, if_pos (by show 1 ≤ n ∧ n ≤ 16777215; omega), ← HR1.out, ← HLL.out]
      show some (letterOf 3 :: be 3 n.toNat) = _
      rw [e]
    · intro h
      rw [HP.out, if_neg (by show ¬ (1 ≤ n ∧ n ≤ 16777215); intro hc; have := HNN.out.2 ⟨hc.2, hc.1⟩; rw [h] at this; cases this)]
  go_wp2
  go_ret2
  exact ⟨⟨_, _, rfl, HFIN.out.1, HFIN.out.2⟩, HB3.out⟩
set_option maxHeartbeats 4000000 in
theorem rPrefix_4 (a b : List UInt8) (n m : Int)  (w W2 : World) (g : Nat) (L : UInt8) (hL : letterOf 4 = L) (hw2 : w.alloc (.cells (⟨4, a, b, n, m⟩ : Ky).cells 23) = W2) (hg : w.heap.size = g) (hla : a.length ≤ 1000) (hlb : b.length ≤ 1000) (hn : -9223372036854775808 ≤ n ∧ n ≤ 9223372036854775807) :
    Calls Try.prog 13 #[(⟨4, a, b, n, m⟩ : Ky).val] w fun e w' => (∃ s ok, e = .returned (.tuple #[st s, .bool ok]) ∧ (ok = true → prefixF ⟨4, a, b, n, m⟩ = some s) ∧ (ok = false → prefixF ⟨4, a, b, n, m⟩ = none)) ∧ Below g w w' := by
  have HB2 : Hid (Below g w W2) := by rw [← hw2, ← hg]; exact (Below.refl _ _).alloc (Nat.le_refl _) _
  have hk : KyAt W2 g ⟨4, a, b, n, m⟩ := by rw [← hw2, ← hg]; exact KyAt.new w _
  obtain ⟨c0, c1, c2, c3, c4, cf⟩ := hk.at
  have hlr : ∀ W, (Instr.slice 9 (.string ⟨#[32, 110, 105, 99, 100, 112, 114, 117, 102, 103, 116]⟩) (some (.int .i64 4)) (some (.int .i64 5)) none).run Try.prog W = .ok (st [L]) W := by
    rw [← hL]; exact letter_run 4 (by omega)
  obtain ⟨SA, hsa⟩ : ∃ SA, st a = .string SA := ⟨_, rfl⟩
  obtain ⟨SB, hsb⟩ : ∃ SB, st b = .string SB := ⟨_, rfl⟩
  have hw2' : w.alloc (.cells #[.int .i64 4, .string SA, .string SB, .int .i64 n, .int .i64 m] 23) = W2 := by rw [← hw2]; unfold Ky.cells; rw [hsa, hsb]
  have HW2 := Lib.hid hw2'
  have HG := Lib.hid hg
  show Calls Try.prog 13 #[.agg #[.int .i64 4, st a, st b, .int .i64 n, .int .i64 m]] w _
  simp only at c0 c1 c2 c3 c4
  rw [hsa] at c1
  rw [hsb] at c2
  rw [hsa, hsb]
  have HP := Lib.hid (prefix_num ⟨4, a, b, n, m⟩ (by simp))
  obtain ⟨x, hx⟩ : ∃ x : Nat, (if n < 0 then 0 else n) = (x : Int) := ⟨((if n < 0 then 0 else n) : Int).toNat, by split <;> omega⟩
  have H3 : Hid (∀ W, Calls Try.prog 22 #[.int .i64 (x : Int)] W fun e w' => e = .returned (st (be 3 x)) ∧ Below W.heap.size W w') := fun W => rThree_any x W (by split at hx <;> omega)
  have HNU := Lib.hid (fun W => rNumber_any 4 n W)
  obtain ⟨nu, hnu⟩ : ∃ nu, numR 4 n = nu := ⟨_, rfl⟩
  rw [hnu] at HNU
  have HNN : Hid (nu = true ↔ n ≤ 16777215 ∧ 1 ≤ n) := by
    show nu = true ↔ n ≤ 16777215 ∧ 1 ≤ n
    rw [← hnu, numR_iff]; omega
  have HX : Hid (0 ≤ n → n.toNat = x) := fun h => by rw [if_neg (by omega)] at hx; omega
  have hadd0 := add_st [L] (be 3 x) (by simp [be_length])
  obtain ⟨r1, hr1⟩ : ∃ rr, [L] ++ be 3 x = rr := ⟨_, rfl⟩
  rw [hr1] at hadd0
  have HR1 : Hid (L :: be 3 x = r1) := by show L :: be 3 x = r1; rw [← hr1]; rfl
  have HLL := Lib.hid hL
  have hgl : g ≤ W2.heap.size := by have := HB2.out.size; omega
  have HHG : Hid (g ≤ W2.drew.heap.size) := hgl
  have HS0 : Hid (W2.drew.cell? ⟨g, 0, none⟩ = some (.int .i64 4) ∧ W2.drew.cell? ⟨g, 1, none⟩ = some (.string SA) ∧ W2.drew.cell? ⟨g, 3, none⟩ = some (.int .i64 n)) := ⟨c0, c1, c3⟩
  clear hw2 hw2' hk cf hL hsa hsb hnu hr1 hgl
  go_enter Try.func13, Try.ntmps13
  go_wp2_with fail
  rw [HW2.out]
  refine wp_region_held_drew (S := fun W : World => W.cell? ⟨g, 0, none⟩ = some (.int .i64 4) ∧ W.cell? ⟨g, 1, none⟩ = some (.string SA) ∧ W.cell? ⟨g, 3, none⟩ = some (.int .i64 n)) (by kernel_rfl) (HS0.out) (fun hHeld => ?_)
  refine wpAnyH_take (i := 0) (oi := { dst := some 24, op := Go.Op.move (Go.Operand.tmp 4), type := 9, pos := "ref.go:135", after := #[], guard := none }) (v := ?vm40) rfl (by kernel_rfl) (by kernel_rfl) (by kernel_rfl) (fun _ _ _ h => h) (Or.inl ⟨by rfl, ?hym40⟩) hHeld ?_
  case hym40 => (intro w hSw; (try dsimp only at hSw); go_simp; first | done | with_reducible rfl)
  try simp only [Act.put, List.setIfInBounds_toArray, List.set_cons_zero, List.set_cons_succ]
  refine wpAnyH_take (i := 1) (oi := { dst := some 25, op := Go.Op.fieldAddr 23 (Go.Operand.tmp 1) 3, type := 0, pos := "ref.go:135", after := #[], guard := none }) (v := ?vm41) rfl (by kernel_rfl) (by kernel_rfl) (by kernel_rfl) (fun _ _ _ h => h) (Or.inl ⟨by rfl, ?hym41⟩) hHeld ?_
  case hym41 => (intro w hSw; (try dsimp only at hSw); go_simp; first | done | with_reducible rfl)
  try simp only [Act.put, List.setIfInBounds_toArray, List.set_cons_zero, List.set_cons_succ]
  refine wpAnyH_take (i := 2) (oi := { dst := some 26, op := Go.Op.load 3 (Go.Operand.tmp 25), type := 3, pos := "ref.go:135", after := #[{ on := 1, ground := Go.Ground.data }], guard := none }) (v := ?vm42) rfl (by kernel_rfl) (by kernel_rfl) (by kernel_rfl) (fun _ _ _ h => h) (Or.inl ⟨by rfl, ?hym42⟩) hHeld ?_
  case hym42 => (intro w hSw; (try dsimp only at hSw); go_simp; first | done | with_reducible rfl)
  try simp only [Act.put, List.setIfInBounds_toArray, List.set_cons_zero, List.set_cons_succ]
  refine wpAnyH_take (i := 3) (oi := { dst := some 27, op := Go.Op.call { callee := Go.Callee.builtin Go.Builtin.max, args := #[Go.Operand.tmp 26, Go.Operand.const (Go.Value.int Go.IntKind.i64 0)], argTypes := #[3, 3] }, type := 3, pos := "ref.go:135", after := #[{ on := 2, ground := Go.Ground.data }], guard := none }) (v := ?vm43) rfl (by kernel_rfl) (by kernel_rfl) (by kernel_rfl) (fun _ _ _ h => h) (Or.inl ⟨by rfl, ?hym43⟩) hHeld ?_
  case hym43 => (intro w hSw; (try dsimp only at hSw); go_simp; first | done | with_reducible rfl)
  try simp only [Act.put, List.setIfInBounds_toArray, List.set_cons_zero, List.set_cons_succ]
  refine wpAnyH_take (i := 6) (oi := { dst := some 30, op := Go.Op.fieldAddr 23 (Go.Operand.tmp 1) 0, type := 0, pos := "ref.go:135", after := #[], guard := none }) (v := ?vm46) rfl (by kernel_rfl) (by kernel_rfl) (by kernel_rfl) (fun _ _ _ h => h) (Or.inl ⟨by rfl, ?hym46⟩) hHeld ?_
  case hym46 => (intro w hSw; (try dsimp only at hSw); go_simp; first | done | with_reducible rfl)
  try simp only [Act.put, List.setIfInBounds_toArray, List.set_cons_zero, List.set_cons_succ]
  refine wpAnyH_take (i := 7) (oi := { dst := some 31, op := Go.Op.load 3 (Go.Operand.tmp 30), type := 3, pos := "ref.go:135", after := #[{ on := 6, ground := Go.Ground.data }], guard := none }) (v := ?vm47) rfl (by kernel_rfl) (by kernel_rfl) (by kernel_rfl) (fun _ _ _ h => h) (Or.inl ⟨by rfl, ?hym47⟩) hHeld ?_
  case hym47 => (intro w hSw; (try dsimp only at hSw); go_simp; first | done | with_reducible rfl)
  try simp only [Act.put, List.setIfInBounds_toArray, List.set_cons_zero, List.set_cons_succ]
  refine wpAnyH_take (i := 8) (oi := { dst := some 32, op := Go.Op.fieldAddr 23 (Go.Operand.tmp 1) 3, type := 0, pos := "ref.go:135", after := #[], guard := none }) (v := ?vm48) rfl (by kernel_rfl) (by kernel_rfl) (by kernel_rfl) (fun _ _ _ h => h) (Or.inl ⟨by rfl, ?hym48⟩) hHeld ?_
  case hym48 => (intro w hSw; (try dsimp only at hSw); go_simp; first | done | with_reducible rfl)
  try simp only [Act.put, List.setIfInBounds_toArray, List.set_cons_zero, List.set_cons_succ]
  refine wpAnyH_take (i := 9) (oi := { dst := some 33, op := Go.Op.load 3 (Go.Operand.tmp 32), type := 3, pos := "ref.go:135", after := #[{ on := 8, ground := Go.Ground.data }], guard := none }) (v := ?vm49) rfl (by kernel_rfl) (by kernel_rfl) (by kernel_rfl) (fun _ _ _ h => h) (Or.inl ⟨by rfl, ?hym49⟩) hHeld ?_
  case hym49 => (intro w hSw; (try dsimp only at hSw); go_simp; first | done | with_reducible rfl)
  try simp only [Act.put, List.setIfInBounds_toArray, List.set_cons_zero, List.set_cons_succ]
  refine wpAnyH_ready (rs := [4]) (by kernel_rfl) (by simp) ?_
  refine AllReadyH.cons (o := { dst := some 28, op := Go.Op.call { callee := Go.Callee.value (Go.Operand.func 22), args := #[Go.Operand.tmp 27], argTypes := #[3] }, type := 9, pos := "ref.go:135", after := #[{ on := 3, ground := Go.Ground.data }], guard := none }) rfl (fun K hK => ?_) AllReadyH.nil
  go_simp
  refine (H3.out _).mono ?_
  rintro e w3 ⟨rfl, hb3⟩
  have hS3 : w3.cell? ⟨g, 0, none⟩ = some (.int .i64 4) ∧ w3.cell? ⟨g, 1, none⟩ = some (.string SA) ∧ w3.cell? ⟨g, 3, none⟩ = some (.int .i64 n) := ⟨(hb3.cell (p := ⟨g, 0, none⟩) (blt_of_cell HS0.out.1)).trans HS0.out.1, (hb3.cell (p := ⟨g, 1, none⟩) (blt_of_cell HS0.out.2.1)).trans HS0.out.2.1, (hb3.cell (p := ⟨g, 3, none⟩) (blt_of_cell HS0.out.2.2)).trans HS0.out.2.2⟩
  have HB3 : Hid (Below g w w3) := HB2.out.drew.trans (hb3.mono HHG.out)
  clear hb3
  go_wp2_with fail
  refine hK.out _ _ (hS3) (fun hHeld => ?_)
  clear hK K
  try simp only [Act.put, List.setIfInBounds_toArray, List.set_cons_zero, List.set_cons_succ]
  refine wpAnyH_take (i := 5) (oi := { dst := some 29, op := Go.Op.binOp Go.BinOp.add 9 (Go.Operand.tmp 24) (Go.Operand.tmp 28) 9, type := 9, pos := "ref.go:135", after := #[{ on := 0, ground := Go.Ground.data }, { on := 4, ground := Go.Ground.data }], guard := none }) (v := ?vm45) rfl (by kernel_rfl) (by kernel_rfl) (by kernel_rfl) (fun _ _ _ h => h) (Or.inl ⟨by rfl, ?hym45⟩) hHeld ?_
  case hym45 => (intro w hSw; (try dsimp only at hSw); go_simp; first | done | with_reducible rfl)
  try simp only [Act.put, List.setIfInBounds_toArray, List.set_cons_zero, List.set_cons_succ]
  refine wpAnyH_ready (rs := [10]) (by kernel_rfl) (by simp) ?_
  refine AllReadyH.cons (o := { dst := some 34, op := Go.Op.call { callee := Go.Callee.value (Go.Operand.func 23), args := #[Go.Operand.tmp 31, Go.Operand.tmp 33], argTypes := #[3, 3] }, type := 4, pos := "ref.go:135", after := #[{ on := 7, ground := Go.Ground.data }, { on := 9, ground := Go.Ground.data }, { on := 4, ground := Go.Ground.chain }], guard := none }) rfl (fun K hK => ?_) AllReadyH.nil
  go_simp
  refine (HNU.out _).mono ?_
  rintro e w4 ⟨rfl, rfl⟩
  go_wp2_with fail
  refine hK.out _ _ (hS3) (fun hHeld => ?_)
  clear hK K
  try simp only [Act.put, List.setIfInBounds_toArray, List.set_cons_zero, List.set_cons_succ]
  refine wpAnyH_take (i := 11) (oi := { dst := some 2, op := Go.Op.assign (Go.Operand.tmp 29), type := 9, pos := "ref.go:135", after := #[{ on := 5, ground := Go.Ground.data }, { on := 10, ground := Go.Ground.chain }, { on := 0, ground := Go.Ground.phase }, { on := 1, ground := Go.Ground.phase }, { on := 2, ground := Go.Ground.phase }, { on := 3, ground := Go.Ground.phase }, { on := 4, ground := Go.Ground.phase }, { on := 5, ground := Go.Ground.phase }, { on := 6, ground := Go.Ground.textOnly Go.Departure.lateStores }, { on := 7, ground := Go.Ground.textOnly Go.Departure.lateStores }, { on := 8, ground := Go.Ground.textOnly Go.Departure.lateStores }, { on := 9, ground := Go.Ground.textOnly Go.Departure.lateStores }, { on := 10, ground := Go.Ground.textOnly Go.Departure.lateStoresUnsure }], guard := none }) (v := ?vm411) rfl (by kernel_rfl) (by kernel_rfl) (by kernel_rfl) (fun _ _ _ h => h) (Or.inl ⟨by rfl, ?hym411⟩) hHeld ?_
  case hym411 => (intro w hSw; (try dsimp only at hSw); go_simp; first | done | with_reducible rfl)
  try simp only [Act.put, List.setIfInBounds_toArray, List.set_cons_zero, List.set_cons_succ]
  refine wpAnyH_take (i := 12) (oi := { dst := some 3, op := Go.Op.assign (Go.Operand.tmp 34), type := 4, pos := "ref.go:135", after := #[{ on := 10, ground := Go.Ground.data }, { on := 11, ground := Go.Ground.chain }, { on := 0, ground := Go.Ground.phase }, { on := 1, ground := Go.Ground.phase }, { on := 2, ground := Go.Ground.phase }, { on := 3, ground := Go.Ground.phase }, { on := 4, ground := Go.Ground.phase }, { on := 5, ground := Go.Ground.phase }, { on := 6, ground := Go.Ground.phase }, { on := 7, ground := Go.Ground.phase }, { on := 8, ground := Go.Ground.phase }, { on := 9, ground := Go.Ground.phase }, { on := 10, ground := Go.Ground.phase }, { on := 11, ground := Go.Ground.phase }], guard := none }) (v := ?vm412) rfl (by kernel_rfl) (by kernel_rfl) (by kernel_rfl) (fun _ _ _ h => h) (Or.inl ⟨by rfl, ?hym412⟩) hHeld ?_
  case hym412 => (intro w hSw; (try dsimp only at hSw); go_simp; first | done | with_reducible rfl)
  try simp only [Act.put, List.setIfInBounds_toArray, List.set_cons_zero, List.set_cons_succ]
  refine wpAnyH_done (by kernel_rfl) ?_ _
  clear hHeld hS3
  have HFIN : Hid ((nu = true → prefixF ⟨4, a, b, n, m⟩ = some r1) ∧ (nu = false → prefixF ⟨4, a, b, n, m⟩ = none)) := by
    constructor
    · intro h
      have hc := HNN.out.1 h
      have e : n.toNat = x := HX.out (by omega)
      rw [HP.out, if_pos (by show 1 ≤ n ∧ n ≤ 16777215; omega), ← HR1.out, ← HLL.out]
      show some (letterOf 4 :: be 3 n.toNat) = _
      rw [e]
    · intro h
      rw [HP.out, if_neg (by show ¬ (1 ≤ n ∧ n ≤ 16777215); intro hc; have := HNN.out.2 ⟨hc.2, hc.1⟩; rw [h] at this; cases this)]
  go_wp2
  go_ret2
  exact ⟨⟨_, _, rfl, HFIN.out.1, HFIN.out.2⟩, HB3.out⟩
end Go.Proofs.Ytlnghdldecnmgaa
