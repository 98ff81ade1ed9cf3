/- The document's Prefix, by kind. Conditions: none. -/
import Derived.Test.YtlnghdldecnmgaaKM
import Derived.Deep.RegionHeld3
set_option maxRecDepth 8000
set_option linter.unusedSimpArgs false
set_option linter.unusedVariables false
namespace Go.Proofs.Ytlnghdldecnmgaa
open Go.RowKit Go.Bs Go.Kx
set_option maxHeartbeats 4000000 in
theorem rPrefix_1 (a b : List UInt8) (n m : Int)  (w W2 : World) (g : Nat) (L : UInt8) (hL : letterOf 1 = L) (hw2 : w.alloc (.cells (⟨1, a, b, n, m⟩ : Ky).cells 23) = W2) (hg : w.heap.size = g) (hla : a.length ≤ 1000) (hlb : b.length ≤ 1000)  :
    Calls Try.prog 13 #[(⟨1, a, b, n, m⟩ : Ky).val] w fun e w' => (∃ s ok, e = .returned (.tuple #[st s, .bool ok]) ∧ (ok = true → prefixF ⟨1, a, b, n, m⟩ = some s) ∧ (ok = false → prefixF ⟨1, a, b, n, m⟩ = none)) ∧ Below g w w' := by
  have HB2 : Hid (Below g w W2) := by rw [← hw2, ← hg]; exact (Below.refl _ _).alloc (Nat.le_refl _) _
  have hk : KyAt W2 g ⟨1, a, b, n, m⟩ := by rw [← hw2, ← hg]; exact KyAt.new w _
  obtain ⟨c0, c1, c2, c3, c4, cf⟩ := hk.at
  have hlr : ∀ W, (Instr.slice 9 (.string ⟨#[32, 110, 105, 99, 100, 112, 114, 117, 102, 103, 116]⟩) (some (.int .i64 1)) (some (.int .i64 2)) none).run Try.prog W = .ok (st [L]) W := by
    rw [← hL]; exact letter_run 1 (by omega)
  obtain ⟨SA, hsa⟩ : ∃ SA, st a = .string SA := ⟨_, rfl⟩
  obtain ⟨SB, hsb⟩ : ∃ SB, st b = .string SB := ⟨_, rfl⟩
  have hw2' : w.alloc (.cells #[.int .i64 1, .string SA, .string SB, .int .i64 n, .int .i64 m] 23) = W2 := by rw [← hw2]; unfold Ky.cells; rw [hsa, hsb]
  have HW2 := Lib.hid hw2'
  have HG := Lib.hid hg
  show Calls Try.prog 13 #[.agg #[.int .i64 1, st a, st b, .int .i64 n, .int .i64 m]] w _
  simp only at c0 c1 c2 c3 c4
  rw [hsa] at c1
  rw [hsb] at c2
  rw [hsa, hsb]
  have HP : Hid (prefixF ⟨1, a, b, n, m⟩ = some [L]) := by rw [← hL]; exact prefix_one _ (by simp)
  clear hw2 hw2' hk cf hL hsa hsb
  go_enter Try.func13, Try.ntmps13
  go_wp2
  go_ret2
  exact ⟨⟨_, _, rfl, fun _ => HP.out, fun h => by cases h⟩, HW2.out ▸ HB2.out⟩
set_option maxHeartbeats 4000000 in
theorem rPrefix_2 (a b : List UInt8) (n m : Int)  (w W2 : World) (g : Nat) (L : UInt8) (hL : letterOf 2 = L) (hw2 : w.alloc (.cells (⟨2, a, b, n, m⟩ : Ky).cells 23) = W2) (hg : w.heap.size = g) (hla : a.length ≤ 1000) (hlb : b.length ≤ 1000)  :
    Calls Try.prog 13 #[(⟨2, a, b, n, m⟩ : Ky).val] w fun e w' => (∃ s ok, e = .returned (.tuple #[st s, .bool ok]) ∧ (ok = true → prefixF ⟨2, a, b, n, m⟩ = some s) ∧ (ok = false → prefixF ⟨2, a, b, n, m⟩ = none)) ∧ Below g w w' := by
  have HB2 : Hid (Below g w W2) := by rw [← hw2, ← hg]; exact (Below.refl _ _).alloc (Nat.le_refl _) _
  have hk : KyAt W2 g ⟨2, a, b, n, m⟩ := by rw [← hw2, ← hg]; exact KyAt.new w _
  obtain ⟨c0, c1, c2, c3, c4, cf⟩ := hk.at
  have hlr : ∀ W, (Instr.slice 9 (.string ⟨#[32, 110, 105, 99, 100, 112, 114, 117, 102, 103, 116]⟩) (some (.int .i64 2)) (some (.int .i64 3)) none).run Try.prog W = .ok (st [L]) W := by
    rw [← hL]; exact letter_run 2 (by omega)
  obtain ⟨SA, hsa⟩ : ∃ SA, st a = .string SA := ⟨_, rfl⟩
  obtain ⟨SB, hsb⟩ : ∃ SB, st b = .string SB := ⟨_, rfl⟩
  have hw2' : w.alloc (.cells #[.int .i64 2, .string SA, .string SB, .int .i64 n, .int .i64 m] 23) = W2 := by rw [← hw2]; unfold Ky.cells; rw [hsa, hsb]
  have HW2 := Lib.hid hw2'
  have HG := Lib.hid hg
  show Calls Try.prog 13 #[.agg #[.int .i64 2, st a, st b, .int .i64 n, .int .i64 m]] w _
  simp only at c0 c1 c2 c3 c4
  rw [hsa] at c1
  rw [hsb] at c2
  rw [hsa, hsb]
  have HP : Hid (prefixF ⟨2, a, b, n, m⟩ = some [L]) := by rw [← hL]; exact prefix_one _ (by simp)
  clear hw2 hw2' hk cf hL hsa hsb
  go_enter Try.func13, Try.ntmps13
  go_wp2
  go_ret2
  exact ⟨⟨_, _, rfl, fun _ => HP.out, fun h => by cases h⟩, HW2.out ▸ HB2.out⟩
set_option maxHeartbeats 4000000 in
theorem rPrefix_5 (a b : List UInt8) (n m : Int)  (w W2 : World) (g : Nat) (L : UInt8) (hL : letterOf 5 = L) (hw2 : w.alloc (.cells (⟨5, a, b, n, m⟩ : Ky).cells 23) = W2) (hg : w.heap.size = g) (hla : a.length ≤ 1000) (hlb : b.length ≤ 1000)  :
    Calls Try.prog 13 #[(⟨5, a, b, n, m⟩ : Ky).val] w fun e w' => (∃ s ok, e = .returned (.tuple #[st s, .bool ok]) ∧ (ok = true → prefixF ⟨5, a, b, n, m⟩ = some s) ∧ (ok = false → prefixF ⟨5, a, b, n, m⟩ = none)) ∧ Below g w w' := by
  have HB2 : Hid (Below g w W2) := by rw [← hw2, ← hg]; exact (Below.refl _ _).alloc (Nat.le_refl _) _
  have hk : KyAt W2 g ⟨5, a, b, n, m⟩ := by rw [← hw2, ← hg]; exact KyAt.new w _
  obtain ⟨c0, c1, c2, c3, c4, cf⟩ := hk.at
  have hlr : ∀ W, (Instr.slice 9 (.string ⟨#[32, 110, 105, 99, 100, 112, 114, 117, 102, 103, 116]⟩) (some (.int .i64 5)) (some (.int .i64 6)) none).run Try.prog W = .ok (st [L]) W := by
    rw [← hL]; exact letter_run 5 (by omega)
  obtain ⟨SA, hsa⟩ : ∃ SA, st a = .string SA := ⟨_, rfl⟩
  obtain ⟨SB, hsb⟩ : ∃ SB, st b = .string SB := ⟨_, rfl⟩
  have hw2' : w.alloc (.cells #[.int .i64 5, .string SA, .string SB, .int .i64 n, .int .i64 m] 23) = W2 := by rw [← hw2]; unfold Ky.cells; rw [hsa, hsb]
  have HW2 := Lib.hid hw2'
  have HG := Lib.hid hg
  show Calls Try.prog 13 #[.agg #[.int .i64 5, st a, st b, .int .i64 n, .int .i64 m]] w _
  simp only at c0 c1 c2 c3 c4
  rw [hsa] at c1
  rw [hsb] at c2
  rw [hsa, hsb]
  have HP : Hid (prefixF ⟨5, a, b, n, m⟩ = some [L]) := by rw [← hL]; exact prefix_one _ (by simp)
  clear hw2 hw2' hk cf hL hsa hsb
  go_enter Try.func13, Try.ntmps13
  go_wp2
  go_ret2
  exact ⟨⟨_, _, rfl, fun _ => HP.out, fun h => by cases h⟩, HW2.out ▸ HB2.out⟩
set_option maxHeartbeats 4000000 in
theorem rPrefix_8 (a b : List UInt8) (n m : Int)  (w W2 : World) (g : Nat) (L : UInt8) (hL : letterOf 8 = L) (hw2 : w.alloc (.cells (⟨8, a, b, n, m⟩ : Ky).cells 23) = W2) (hg : w.heap.size = g) (hla : a.length ≤ 1000) (hlb : b.length ≤ 1000)  :
    Calls Try.prog 13 #[(⟨8, a, b, n, m⟩ : Ky).val] w fun e w' => (∃ s ok, e = .returned (.tuple #[st s, .bool ok]) ∧ (ok = true → prefixF ⟨8, a, b, n, m⟩ = some s) ∧ (ok = false → prefixF ⟨8, a, b, n, m⟩ = none)) ∧ Below g w w' := by
  have HB2 : Hid (Below g w W2) := by rw [← hw2, ← hg]; exact (Below.refl _ _).alloc (Nat.le_refl _) _
  have hk : KyAt W2 g ⟨8, a, b, n, m⟩ := by rw [← hw2, ← hg]; exact KyAt.new w _
  obtain ⟨c0, c1, c2, c3, c4, cf⟩ := hk.at
  have hlr : ∀ W, (Instr.slice 9 (.string ⟨#[32, 110, 105, 99, 100, 112, 114, 117, 102, 103, 116]⟩) (some (.int .i64 8)) (some (.int .i64 9)) none).run Try.prog W = .ok (st [L]) W := by
    rw [← hL]; exact letter_run 8 (by omega)
  obtain ⟨SA, hsa⟩ : ∃ SA, st a = .string SA := ⟨_, rfl⟩
  obtain ⟨SB, hsb⟩ : ∃ SB, st b = .string SB := ⟨_, rfl⟩
  have hw2' : w.alloc (.cells #[.int .i64 8, .string SA, .string SB, .int .i64 n, .int .i64 m] 23) = W2 := by rw [← hw2]; unfold Ky.cells; rw [hsa, hsb]
  have HW2 := Lib.hid hw2'
  have HG := Lib.hid hg
  show Calls Try.prog 13 #[.agg #[.int .i64 8, st a, st b, .int .i64 n, .int .i64 m]] w _
  simp only at c0 c1 c2 c3 c4
  rw [hsa] at c1
  rw [hsb] at c2
  rw [hsa, hsb]
  have HP : Hid (prefixF ⟨8, a, b, n, m⟩ = some [L]) := by rw [← hL]; exact prefix_one _ (by simp)
  clear hw2 hw2' hk cf hL hsa hsb
  go_enter Try.func13, Try.ntmps13
  go_wp2
  go_ret2
  exact ⟨⟨_, _, rfl, fun _ => HP.out, fun h => by cases h⟩, HW2.out ▸ HB2.out⟩
set_option maxHeartbeats 4000000 in
theorem rPrefix_10 (a b : List UInt8) (n m : Int)  (w W2 : World) (g : Nat) (L : UInt8) (hL : letterOf 10 = L) (hw2 : w.alloc (.cells (⟨10, a, b, n, m⟩ : Ky).cells 23) = W2) (hg : w.heap.size = g) (hla : a.length ≤ 1000) (hlb : b.length ≤ 1000)  :
    Calls Try.prog 13 #[(⟨10, a, b, n, m⟩ : Ky).val] w fun e w' => (∃ s ok, e = .returned (.tuple #[st s, .bool ok]) ∧ (ok = true → prefixF ⟨10, a, b, n, m⟩ = some s) ∧ (ok = false → prefixF ⟨10, a, b, n, m⟩ = none)) ∧ Below g w w' := by
  have HB2 : Hid (Below g w W2) := by rw [← hw2, ← hg]; exact (Below.refl _ _).alloc (Nat.le_refl _) _
  have hk : KyAt W2 g ⟨10, a, b, n, m⟩ := by rw [← hw2, ← hg]; exact KyAt.new w _
  obtain ⟨c0, c1, c2, c3, c4, cf⟩ := hk.at
  have hlr : ∀ W, (Instr.slice 9 (.string ⟨#[32, 110, 105, 99, 100, 112, 114, 117, 102, 103, 116]⟩) (some (.int .i64 10)) (some (.int .i64 11)) none).run Try.prog W = .ok (st [L]) W := by
    rw [← hL]; exact letter_run 10 (by omega)
  obtain ⟨SA, hsa⟩ : ∃ SA, st a = .string SA := ⟨_, rfl⟩
  obtain ⟨SB, hsb⟩ : ∃ SB, st b = .string SB := ⟨_, rfl⟩
  have hw2' : w.alloc (.cells #[.int .i64 10, .string SA, .string SB, .int .i64 n, .int .i64 m] 23) = W2 := by rw [← hw2]; unfold Ky.cells; rw [hsa, hsb]
  have HW2 := Lib.hid hw2'
  have HG := Lib.hid hg
  show Calls Try.prog 13 #[.agg #[.int .i64 10, st a, st b, .int .i64 n, .int .i64 m]] w _
  simp only at c0 c1 c2 c3 c4
  rw [hsa] at c1
  rw [hsb] at c2
  rw [hsa, hsb]
  have HP : Hid (prefixF ⟨10, a, b, n, m⟩ = some [L]) := by rw [← hL]; exact prefix_one _ (by simp)
  clear hw2 hw2' hk cf hL hsa hsb
  go_enter Try.func13, Try.ntmps13
  go_wp2
  go_ret2
  exact ⟨⟨_, _, rfl, fun _ => HP.out, fun h => by cases h⟩, HW2.out ▸ HB2.out⟩
set_option maxHeartbeats 4000000 in
theorem rPrefix_6 (a b : List UInt8) (n m : Int)  (w W2 : World) (g : Nat) (L : UInt8) (hL : letterOf 6 = L) (hw2 : w.alloc (.cells (⟨6, a, b, n, m⟩ : Ky).cells 23) = W2) (hg : w.heap.size = g) (hla : a.length ≤ 1000) (hlb : b.length ≤ 1000)  :
    Calls Try.prog 13 #[(⟨6, a, b, n, m⟩ : Ky).val] w fun e w' => (∃ s ok, e = .returned (.tuple #[st s, .bool ok]) ∧ (ok = true → prefixF ⟨6, a, b, n, m⟩ = some s) ∧ (ok = false → prefixF ⟨6, a, b, n, m⟩ = none)) ∧ Below g w w' := by
  have HB2 : Hid (Below g w W2) := by rw [← hw2, ← hg]; exact (Below.refl _ _).alloc (Nat.le_refl _) _
  have hk : KyAt W2 g ⟨6, a, b, n, m⟩ := by rw [← hw2, ← hg]; exact KyAt.new w _
  obtain ⟨c0, c1, c2, c3, c4, cf⟩ := hk.at
  have hlr : ∀ W, (Instr.slice 9 (.string ⟨#[32, 110, 105, 99, 100, 112, 114, 117, 102, 103, 116]⟩) (some (.int .i64 6)) (some (.int .i64 7)) none).run Try.prog W = .ok (st [L]) W := by
    rw [← hL]; exact letter_run 6 (by omega)
  obtain ⟨SA, hsa⟩ : ∃ SA, st a = .string SA := ⟨_, rfl⟩
  obtain ⟨SB, hsb⟩ : ∃ SB, st b = .string SB := ⟨_, rfl⟩
  have hw2' : w.alloc (.cells #[.int .i64 6, .string SA, .string SB, .int .i64 n, .int .i64 m] 23) = W2 := by rw [← hw2]; unfold Ky.cells; rw [hsa, hsb]
  have HW2 := Lib.hid hw2'
  have HG := Lib.hid hg
  show Calls Try.prog 13 #[.agg #[.int .i64 6, st a, st b, .int .i64 n, .int .i64 m]] w _
  simp only at c0 c1 c2 c3 c4
  rw [hsa] at c1
  rw [hsb] at c2
  rw [hsa, hsb]
  have HP := Lib.hid (prefix_nam ⟨6, a, b, n, m⟩ (by simp))
  have HNA := Lib.hid (fun W => rName_any a W (by omega))
  obtain ⟨na, hna⟩ : ∃ na, nameL a = na := ⟨_, rfl⟩
  rw [hna, hsa] at HNA
  have HNN := Lib.hid hna
  have e0 : st [0] = .string ⟨#[0]⟩ := rfl
  have hadd0 := add_st [L] a (by simp; omega)
  obtain ⟨r1, hr1⟩ : ∃ rr, [L] ++ a = rr := ⟨_, rfl⟩
  rw [hr1, hsa] at hadd0
  have hadd1 := add_st r1 [0] (by rw [← hr1]; simp; omega)
  obtain ⟨r2, hr2⟩ : ∃ rr, r1 ++ [0] = rr := ⟨_, rfl⟩
  rw [hr2, e0] at hadd1
  have HR2 : Hid (L :: (a ++ [0]) = r2) := by show L :: (a ++ [0]) = r2; rw [← hr2, ← hr1]; rfl
  have HLL := Lib.hid hL
  have HS0 : Hid (W2.drew.cell? ⟨g, 0, none⟩ = some (.int .i64 6) ∧ W2.drew.cell? ⟨g, 1, none⟩ = some (.string SA) ∧ W2.drew.cell? ⟨g, 3, none⟩ = some (.int .i64 n)) := ⟨c0, c1, c3⟩
  clear hw2 hw2' hk cf hL hsa hsb e0 hna hr1 hr2
  go_enter Try.func13, Try.ntmps13
  go_wp2_with fail
  rw [HW2.out]
  refine wp_region_held_drew (S := fun W : World => W.cell? ⟨g, 0, none⟩ = some (.int .i64 6) ∧ W.cell? ⟨g, 1, none⟩ = some (.string SA) ∧ W.cell? ⟨g, 3, none⟩ = some (.int .i64 n)) (by kernel_rfl) (HS0.out) (fun hHeld => ?_)
  refine wpAnyH_take (i := 0) (oi := { dst := some 39, op := Go.Op.move (Go.Operand.tmp 4), type := 9, pos := "ref.go:137", after := #[], guard := none }) (v := ?vn60) rfl (by kernel_rfl) (by kernel_rfl) (by kernel_rfl) (fun _ _ _ h => h) (Or.inl ⟨by rfl, ?hyn60⟩) hHeld ?_
  case hyn60 => (intro w hSw; (try dsimp only at hSw); go_simp; first | done | with_reducible rfl)
  try simp only [Act.put, List.setIfInBounds_toArray, List.set_cons_zero, List.set_cons_succ]
  refine wpAnyH_take (i := 1) (oi := { dst := some 40, op := Go.Op.fieldAddr 23 (Go.Operand.tmp 1) 1, type := 0, pos := "ref.go:137", after := #[], guard := none }) (v := ?vn61) rfl (by kernel_rfl) (by kernel_rfl) (by kernel_rfl) (fun _ _ _ h => h) (Or.inl ⟨by rfl, ?hyn61⟩) hHeld ?_
  case hyn61 => (intro w hSw; (try dsimp only at hSw); go_simp; first | done | with_reducible rfl)
  try simp only [Act.put, List.setIfInBounds_toArray, List.set_cons_zero, List.set_cons_succ]
  refine wpAnyH_take (i := 2) (oi := { dst := some 41, op := Go.Op.load 9 (Go.Operand.tmp 40), type := 9, pos := "ref.go:137", after := #[{ on := 1, ground := Go.Ground.data }], guard := none }) (v := ?vn62) rfl (by kernel_rfl) (by kernel_rfl) (by kernel_rfl) (fun _ _ _ h => h) (Or.inl ⟨by rfl, ?hyn62⟩) hHeld ?_
  case hyn62 => (intro w hSw; (try dsimp only at hSw); go_simp; first | done | with_reducible rfl)
  try simp only [Act.put, List.setIfInBounds_toArray, List.set_cons_zero, List.set_cons_succ]
  refine wpAnyH_take (i := 3) (oi := { dst := some 42, op := Go.Op.binOp Go.BinOp.add 9 (Go.Operand.tmp 39) (Go.Operand.tmp 41) 9, type := 9, pos := "ref.go:137", after := #[{ on := 0, ground := Go.Ground.data }, { on := 2, ground := Go.Ground.data }], guard := none }) (v := ?vn63) rfl (by kernel_rfl) (by kernel_rfl) (by kernel_rfl) (fun _ _ _ h => h) (Or.inl ⟨by rfl, ?hyn63⟩) hHeld ?_
  case hyn63 => (intro w hSw; (try dsimp only at hSw); go_simp; first | done | with_reducible rfl)
  try simp only [Act.put, List.setIfInBounds_toArray, List.set_cons_zero, List.set_cons_succ]
  refine wpAnyH_take (i := 4) (oi := { dst := some 43, op := Go.Op.binOp Go.BinOp.add 9 (Go.Operand.tmp 42) (Go.Operand.const (Go.Value.string { data := #[0] })) 9, type := 9, pos := "ref.go:137", after := #[{ on := 3, ground := Go.Ground.data }], guard := none }) (v := ?vn64) rfl (by kernel_rfl) (by kernel_rfl) (by kernel_rfl) (fun _ _ _ h => h) (Or.inl ⟨by rfl, ?hyn64⟩) hHeld ?_
  case hyn64 => (intro w hSw; (try dsimp only at hSw); go_simp; first | done | with_reducible rfl)
  try simp only [Act.put, List.setIfInBounds_toArray, List.set_cons_zero, List.set_cons_succ]
  refine wpAnyH_take (i := 5) (oi := { dst := some 44, op := Go.Op.fieldAddr 23 (Go.Operand.tmp 1) 1, type := 0, pos := "ref.go:137", after := #[], guard := none }) (v := ?vn65) rfl (by kernel_rfl) (by kernel_rfl) (by kernel_rfl) (fun _ _ _ h => h) (Or.inl ⟨by rfl, ?hyn65⟩) hHeld ?_
  case hyn65 => (intro w hSw; (try dsimp only at hSw); go_simp; first | done | with_reducible rfl)
  try simp only [Act.put, List.setIfInBounds_toArray, List.set_cons_zero, List.set_cons_succ]
  refine wpAnyH_take (i := 6) (oi := { dst := some 45, op := Go.Op.load 9 (Go.Operand.tmp 44), type := 9, pos := "ref.go:137", after := #[{ on := 5, ground := Go.Ground.data }], guard := none }) (v := ?vn66) rfl (by kernel_rfl) (by kernel_rfl) (by kernel_rfl) (fun _ _ _ h => h) (Or.inl ⟨by rfl, ?hyn66⟩) hHeld ?_
  case hyn66 => (intro w hSw; (try dsimp only at hSw); go_simp; first | done | with_reducible rfl)
  try simp only [Act.put, List.setIfInBounds_toArray, List.set_cons_zero, List.set_cons_succ]
  refine wpAnyH_ready (rs := [7]) (by kernel_rfl) (by simp) ?_
  refine AllReadyH.cons (o := { dst := some 46, op := Go.Op.call { callee := Go.Callee.value (Go.Operand.func 24), args := #[Go.Operand.tmp 45], argTypes := #[9] }, type := 4, pos := "ref.go:137", after := #[{ on := 6, ground := Go.Ground.data }], guard := none }) rfl (fun K hK => ?_) AllReadyH.nil
  go_simp
  refine (HNA.out _).mono ?_
  rintro e w3 ⟨rfl, rfl⟩
  go_wp2_with fail
  refine hK.out _ _ (HS0.out) (fun hHeld => ?_)
  clear hK K
  try simp only [Act.put, List.setIfInBounds_toArray, List.set_cons_zero, List.set_cons_succ]
  refine wpAnyH_take (i := 8) (oi := { dst := some 2, op := Go.Op.assign (Go.Operand.tmp 43), type := 9, pos := "ref.go:137", after := #[{ on := 4, ground := Go.Ground.data }, { on := 7, ground := Go.Ground.chain }, { on := 0, ground := Go.Ground.phase }, { on := 1, ground := Go.Ground.phase }, { on := 2, ground := Go.Ground.phase }, { on := 3, ground := Go.Ground.phase }, { on := 4, ground := Go.Ground.phase }, { on := 5, ground := Go.Ground.textOnly Go.Departure.lateStores }, { on := 6, ground := Go.Ground.textOnly Go.Departure.lateStores }, { on := 7, ground := Go.Ground.textOnly Go.Departure.lateStoresUnsure }], guard := none }) (v := ?vn68) rfl (by kernel_rfl) (by kernel_rfl) (by kernel_rfl) (fun _ _ _ h => h) (Or.inl ⟨by rfl, ?hyn68⟩) hHeld ?_
  case hyn68 => (intro w hSw; (try dsimp only at hSw); go_simp; first | done | with_reducible rfl)
  try simp only [Act.put, List.setIfInBounds_toArray, List.set_cons_zero, List.set_cons_succ]
  refine wpAnyH_take (i := 9) (oi := { dst := some 3, op := Go.Op.assign (Go.Operand.tmp 46), type := 4, pos := "ref.go:137", after := #[{ on := 7, ground := Go.Ground.data }, { on := 8, ground := Go.Ground.chain }, { on := 0, ground := Go.Ground.phase }, { on := 1, ground := Go.Ground.phase }, { on := 2, ground := Go.Ground.phase }, { on := 3, ground := Go.Ground.phase }, { on := 4, ground := Go.Ground.phase }, { on := 5, ground := Go.Ground.phase }, { on := 6, ground := Go.Ground.phase }, { on := 7, ground := Go.Ground.phase }, { on := 8, ground := Go.Ground.phase }], guard := none }) (v := ?vn69) rfl (by kernel_rfl) (by kernel_rfl) (by kernel_rfl) (fun _ _ _ h => h) (Or.inl ⟨by rfl, ?hyn69⟩) hHeld ?_
  case hyn69 => (intro w hSw; (try dsimp only at hSw); go_simp; first | done | with_reducible rfl)
  try simp only [Act.put, List.setIfInBounds_toArray, List.set_cons_zero, List.set_cons_succ]
  refine wpAnyH_done (by kernel_rfl) ?_ _
  clear hHeld
  go_wp2
  go_ret2
  refine ⟨⟨_, _, rfl, fun h => ?_, fun h => ?_⟩, HB2.out.drew⟩
  · rw [HP.out, if_pos (HNN.out.trans h), ← HR2.out, ← HLL.out]
  · rw [HP.out, if_neg (by show ¬ nameL a = true; rw [HNN.out, h]; simp)]
set_option maxHeartbeats 4000000 in
theorem rPrefix_7 (a b : List UInt8) (n m : Int)  (w W2 : World) (g : Nat) (L : UInt8) (hL : letterOf 7 = L) (hw2 : w.alloc (.cells (⟨7, a, b, n, m⟩ : Ky).cells 23) = W2) (hg : w.heap.size = g) (hla : a.length ≤ 1000) (hlb : b.length ≤ 1000)  :
    Calls Try.prog 13 #[(⟨7, a, b, n, m⟩ : Ky).val] w fun e w' => (∃ s ok, e = .returned (.tuple #[st s, .bool ok]) ∧ (ok = true → prefixF ⟨7, a, b, n, m⟩ = some s) ∧ (ok = false → prefixF ⟨7, a, b, n, m⟩ = none)) ∧ Below g w w' := by
  have HB2 : Hid (Below g w W2) := by rw [← hw2, ← hg]; exact (Below.refl _ _).alloc (Nat.le_refl _) _
  have hk : KyAt W2 g ⟨7, a, b, n, m⟩ := by rw [← hw2, ← hg]; exact KyAt.new w _
  obtain ⟨c0, c1, c2, c3, c4, cf⟩ := hk.at
  have hlr : ∀ W, (Instr.slice 9 (.string ⟨#[32, 110, 105, 99, 100, 112, 114, 117, 102, 103, 116]⟩) (some (.int .i64 7)) (some (.int .i64 8)) none).run Try.prog W = .ok (st [L]) W := by
    rw [← hL]; exact letter_run 7 (by omega)
  obtain ⟨SA, hsa⟩ : ∃ SA, st a = .string SA := ⟨_, rfl⟩
  obtain ⟨SB, hsb⟩ : ∃ SB, st b = .string SB := ⟨_, rfl⟩
  have hw2' : w.alloc (.cells #[.int .i64 7, .string SA, .string SB, .int .i64 n, .int .i64 m] 23) = W2 := by rw [← hw2]; unfold Ky.cells; rw [hsa, hsb]
  have HW2 := Lib.hid hw2'
  have HG := Lib.hid hg
  show Calls Try.prog 13 #[.agg #[.int .i64 7, st a, st b, .int .i64 n, .int .i64 m]] w _
  simp only at c0 c1 c2 c3 c4
  rw [hsa] at c1
  rw [hsb] at c2
  rw [hsa, hsb]
  have HP := Lib.hid (prefix_nam ⟨7, a, b, n, m⟩ (by simp))
  have HNA := Lib.hid (fun W => rName_any a W (by omega))
  obtain ⟨na, hna⟩ : ∃ na, nameL a = na := ⟨_, rfl⟩
  rw [hna, hsa] at HNA
  have HNN := Lib.hid hna
  have e0 : st [0] = .string ⟨#[0]⟩ := rfl
  have hadd0 := add_st [L] a (by simp; omega)
  obtain ⟨r1, hr1⟩ : ∃ rr, [L] ++ a = rr := ⟨_, rfl⟩
  rw [hr1, hsa] at hadd0
  have hadd1 := add_st r1 [0] (by rw [← hr1]; simp; omega)
  obtain ⟨r2, hr2⟩ : ∃ rr, r1 ++ [0] = rr := ⟨_, rfl⟩
  rw [hr2, e0] at hadd1
  have HR2 : Hid (L :: (a ++ [0]) = r2) := by show L :: (a ++ [0]) = r2; rw [← hr2, ← hr1]; rfl
  have HLL := Lib.hid hL
  have HS0 : Hid (W2.drew.cell? ⟨g, 0, none⟩ = some (.int .i64 7) ∧ W2.drew.cell? ⟨g, 1, none⟩ = some (.string SA) ∧ W2.drew.cell? ⟨g, 3, none⟩ = some (.int .i64 n)) := ⟨c0, c1, c3⟩
  clear hw2 hw2' hk cf hL hsa hsb e0 hna hr1 hr2
  go_enter Try.func13, Try.ntmps13
  go_wp2_with fail
  rw [HW2.out]
  refine wp_region_held_drew (S := fun W : World => W.cell? ⟨g, 0, none⟩ = some (.int .i64 7) ∧ W.cell? ⟨g, 1, none⟩ = some (.string SA) ∧ W.cell? ⟨g, 3, none⟩ = some (.int .i64 n)) (by kernel_rfl) (HS0.out) (fun hHeld => ?_)
  refine wpAnyH_take (i := 0) (oi := { dst := some 39, op := Go.Op.move (Go.Operand.tmp 4), type := 9, pos := "ref.go:137", after := #[], guard := none }) (v := ?vn70) rfl (by kernel_rfl) (by kernel_rfl) (by kernel_rfl) (fun _ _ _ h => h) (Or.inl ⟨by rfl, ?hyn70⟩) hHeld ?_
  case hyn70 => (intro w hSw; (try dsimp only at hSw); go_simp; first | done | with_reducible rfl)
  try simp only [Act.put, List.setIfInBounds_toArray, List.set_cons_zero, List.set_cons_succ]
  refine wpAnyH_take (i := 1) (oi := { dst := some 40, op := Go.Op.fieldAddr 23 (Go.Operand.tmp 1) 1, type := 0, pos := "ref.go:137", after := #[], guard := none }) (v := ?vn71) rfl (by kernel_rfl) (by kernel_rfl) (by kernel_rfl) (fun _ _ _ h => h) (Or.inl ⟨by rfl, ?hyn71⟩) hHeld ?_
  case hyn71 => (intro w hSw; (try dsimp only at hSw); go_simp; first | done | with_reducible rfl)
  try simp only [Act.put, List.setIfInBounds_toArray, List.set_cons_zero, List.set_cons_succ]
  refine wpAnyH_take (i := 2) (oi := { dst := some 41, op := Go.Op.load 9 (Go.Operand.tmp 40), type := 9, pos := "ref.go:137", after := #[{ on := 1, ground := Go.Ground.data }], guard := none }) (v := ?vn72) rfl (by kernel_rfl) (by kernel_rfl) (by kernel_rfl) (fun _ _ _ h => h) (Or.inl ⟨by rfl, ?hyn72⟩) hHeld ?_
  case hyn72 => (intro w hSw; (try dsimp only at hSw); go_simp; first | done | with_reducible rfl)
  try simp only [Act.put, List.setIfInBounds_toArray, List.set_cons_zero, List.set_cons_succ]
  refine wpAnyH_take (i := 3) (oi := { dst := some 42, op := Go.Op.binOp Go.BinOp.add 9 (Go.Operand.tmp 39) (Go.Operand.tmp 41) 9, type := 9, pos := "ref.go:137", after := #[{ on := 0, ground := Go.Ground.data }, { on := 2, ground := Go.Ground.data }], guard := none }) (v := ?vn73) rfl (by kernel_rfl) (by kernel_rfl) (by kernel_rfl) (fun _ _ _ h => h) (Or.inl ⟨by rfl, ?hyn73⟩) hHeld ?_
  case hyn73 => (intro w hSw; (try dsimp only at hSw); go_simp; first | done | with_reducible rfl)
  try simp only [Act.put, List.setIfInBounds_toArray, List.set_cons_zero, List.set_cons_succ]
  refine wpAnyH_take (i := 4) (oi := { dst := some 43, op := Go.Op.binOp Go.BinOp.add 9 (Go.Operand.tmp 42) (Go.Operand.const (Go.Value.string { data := #[0] })) 9, type := 9, pos := "ref.go:137", after := #[{ on := 3, ground := Go.Ground.data }], guard := none }) (v := ?vn74) rfl (by kernel_rfl) (by kernel_rfl) (by kernel_rfl) (fun _ _ _ h => h) (Or.inl ⟨by rfl, ?hyn74⟩) hHeld ?_
  case hyn74 => (intro w hSw; (try dsimp only at hSw); go_simp; first | done | with_reducible rfl)
  try simp only [Act.put, List.setIfInBounds_toArray, List.set_cons_zero, List.set_cons_succ]
  refine wpAnyH_take (i := 5) (oi := { dst := some 44, op := Go.Op.fieldAddr 23 (Go.Operand.tmp 1) 1, type := 0, pos := "ref.go:137", after := #[], guard := none }) (v := ?vn75) rfl (by kernel_rfl) (by kernel_rfl) (by kernel_rfl) (fun _ _ _ h => h) (Or.inl ⟨by rfl, ?hyn75⟩) hHeld ?_
  case hyn75 => (intro w hSw; (try dsimp only at hSw); go_simp; first | done | with_reducible rfl)
  try simp only [Act.put, List.setIfInBounds_toArray, List.set_cons_zero, List.set_cons_succ]
  refine wpAnyH_take (i := 6) (oi := { dst := some 45, op := Go.Op.load 9 (Go.Operand.tmp 44), type := 9, pos := "ref.go:137", after := #[{ on := 5, ground := Go.Ground.data }], guard := none }) (v := ?vn76) rfl (by kernel_rfl) (by kernel_rfl) (by kernel_rfl) (fun _ _ _ h => h) (Or.inl ⟨by rfl, ?hyn76⟩) hHeld ?_
  case hyn76 => (intro w hSw; (try dsimp only at hSw); go_simp; first | done | with_reducible rfl)
  try simp only [Act.put, List.setIfInBounds_toArray, List.set_cons_zero, List.set_cons_succ]
  refine wpAnyH_ready (rs := [7]) (by kernel_rfl) (by simp) ?_
  refine AllReadyH.cons (o := { dst := some 46, op := Go.Op.call { callee := Go.Callee.value (Go.Operand.func 24), args := #[Go.Operand.tmp 45], argTypes := #[9] }, type := 4, pos := "ref.go:137", after := #[{ on := 6, ground := Go.Ground.data }], guard := none }) rfl (fun K hK => ?_) AllReadyH.nil
  go_simp
  refine (HNA.out _).mono ?_
  rintro e w3 ⟨rfl, rfl⟩
  go_wp2_with fail
  refine hK.out _ _ (HS0.out) (fun hHeld => ?_)
  clear hK K
  try simp only [Act.put, List.setIfInBounds_toArray, List.set_cons_zero, List.set_cons_succ]
  refine wpAnyH_take (i := 8) (oi := { dst := some 2, op := Go.Op.assign (Go.Operand.tmp 43), type := 9, pos := "ref.go:137", after := #[{ on := 4, ground := Go.Ground.data }, { on := 7, ground := Go.Ground.chain }, { on := 0, ground := Go.Ground.phase }, { on := 1, ground := Go.Ground.phase }, { on := 2, ground := Go.Ground.phase }, { on := 3, ground := Go.Ground.phase }, { on := 4, ground := Go.Ground.phase }, { on := 5, ground := Go.Ground.textOnly Go.Departure.lateStores }, { on := 6, ground := Go.Ground.textOnly Go.Departure.lateStores }, { on := 7, ground := Go.Ground.textOnly Go.Departure.lateStoresUnsure }], guard := none }) (v := ?vn78) rfl (by kernel_rfl) (by kernel_rfl) (by kernel_rfl) (fun _ _ _ h => h) (Or.inl ⟨by rfl, ?hyn78⟩) hHeld ?_
  case hyn78 => (intro w hSw; (try dsimp only at hSw); go_simp; first | done | with_reducible rfl)
  try simp only [Act.put, List.setIfInBounds_toArray, List.set_cons_zero, List.set_cons_succ]
  refine wpAnyH_take (i := 9) (oi := { dst := some 3, op := Go.Op.assign (Go.Operand.tmp 46), type := 4, pos := "ref.go:137", after := #[{ on := 7, ground := Go.Ground.data }, { on := 8, ground := Go.Ground.chain }, { on := 0, ground := Go.Ground.phase }, { on := 1, ground := Go.Ground.phase }, { on := 2, ground := Go.Ground.phase }, { on := 3, ground := Go.Ground.phase }, { on := 4, ground := Go.Ground.phase }, { on := 5, ground := Go.Ground.phase }, { on := 6, ground := Go.Ground.phase }, { on := 7, ground := Go.Ground.phase }, { on := 8, ground := Go.Ground.phase }], guard := none }) (v := ?vn79) rfl (by kernel_rfl) (by kernel_rfl) (by kernel_rfl) (fun _ _ _ h => h) (Or.inl ⟨by rfl, ?hyn79⟩) hHeld ?_
  case hyn79 => (intro w hSw; (try dsimp only at hSw); go_simp; first | done | with_reducible rfl)
  try simp only [Act.put, List.setIfInBounds_toArray, List.set_cons_zero, List.set_cons_succ]
  refine wpAnyH_done (by kernel_rfl) ?_ _
  clear hHeld
  go_wp2
  go_ret2
  refine ⟨⟨_, _, rfl, fun h => ?_, fun h => ?_⟩, HB2.out.drew⟩
  · rw [HP.out, if_pos (HNN.out.trans h), ← HR2.out, ← HLL.out]
  · rw [HP.out, if_neg (by show ¬ nameL a = true; rw [HNN.out, h]; simp)]
set_option maxHeartbeats 4000000 in
theorem rPrefix_9 (a b : List UInt8) (n m : Int)  (w W2 : World) (g : Nat) (L : UInt8) (hL : letterOf 9 = L) (hw2 : w.alloc (.cells (⟨9, a, b, n, m⟩ : Ky).cells 23) = W2) (hg : w.heap.size = g) (hla : a.length ≤ 1000) (hlb : b.length ≤ 1000)  :
    Calls Try.prog 13 #[(⟨9, a, b, n, m⟩ : Ky).val] w fun e w' => (∃ s ok, e = .returned (.tuple #[st s, .bool ok]) ∧ (ok = true → prefixF ⟨9, a, b, n, m⟩ = some s) ∧ (ok = false → prefixF ⟨9, a, b, n, m⟩ = none)) ∧ Below g w w' := by
  have HB2 : Hid (Below g w W2) := by rw [← hw2, ← hg]; exact (Below.refl _ _).alloc (Nat.le_refl _) _
  have hk : KyAt W2 g ⟨9, a, b, n, m⟩ := by rw [← hw2, ← hg]; exact KyAt.new w _
  obtain ⟨c0, c1, c2, c3, c4, cf⟩ := hk.at
  have hlr : ∀ W, (Instr.slice 9 (.string ⟨#[32, 110, 105, 99, 100, 112, 114, 117, 102, 103, 116]⟩) (some (.int .i64 9)) (some (.int .i64 10)) none).run Try.prog W = .ok (st [L]) W := by
    rw [← hL]; exact letter_run 9 (by omega)
  obtain ⟨SA, hsa⟩ : ∃ SA, st a = .string SA := ⟨_, rfl⟩
  obtain ⟨SB, hsb⟩ : ∃ SB, st b = .string SB := ⟨_, rfl⟩
  have hw2' : w.alloc (.cells #[.int .i64 9, .string SA, .string SB, .int .i64 n, .int .i64 m] 23) = W2 := by rw [← hw2]; unfold Ky.cells; rw [hsa, hsb]
  have HW2 := Lib.hid hw2'
  have HG := Lib.hid hg
  show Calls Try.prog 13 #[.agg #[.int .i64 9, st a, st b, .int .i64 n, .int .i64 m]] w _
  simp only at c0 c1 c2 c3 c4
  rw [hsa] at c1
  rw [hsb] at c2
  rw [hsa, hsb]
  have HP := Lib.hid (prefix_nam ⟨9, a, b, n, m⟩ (by simp))
  have HNA := Lib.hid (fun W => rName_any a W (by omega))
  obtain ⟨na, hna⟩ : ∃ na, nameL a = na := ⟨_, rfl⟩
  rw [hna, hsa] at HNA
  have HNN := Lib.hid hna
  have e0 : st [0] = .string ⟨#[0]⟩ := rfl
  have hadd0 := add_st [L] a (by simp; omega)
  obtain ⟨r1, hr1⟩ : ∃ rr, [L] ++ a = rr := ⟨_, rfl⟩
  rw [hr1, hsa] at hadd0
  have hadd1 := add_st r1 [0] (by rw [← hr1]; simp; omega)
  obtain ⟨r2, hr2⟩ : ∃ rr, r1 ++ [0] = rr := ⟨_, rfl⟩
  rw [hr2, e0] at hadd1
  have HR2 : Hid (L :: (a ++ [0]) = r2) := by show L :: (a ++ [0]) = r2; rw [← hr2, ← hr1]; rfl
  have HLL := Lib.hid hL
  have HS0 : Hid (W2.drew.cell? ⟨g, 0, none⟩ = some (.int .i64 9) ∧ W2.drew.cell? ⟨g, 1, none⟩ = some (.string SA) ∧ W2.drew.cell? ⟨g, 3, none⟩ = some (.int .i64 n)) := ⟨c0, c1, c3⟩
  clear hw2 hw2' hk cf hL hsa hsb e0 hna hr1 hr2
  go_enter Try.func13, Try.ntmps13
  go_wp2_with fail
  rw [HW2.out]
  refine wp_region_held_drew (S := fun W : World => W.cell? ⟨g, 0, none⟩ = some (.int .i64 9) ∧ W.cell? ⟨g, 1, none⟩ = some (.string SA) ∧ W.cell? ⟨g, 3, none⟩ = some (.int .i64 n)) (by kernel_rfl) (HS0.out) (fun hHeld => ?_)
  refine wpAnyH_take (i := 0) (oi := { dst := some 39, op := Go.Op.move (Go.Operand.tmp 4), type := 9, pos := "ref.go:137", after := #[], guard := none }) (v := ?vn90) rfl (by kernel_rfl) (by kernel_rfl) (by kernel_rfl) (fun _ _ _ h => h) (Or.inl ⟨by rfl, ?hyn90⟩) hHeld ?_
  case hyn90 => (intro w hSw; (try dsimp only at hSw); go_simp; first | done | with_reducible rfl)
  try simp only [Act.put, List.setIfInBounds_toArray, List.set_cons_zero, List.set_cons_succ]
  refine wpAnyH_take (i := 1) (oi := { dst := some 40, op := Go.Op.fieldAddr 23 (Go.Operand.tmp 1) 1, type := 0, pos := "ref.go:137", after := #[], guard := none }) (v := ?vn91) rfl (by kernel_rfl) (by kernel_rfl) (by kernel_rfl) (fun _ _ _ h => h) (Or.inl ⟨by rfl, ?hyn91⟩) hHeld ?_
  case hyn91 => (intro w hSw; (try dsimp only at hSw); go_simp; first | done | with_reducible rfl)
  try simp only [Act.put, List.setIfInBounds_toArray, List.set_cons_zero, List.set_cons_succ]
  refine wpAnyH_take (i := 2) (oi := { dst := some 41, op := Go.Op.load 9 (Go.Operand.tmp 40), type := 9, pos := "ref.go:137", after := #[{ on := 1, ground := Go.Ground.data }], guard := none }) (v := ?vn92) rfl (by kernel_rfl) (by kernel_rfl) (by kernel_rfl) (fun _ _ _ h => h) (Or.inl ⟨by rfl, ?hyn92⟩) hHeld ?_
  case hyn92 => (intro w hSw; (try dsimp only at hSw); go_simp; first | done | with_reducible rfl)
  try simp only [Act.put, List.setIfInBounds_toArray, List.set_cons_zero, List.set_cons_succ]
  refine wpAnyH_take (i := 3) (oi := { dst := some 42, op := Go.Op.binOp Go.BinOp.add 9 (Go.Operand.tmp 39) (Go.Operand.tmp 41) 9, type := 9, pos := "ref.go:137", after := #[{ on := 0, ground := Go.Ground.data }, { on := 2, ground := Go.Ground.data }], guard := none }) (v := ?vn93) rfl (by kernel_rfl) (by kernel_rfl) (by kernel_rfl) (fun _ _ _ h => h) (Or.inl ⟨by rfl, ?hyn93⟩) hHeld ?_
  case hyn93 => (intro w hSw; (try dsimp only at hSw); go_simp; first | done | with_reducible rfl)
  try simp only [Act.put, List.setIfInBounds_toArray, List.set_cons_zero, List.set_cons_succ]
  refine wpAnyH_take (i := 4) (oi := { dst := some 43, op := Go.Op.binOp Go.BinOp.add 9 (Go.Operand.tmp 42) (Go.Operand.const (Go.Value.string { data := #[0] })) 9, type := 9, pos := "ref.go:137", after := #[{ on := 3, ground := Go.Ground.data }], guard := none }) (v := ?vn94) rfl (by kernel_rfl) (by kernel_rfl) (by kernel_rfl) (fun _ _ _ h => h) (Or.inl ⟨by rfl, ?hyn94⟩) hHeld ?_
  case hyn94 => (intro w hSw; (try dsimp only at hSw); go_simp; first | done | with_reducible rfl)
  try simp only [Act.put, List.setIfInBounds_toArray, List.set_cons_zero, List.set_cons_succ]
  refine wpAnyH_take (i := 5) (oi := { dst := some 44, op := Go.Op.fieldAddr 23 (Go.Operand.tmp 1) 1, type := 0, pos := "ref.go:137", after := #[], guard := none }) (v := ?vn95) rfl (by kernel_rfl) (by kernel_rfl) (by kernel_rfl) (fun _ _ _ h => h) (Or.inl ⟨by rfl, ?hyn95⟩) hHeld ?_
  case hyn95 => (intro w hSw; (try dsimp only at hSw); go_simp; first | done | with_reducible rfl)
  try simp only [Act.put, List.setIfInBounds_toArray, List.set_cons_zero, List.set_cons_succ]
  refine wpAnyH_take (i := 6) (oi := { dst := some 45, op := Go.Op.load 9 (Go.Operand.tmp 44), type := 9, pos := "ref.go:137", after := #[{ on := 5, ground := Go.Ground.data }], guard := none }) (v := ?vn96) rfl (by kernel_rfl) (by kernel_rfl) (by kernel_rfl) (fun _ _ _ h => h) (Or.inl ⟨by rfl, ?hyn96⟩) hHeld ?_
  case hyn96 => (intro w hSw; (try dsimp only at hSw); go_simp; first | done | with_reducible rfl)
  try simp only [Act.put, List.setIfInBounds_toArray, List.set_cons_zero, List.set_cons_succ]
  refine wpAnyH_ready (rs := [7]) (by kernel_rfl) (by simp) ?_
  refine AllReadyH.cons (o := { dst := some 46, op := Go.Op.call { callee := Go.Callee.value (Go.Operand.func 24), args := #[Go.Operand.tmp 45], argTypes := #[9] }, type := 4, pos := "ref.go:137", after := #[{ on := 6, ground := Go.Ground.data }], guard := none }) rfl (fun K hK => ?_) AllReadyH.nil
  go_simp
  refine (HNA.out _).mono ?_
  rintro e w3 ⟨rfl, rfl⟩
  go_wp2_with fail
  refine hK.out _ _ (HS0.out) (fun hHeld => ?_)
  clear hK K
  try simp only [Act.put, List.setIfInBounds_toArray, List.set_cons_zero, List.set_cons_succ]
  refine wpAnyH_take (i := 8) (oi := { dst := some 2, op := Go.Op.assign (Go.Operand.tmp 43), type := 9, pos := "ref.go:137", after := #[{ on := 4, ground := Go.Ground.data }, { on := 7, ground := Go.Ground.chain }, { on := 0, ground := Go.Ground.phase }, { on := 1, ground := Go.Ground.phase }, { on := 2, ground := Go.Ground.phase }, { on := 3, ground := Go.Ground.phase }, { on := 4, ground := Go.Ground.phase }, { on := 5, ground := Go.Ground.textOnly Go.Departure.lateStores }, { on := 6, ground := Go.Ground.textOnly Go.Departure.lateStores }, { on := 7, ground := Go.Ground.textOnly Go.Departure.lateStoresUnsure }], guard := none }) (v := ?vn98) rfl (by kernel_rfl) (by kernel_rfl) (by kernel_rfl) (fun _ _ _ h => h) (Or.inl ⟨by rfl, ?hyn98⟩) hHeld ?_
  case hyn98 => (intro w hSw; (try dsimp only at hSw); go_simp; first | done | with_reducible rfl)
  try simp only [Act.put, List.setIfInBounds_toArray, List.set_cons_zero, List.set_cons_succ]
  refine wpAnyH_take (i := 9) (oi := { dst := some 3, op := Go.Op.assign (Go.Operand.tmp 46), type := 4, pos := "ref.go:137", after := #[{ on := 7, ground := Go.Ground.data }, { on := 8, ground := Go.Ground.chain }, { on := 0, ground := Go.Ground.phase }, { on := 1, ground := Go.Ground.phase }, { on := 2, ground := Go.Ground.phase }, { on := 3, ground := Go.Ground.phase }, { on := 4, ground := Go.Ground.phase }, { on := 5, ground := Go.Ground.phase }, { on := 6, ground := Go.Ground.phase }, { on := 7, ground := Go.Ground.phase }, { on := 8, ground := Go.Ground.phase }], guard := none }) (v := ?vn99) rfl (by kernel_rfl) (by kernel_rfl) (by kernel_rfl) (fun _ _ _ h => h) (Or.inl ⟨by rfl, ?hyn99⟩) hHeld ?_
  case hyn99 => (intro w hSw; (try dsimp only at hSw); go_simp; first | done | with_reducible rfl)
  try simp only [Act.put, List.setIfInBounds_toArray, List.set_cons_zero, List.set_cons_succ]
  refine wpAnyH_done (by kernel_rfl) ?_ _
  clear hHeld
  go_wp2
  go_ret2
  refine ⟨⟨_, _, rfl, fun h => ?_, fun h => ?_⟩, HB2.out.drew⟩
  · rw [HP.out, if_pos (HNN.out.trans h), ← HR2.out, ← HLL.out]
  · rw [HP.out, if_neg (by show ¬ nameL a = true; rw [HNN.out, h]; simp)]
end Go.Proofs.Ytlnghdldecnmgaa
