/- The document's Bytes. Conditions: none. -/
import Derived.Test.YtlnghdldecnmgaaKJ
import Derived.Deep.RegionHeld3
set_option maxRecDepth 8000
set_option linter.unusedSimpArgs false
set_option linter.unusedVariables false
namespace Go.Proofs.Ytlnghdldecnmgaa
open Go.RowKit Go.Bs Go.Kx
theorem two_cells_of (r : Nat) (hr : r ≤ 65535) : rowObj 5 (be 2 r) = (.cells #[.int .u8 (IntKind.u8.wrap (IntKind.i64.wrap ((r : Int) / 256))), .int .u8 (IntKind.u8.wrap ((r : Int).tmod 256))] 5) := by
  have e1 : Value.int .u8 ((r : Int) / 256 % 256) = B (byteAt r 1) := byteAt_val r 1
  have e0 : Value.int .u8 ((r : Int) % 256) = B (byteAt r 0) := by have := byteAt_val r 0; simpa using this
  have w1 : IntKind.u8.wrap (IntKind.i64.wrap ((r : Int) / 256)) = (r : Int) / 256 % 256 := by rw [IntKind.wrap_i64, IntKind.wrap_u8]; omega
  have w0 : IntKind.u8.wrap ((r : Int).tmod 256) = (r : Int) % 256 := by rw [IntKind.wrap_u8, Int.tmod_eq_emod_of_nonneg (by omega)]; omega
  rw [w1, w0, e1, e0]; rfl
theorem two_st2 (r : Nat) (hr : r ≤ 65535) (W w3 : World) (h : Below (W.alloc (.cells #[.int .u8 (IntKind.u8.wrap (IntKind.i64.wrap ((r : Int) / 256))), .int .u8 (IntKind.u8.wrap ((r : Int).tmod 256))] 5)).heap.size (W.alloc (.cells #[.int .u8 (IntKind.u8.wrap (IntKind.i64.wrap ((r : Int) / 256))), .int .u8 (IntKind.u8.wrap ((r : Int).tmod 256))] 5)) w3) : (convert 49 9 (.slice (some ⟨W.heap.size, 0, none⟩) 2 2)).run Try.prog w3 = .ok (st (be 2 r)) w3 := by
  rw [← two_cells_of r hr] at h
  exact string_rd _ _ 2 2 _ (((Blk.new W 5 (be 2 r)).keep h (by simp)).all' 2 2 (be_length 2 r) (Nat.le_refl _))
theorem two_st (r : Nat) (hr : r ≤ 65535) (W : World) : (convert 49 9 (.slice (some ⟨W.heap.size, 0, none⟩) 2 2)).run Try.prog (W.alloc (.cells #[.int .u8 (IntKind.u8.wrap (IntKind.i64.wrap ((r : Int) / 256))), .int .u8 (IntKind.u8.wrap ((r : Int).tmod 256))] 5)) = .ok (st (be 2 r)) (W.alloc (.cells #[.int .u8 (IntKind.u8.wrap (IntKind.i64.wrap ((r : Int) / 256))), .int .u8 (IntKind.u8.wrap ((r : Int).tmod 256))] 5)) := two_st2 r hr W _ (Below.refl _ _)
set_option maxHeartbeats 4000000 in
theorem rBytes_1 (a b : List UInt8) (n m : Int)  (w W2 : World) (g : Nat) (L : UInt8) (hL : letterOf 1 = L) (hw2 : w.alloc (.cells (⟨1, a, b, n, m⟩ : Ky).cells 23) = W2) (hg : w.heap.size = g) (hla : a.length ≤ 1000) (hlb : b.length ≤ 1000)  :
    Calls Try.prog 16 #[(⟨1, a, b, n, m⟩ : Ky).val] w fun e w' => e = .returned (st (L :: a)) ∧ Below g w w' := by
  have HB2 : Hid (Below g w W2) := by rw [← hw2, ← hg]; exact (Below.refl _ _).alloc (Nat.le_refl _) _
  have hk : KyAt W2 g ⟨1, a, b, n, m⟩ := by rw [← hw2, ← hg]; exact KyAt.new w _
  obtain ⟨c0, c1, c2, c3, c4, cf⟩ := hk.at
  have hlr : ∀ W, (Instr.slice 9 (.string ⟨#[32, 110, 105, 99, 100, 112, 114, 117, 102, 103, 116]⟩) (some (.int .i64 1)) (some (.int .i64 2)) none).run Try.prog W = .ok (st [L]) W := by
    rw [← hL]; exact letter_run 1 (by omega)
  obtain ⟨SA, hsa⟩ : ∃ SA, st a = .string SA := ⟨_, rfl⟩
  obtain ⟨SB, hsb⟩ : ∃ SB, st b = .string SB := ⟨_, rfl⟩
  have hw2' : w.alloc (.cells #[.int .i64 1, .string SA, .string SB, .int .i64 n, .int .i64 m] 23) = W2 := by rw [← hw2]; unfold Ky.cells; rw [hsa, hsb]
  have HW2 := Lib.hid hw2'
  have HG := Lib.hid hg
  show Calls Try.prog 16 #[.agg #[.int .i64 1, st a, st b, .int .i64 n, .int .i64 m]] w _
  simp only at c0 c1 c2 c3 c4
  rw [hsa] at c1
  rw [hsb] at c2
  rw [hsa, hsb]
  have hadd := add_st [L] a (by simp; omega)
  rw [hsa] at hadd
  clear hw2 hw2' hk cf hL hsa hsb
  go_enter Try.func16, Try.ntmps16
  go_wp2
  go_ret
  exact ⟨rfl, HW2.out ▸ HB2.out⟩
set_option maxHeartbeats 4000000 in
theorem rBytes_5 (a b : List UInt8) (n m : Int)  (w W2 : World) (g : Nat) (L : UInt8) (hL : letterOf 5 = L) (hw2 : w.alloc (.cells (⟨5, a, b, n, m⟩ : Ky).cells 23) = W2) (hg : w.heap.size = g) (hla : a.length ≤ 1000) (hlb : b.length ≤ 1000)  :
    Calls Try.prog 16 #[(⟨5, a, b, n, m⟩ : Ky).val] w fun e w' => e = .returned (st (L :: a)) ∧ Below g w w' := by
  have HB2 : Hid (Below g w W2) := by rw [← hw2, ← hg]; exact (Below.refl _ _).alloc (Nat.le_refl _) _
  have hk : KyAt W2 g ⟨5, a, b, n, m⟩ := by rw [← hw2, ← hg]; exact KyAt.new w _
  obtain ⟨c0, c1, c2, c3, c4, cf⟩ := hk.at
  have hlr : ∀ W, (Instr.slice 9 (.string ⟨#[32, 110, 105, 99, 100, 112, 114, 117, 102, 103, 116]⟩) (some (.int .i64 5)) (some (.int .i64 6)) none).run Try.prog W = .ok (st [L]) W := by
    rw [← hL]; exact letter_run 5 (by omega)
  obtain ⟨SA, hsa⟩ : ∃ SA, st a = .string SA := ⟨_, rfl⟩
  obtain ⟨SB, hsb⟩ : ∃ SB, st b = .string SB := ⟨_, rfl⟩
  have hw2' : w.alloc (.cells #[.int .i64 5, .string SA, .string SB, .int .i64 n, .int .i64 m] 23) = W2 := by rw [← hw2]; unfold Ky.cells; rw [hsa, hsb]
  have HW2 := Lib.hid hw2'
  have HG := Lib.hid hg
  show Calls Try.prog 16 #[.agg #[.int .i64 5, st a, st b, .int .i64 n, .int .i64 m]] w _
  simp only at c0 c1 c2 c3 c4
  rw [hsa] at c1
  rw [hsb] at c2
  rw [hsa, hsb]
  have hadd := add_st [L] a (by simp; omega)
  rw [hsa] at hadd
  clear hw2 hw2' hk cf hL hsa hsb
  go_enter Try.func16, Try.ntmps16
  go_wp2
  go_ret
  exact ⟨rfl, HW2.out ▸ HB2.out⟩
set_option maxHeartbeats 4000000 in
theorem rBytes_8 (a b : List UInt8) (n m : Int)  (w W2 : World) (g : Nat) (L : UInt8) (hL : letterOf 8 = L) (hw2 : w.alloc (.cells (⟨8, a, b, n, m⟩ : Ky).cells 23) = W2) (hg : w.heap.size = g) (hla : a.length ≤ 1000) (hlb : b.length ≤ 1000)  :
    Calls Try.prog 16 #[(⟨8, a, b, n, m⟩ : Ky).val] w fun e w' => e = .returned (st (L :: a)) ∧ Below g w w' := by
  have HB2 : Hid (Below g w W2) := by rw [← hw2, ← hg]; exact (Below.refl _ _).alloc (Nat.le_refl _) _
  have hk : KyAt W2 g ⟨8, a, b, n, m⟩ := by rw [← hw2, ← hg]; exact KyAt.new w _
  obtain ⟨c0, c1, c2, c3, c4, cf⟩ := hk.at
  have hlr : ∀ W, (Instr.slice 9 (.string ⟨#[32, 110, 105, 99, 100, 112, 114, 117, 102, 103, 116]⟩) (some (.int .i64 8)) (some (.int .i64 9)) none).run Try.prog W = .ok (st [L]) W := by
    rw [← hL]; exact letter_run 8 (by omega)
  obtain ⟨SA, hsa⟩ : ∃ SA, st a = .string SA := ⟨_, rfl⟩
  obtain ⟨SB, hsb⟩ : ∃ SB, st b = .string SB := ⟨_, rfl⟩
  have hw2' : w.alloc (.cells #[.int .i64 8, .string SA, .string SB, .int .i64 n, .int .i64 m] 23) = W2 := by rw [← hw2]; unfold Ky.cells; rw [hsa, hsb]
  have HW2 := Lib.hid hw2'
  have HG := Lib.hid hg
  show Calls Try.prog 16 #[.agg #[.int .i64 8, st a, st b, .int .i64 n, .int .i64 m]] w _
  simp only at c0 c1 c2 c3 c4
  rw [hsa] at c1
  rw [hsb] at c2
  rw [hsa, hsb]
  have hadd := add_st [L] a (by simp; omega)
  rw [hsa] at hadd
  clear hw2 hw2' hk cf hL hsa hsb
  go_enter Try.func16, Try.ntmps16
  go_wp2
  go_ret
  exact ⟨rfl, HW2.out ▸ HB2.out⟩
set_option maxHeartbeats 4000000 in
theorem rBytes_10 (a b : List UInt8) (n m : Int)  (w W2 : World) (g : Nat) (L : UInt8) (hL : letterOf 10 = L) (hw2 : w.alloc (.cells (⟨10, a, b, n, m⟩ : Ky).cells 23) = W2) (hg : w.heap.size = g) (hla : a.length ≤ 1000) (hlb : b.length ≤ 1000)  :
    Calls Try.prog 16 #[(⟨10, a, b, n, m⟩ : Ky).val] w fun e w' => e = .returned (st (L :: a)) ∧ Below g w w' := by
  have HB2 : Hid (Below g w W2) := by rw [← hw2, ← hg]; exact (Below.refl _ _).alloc (Nat.le_refl _) _
  have hk : KyAt W2 g ⟨10, a, b, n, m⟩ := by rw [← hw2, ← hg]; exact KyAt.new w _
  obtain ⟨c0, c1, c2, c3, c4, cf⟩ := hk.at
  have hlr : ∀ W, (Instr.slice 9 (.string ⟨#[32, 110, 105, 99, 100, 112, 114, 117, 102, 103, 116]⟩) (some (.int .i64 10)) (some (.int .i64 11)) none).run Try.prog W = .ok (st [L]) W := by
    rw [← hL]; exact letter_run 10 (by omega)
  obtain ⟨SA, hsa⟩ : ∃ SA, st a = .string SA := ⟨_, rfl⟩
  obtain ⟨SB, hsb⟩ : ∃ SB, st b = .string SB := ⟨_, rfl⟩
  have hw2' : w.alloc (.cells #[.int .i64 10, .string SA, .string SB, .int .i64 n, .int .i64 m] 23) = W2 := by rw [← hw2]; unfold Ky.cells; rw [hsa, hsb]
  have HW2 := Lib.hid hw2'
  have HG := Lib.hid hg
  show Calls Try.prog 16 #[.agg #[.int .i64 10, st a, st b, .int .i64 n, .int .i64 m]] w _
  simp only at c0 c1 c2 c3 c4
  rw [hsa] at c1
  rw [hsb] at c2
  rw [hsa, hsb]
  have hadd := add_st [L] a (by simp; omega)
  rw [hsa] at hadd
  clear hw2 hw2' hk cf hL hsa hsb
  go_enter Try.func16, Try.ntmps16
  go_wp2
  go_ret
  exact ⟨rfl, HW2.out ▸ HB2.out⟩
set_option maxHeartbeats 4000000 in
theorem rBytes_6 (a b : List UInt8) (n m : Int)  (w W2 : World) (g : Nat) (L : UInt8) (hL : letterOf 6 = L) (hw2 : w.alloc (.cells (⟨6, a, b, n, m⟩ : Ky).cells 23) = W2) (hg : w.heap.size = g) (hla : a.length ≤ 1000) (hlb : b.length ≤ 1000)  :
    Calls Try.prog 16 #[(⟨6, a, b, n, m⟩ : Ky).val] w fun e w' => e = .returned (st (L :: (a ++ 0 :: b))) ∧ Below g w w' := by
  have HB2 : Hid (Below g w W2) := by rw [← hw2, ← hg]; exact (Below.refl _ _).alloc (Nat.le_refl _) _
  have hk : KyAt W2 g ⟨6, a, b, n, m⟩ := by rw [← hw2, ← hg]; exact KyAt.new w _
  obtain ⟨c0, c1, c2, c3, c4, cf⟩ := hk.at
  have hlr : ∀ W, (Instr.slice 9 (.string ⟨#[32, 110, 105, 99, 100, 112, 114, 117, 102, 103, 116]⟩) (some (.int .i64 6)) (some (.int .i64 7)) none).run Try.prog W = .ok (st [L]) W := by
    rw [← hL]; exact letter_run 6 (by omega)
  obtain ⟨SA, hsa⟩ : ∃ SA, st a = .string SA := ⟨_, rfl⟩
  obtain ⟨SB, hsb⟩ : ∃ SB, st b = .string SB := ⟨_, rfl⟩
  have hw2' : w.alloc (.cells #[.int .i64 6, .string SA, .string SB, .int .i64 n, .int .i64 m] 23) = W2 := by rw [← hw2]; unfold Ky.cells; rw [hsa, hsb]
  have HW2 := Lib.hid hw2'
  have HG := Lib.hid hg
  show Calls Try.prog 16 #[.agg #[.int .i64 6, st a, st b, .int .i64 n, .int .i64 m]] w _
  simp only at c0 c1 c2 c3 c4
  rw [hsa] at c1
  rw [hsb] at c2
  rw [hsa, hsb]
  have e0 : st [0] = .string ⟨#[0]⟩ := rfl
  obtain ⟨r0, hr0⟩ : ∃ rr, [L] = rr := ⟨_, rfl⟩
  have l0 : r0.length = 1 := by rw [← hr0]; rfl
  rw [hr0] at hlr
  have hadd0 := add_st r0 a (by omega)
  rw [hsa] at hadd0
  obtain ⟨r1, hr1⟩ : ∃ rr, r0 ++ a = rr := ⟨_, rfl⟩
  rw [hr1] at hadd0
  have l1 : r1.length ≤ 1 + 1 * 1000 := by rw [← hr1, List.length_append]; omega
  have hadd1 := add_st r1 [0] (by have : ([0] : List UInt8).length = 1 := rfl; omega)
  rw [e0] at hadd1
  obtain ⟨r2, hr2⟩ : ∃ rr, r1 ++ [0] = rr := ⟨_, rfl⟩
  rw [hr2] at hadd1
  have l2 : r2.length ≤ 1 + 2 * 1000 := by rw [← hr2, List.length_append]; have : ([0] : List UInt8).length = 1 := rfl; omega
  have hadd2 := add_st r2 b (by omega)
  rw [hsb] at hadd2
  obtain ⟨r3, hr3⟩ : ∃ rr, r2 ++ b = rr := ⟨_, rfl⟩
  rw [hr3] at hadd2
  have l3 : r3.length ≤ 1 + 3 * 1000 := by rw [← hr3, List.length_append]; omega
  have HRES : Hid (r3 = L :: (a ++ 0 :: b)) := by show r3 = _; rw [← hr3, ← hr2, ← hr1, ← hr0]; simp
  clear hr0 l0 hr1 l1 hr2 l2 hr3 l3
  rw [← HRES.out]
  clear hw2 hw2' hk cf hL hsa hsb e0
  go_enter Try.func16, Try.ntmps16
  go_wp2
  go_ret
  exact ⟨rfl, HW2.out ▸ HB2.out⟩
set_option maxHeartbeats 4000000 in
theorem rBytes_7 (a b : List UInt8) (n m : Int)  (w W2 : World) (g : Nat) (L : UInt8) (hL : letterOf 7 = L) (hw2 : w.alloc (.cells (⟨7, a, b, n, m⟩ : Ky).cells 23) = W2) (hg : w.heap.size = g) (hla : a.length ≤ 1000) (hlb : b.length ≤ 1000)  :
    Calls Try.prog 16 #[(⟨7, a, b, n, m⟩ : Ky).val] w fun e w' => e = .returned (st (L :: (a ++ 0 :: b))) ∧ Below g w w' := by
  have HB2 : Hid (Below g w W2) := by rw [← hw2, ← hg]; exact (Below.refl _ _).alloc (Nat.le_refl _) _
  have hk : KyAt W2 g ⟨7, a, b, n, m⟩ := by rw [← hw2, ← hg]; exact KyAt.new w _
  obtain ⟨c0, c1, c2, c3, c4, cf⟩ := hk.at
  have hlr : ∀ W, (Instr.slice 9 (.string ⟨#[32, 110, 105, 99, 100, 112, 114, 117, 102, 103, 116]⟩) (some (.int .i64 7)) (some (.int .i64 8)) none).run Try.prog W = .ok (st [L]) W := by
    rw [← hL]; exact letter_run 7 (by omega)
  obtain ⟨SA, hsa⟩ : ∃ SA, st a = .string SA := ⟨_, rfl⟩
  obtain ⟨SB, hsb⟩ : ∃ SB, st b = .string SB := ⟨_, rfl⟩
  have hw2' : w.alloc (.cells #[.int .i64 7, .string SA, .string SB, .int .i64 n, .int .i64 m] 23) = W2 := by rw [← hw2]; unfold Ky.cells; rw [hsa, hsb]
  have HW2 := Lib.hid hw2'
  have HG := Lib.hid hg
  show Calls Try.prog 16 #[.agg #[.int .i64 7, st a, st b, .int .i64 n, .int .i64 m]] w _
  simp only at c0 c1 c2 c3 c4
  rw [hsa] at c1
  rw [hsb] at c2
  rw [hsa, hsb]
  have e0 : st [0] = .string ⟨#[0]⟩ := rfl
  obtain ⟨r0, hr0⟩ : ∃ rr, [L] = rr := ⟨_, rfl⟩
  have l0 : r0.length = 1 := by rw [← hr0]; rfl
  rw [hr0] at hlr
  have hadd0 := add_st r0 a (by omega)
  rw [hsa] at hadd0
  obtain ⟨r1, hr1⟩ : ∃ rr, r0 ++ a = rr := ⟨_, rfl⟩
  rw [hr1] at hadd0
  have l1 : r1.length ≤ 1 + 1 * 1000 := by rw [← hr1, List.length_append]; omega
  have hadd1 := add_st r1 [0] (by have : ([0] : List UInt8).length = 1 := rfl; omega)
  rw [e0] at hadd1
  obtain ⟨r2, hr2⟩ : ∃ rr, r1 ++ [0] = rr := ⟨_, rfl⟩
  rw [hr2] at hadd1
  have l2 : r2.length ≤ 1 + 2 * 1000 := by rw [← hr2, List.length_append]; have : ([0] : List UInt8).length = 1 := rfl; omega
  have hadd2 := add_st r2 b (by omega)
  rw [hsb] at hadd2
  obtain ⟨r3, hr3⟩ : ∃ rr, r2 ++ b = rr := ⟨_, rfl⟩
  rw [hr3] at hadd2
  have l3 : r3.length ≤ 1 + 3 * 1000 := by rw [← hr3, List.length_append]; omega
  have HRES : Hid (r3 = L :: (a ++ 0 :: b)) := by show r3 = _; rw [← hr3, ← hr2, ← hr1, ← hr0]; simp
  clear hr0 l0 hr1 l1 hr2 l2 hr3 l3
  rw [← HRES.out]
  clear hw2 hw2' hk cf hL hsa hsb e0
  go_enter Try.func16, Try.ntmps16
  go_wp2
  go_ret
  exact ⟨rfl, HW2.out ▸ HB2.out⟩
set_option maxHeartbeats 4000000 in
theorem rBytes_2 (a b : List UInt8) (n m : Int) (q : Nat) (hnq : n = (q : Int)) (w W2 : World) (g : Nat) (L : UInt8) (hL : letterOf 2 = L) (hw2 : w.alloc (.cells (⟨2, a, b, n, m⟩ : Ky).cells 23) = W2) (hg : w.heap.size = g) (hla : a.length ≤ 1000) (hlb : b.length ≤ 1000) (hq : q ≤ 16777215) :
    Calls Try.prog 16 #[(⟨2, a, b, n, m⟩ : Ky).val] w fun e w' => e = .returned (st (L :: be 3 q)) ∧ Below g w w' := by
  have HB2 : Hid (Below g w W2) := by rw [← hw2, ← hg]; exact (Below.refl _ _).alloc (Nat.le_refl _) _
  have hk : KyAt W2 g ⟨2, a, b, n, m⟩ := by rw [← hw2, ← hg]; exact KyAt.new w _
  obtain ⟨c0, c1, c2, c3, c4, cf⟩ := hk.at
  have hlr : ∀ W, (Instr.slice 9 (.string ⟨#[32, 110, 105, 99, 100, 112, 114, 117, 102, 103, 116]⟩) (some (.int .i64 2)) (some (.int .i64 3)) none).run Try.prog W = .ok (st [L]) W := by
    rw [← hL]; exact letter_run 2 (by omega)
  obtain ⟨SA, hsa⟩ : ∃ SA, st a = .string SA := ⟨_, rfl⟩
  obtain ⟨SB, hsb⟩ : ∃ SB, st b = .string SB := ⟨_, rfl⟩
  have hw2' : w.alloc (.cells #[.int .i64 2, .string SA, .string SB, .int .i64 n, .int .i64 m] 23) = W2 := by rw [← hw2]; unfold Ky.cells; rw [hsa, hsb]
  have HW2 := Lib.hid hw2'
  have HG := Lib.hid hg
  show Calls Try.prog 16 #[.agg #[.int .i64 2, st a, st b, .int .i64 n, .int .i64 m]] w _
  simp only at c0 c1 c2 c3 c4
  rw [hsa] at c1
  rw [hsb] at c2
  rw [hsa, hsb]
  subst hnq
  have H3 := Lib.hid (rThree_any q W2 (by omega))
  have hadd := add_st [L] (be 3 q) (by simp [be_length])
  have hgl : g ≤ W2.heap.size := by have := HB2.out.size; omega
  clear hw2 hw2' hk cf hL hsa hsb
  go_enter Try.func16, Try.ntmps16
  go_wp2_with fail
  rw [HW2.out]
  refine H3.out.mono ?_
  rintro e w3 ⟨rfl, hb3⟩
  have HB3 : Hid (Below g w w3) := HB2.out.trans (hb3.mono hgl)
  clear hb3
  go_wp2
  go_ret
  exact ⟨rfl, HB3.out⟩
set_option maxHeartbeats 4000000 in
theorem rBytes_4 (a b : List UInt8) (n m : Int) (q : Nat) (hnq : n = (q : Int)) (w W2 : World) (g : Nat) (L : UInt8) (hL : letterOf 4 = L) (hw2 : w.alloc (.cells (⟨4, a, b, n, m⟩ : Ky).cells 23) = W2) (hg : w.heap.size = g) (hla : a.length ≤ 1000) (hlb : b.length ≤ 1000) (hq : q ≤ 16777215) :
    Calls Try.prog 16 #[(⟨4, a, b, n, m⟩ : Ky).val] w fun e w' => e = .returned (st (L :: (be 3 q ++ a))) ∧ Below g w w' := by
  have HB2 : Hid (Below g w W2) := by rw [← hw2, ← hg]; exact (Below.refl _ _).alloc (Nat.le_refl _) _
  have hk : KyAt W2 g ⟨4, a, b, n, m⟩ := by rw [← hw2, ← hg]; exact KyAt.new w _
  obtain ⟨c0, c1, c2, c3, c4, cf⟩ := hk.at
  have hlr : ∀ W, (Instr.slice 9 (.string ⟨#[32, 110, 105, 99, 100, 112, 114, 117, 102, 103, 116]⟩) (some (.int .i64 4)) (some (.int .i64 5)) none).run Try.prog W = .ok (st [L]) W := by
    rw [← hL]; exact letter_run 4 (by omega)
  obtain ⟨SA, hsa⟩ : ∃ SA, st a = .string SA := ⟨_, rfl⟩
  obtain ⟨SB, hsb⟩ : ∃ SB, st b = .string SB := ⟨_, rfl⟩
  have hw2' : w.alloc (.cells #[.int .i64 4, .string SA, .string SB, .int .i64 n, .int .i64 m] 23) = W2 := by rw [← hw2]; unfold Ky.cells; rw [hsa, hsb]
  have HW2 := Lib.hid hw2'
  have HG := Lib.hid hg
  show Calls Try.prog 16 #[.agg #[.int .i64 4, st a, st b, .int .i64 n, .int .i64 m]] w _
  simp only at c0 c1 c2 c3 c4
  rw [hsa] at c1
  rw [hsb] at c2
  rw [hsa, hsb]
  subst hnq
  have H3 := Lib.hid (fun W => rThree_any q W (by omega))
  obtain ⟨r0, hr0⟩ : ∃ rr, [L] = rr := ⟨_, rfl⟩
  have l0 : r0.length = 1 := by rw [← hr0]; rfl
  rw [hr0] at hlr
  have hadd0 := add_st r0 (be 3 q) (by have := be_length 3 q; omega)
  obtain ⟨r1, hr1⟩ : ∃ rr, r0 ++ (be 3 q) = rr := ⟨_, rfl⟩
  rw [hr1] at hadd0
  have l1 : r1.length ≤ 1 + 1 * 1000 := by rw [← hr1, List.length_append]; have := be_length 3 q; omega
  have hadd1 := add_st r1 a (by omega)
  rw [hsa] at hadd1
  obtain ⟨r2, hr2⟩ : ∃ rr, r1 ++ a = rr := ⟨_, rfl⟩
  rw [hr2] at hadd1
  have l2 : r2.length ≤ 1 + 2 * 1000 := by rw [← hr2, List.length_append]; omega
  have HRES : Hid (r2 = L :: (be 3 q ++ a)) := by show r2 = _; rw [← hr2, ← hr1, ← hr0]; simp
  clear hr0 l0 hr1 l1 hr2 l2
  rw [← HRES.out]
  have hgl : g ≤ W2.heap.size := by have := HB2.out.size; omega
  have HS0 : Hid (W2.drew.cell? ⟨g, 1, none⟩ = some (.string SA) ∧ W2.drew.cell? ⟨g, 3, none⟩ = some (.int .i64 (q : Int)) ∧ W2.drew.cell? ⟨g, 4, none⟩ = some (.int .i64 m)) := ⟨c1, c3, c4⟩
  have HHG := Lib.hid hgl
  clear hw2 hw2' hk cf hL hsa hsb hgl
  go_enter Try.func16, Try.ntmps16
  go_wp2_with fail
  rw [HW2.out]
  refine wp_region_held_drew (S := fun W : World => W.cell? ⟨g, 1, none⟩ = some (.string SA) ∧ W.cell? ⟨g, 3, none⟩ = some (.int .i64 (q : Int)) ∧ W.cell? ⟨g, 4, none⟩ = some (.int .i64 m)) (by kernel_rfl) (HS0.out) (fun hHeld => ?_)
  refine wpAnyH_take (i := 0) (oi := { dst := some 39, op := Go.Op.move (Go.Operand.tmp 3), type := 9, pos := "ref.go:69", after := #[], guard := none }) (v := ?vp0) rfl (by kernel_rfl) (by kernel_rfl) (by kernel_rfl) (fun _ _ _ h => h) (Or.inl ⟨by rfl, ?hyp0⟩) hHeld ?_
  case hyp0 => (intro w hSw; (try dsimp only at hSw); go_simp; first | done | with_reducible rfl)
  try simp only [Act.put, List.setIfInBounds_toArray, List.set_cons_zero, List.set_cons_succ]
  refine wpAnyH_take (i := 1) (oi := { dst := some 40, op := Go.Op.fieldAddr 23 (Go.Operand.tmp 1) 3, type := 0, pos := "ref.go:69", after := #[], guard := none }) (v := ?vp1) rfl (by kernel_rfl) (by kernel_rfl) (by kernel_rfl) (fun _ _ _ h => h) (Or.inl ⟨by rfl, ?hyp1⟩) hHeld ?_
  case hyp1 => (intro w hSw; (try dsimp only at hSw); go_simp; first | done | with_reducible rfl)
  try simp only [Act.put, List.setIfInBounds_toArray, List.set_cons_zero, List.set_cons_succ]
  refine wpAnyH_take (i := 2) (oi := { dst := some 41, op := Go.Op.load 3 (Go.Operand.tmp 40), type := 3, pos := "ref.go:69", after := #[{ on := 1, ground := Go.Ground.data }], guard := none }) (v := ?vp2) rfl (by kernel_rfl) (by kernel_rfl) (by kernel_rfl) (fun _ _ _ h => h) (Or.inl ⟨by rfl, ?hyp2⟩) hHeld ?_
  case hyp2 => (intro w hSw; (try dsimp only at hSw); go_simp; first | done | with_reducible rfl)
  try simp only [Act.put, List.setIfInBounds_toArray, List.set_cons_zero, List.set_cons_succ]
  refine wpAnyH_take (i := 5) (oi := { dst := some 44, op := Go.Op.fieldAddr 23 (Go.Operand.tmp 1) 1, type := 0, pos := "ref.go:69", after := #[], guard := none }) (v := ?vp5) rfl (by kernel_rfl) (by kernel_rfl) (by kernel_rfl) (fun _ _ _ h => h) (Or.inl ⟨by rfl, ?hyp5⟩) hHeld ?_
  case hyp5 => (intro w hSw; (try dsimp only at hSw); go_simp; first | done | with_reducible rfl)
  try simp only [Act.put, List.setIfInBounds_toArray, List.set_cons_zero, List.set_cons_succ]
  refine wpAnyH_take (i := 6) (oi := { dst := some 45, op := Go.Op.load 9 (Go.Operand.tmp 44), type := 9, pos := "ref.go:69", after := #[{ on := 5, ground := Go.Ground.data }], guard := none }) (v := ?vp6) rfl (by kernel_rfl) (by kernel_rfl) (by kernel_rfl) (fun _ _ _ h => h) (Or.inl ⟨by rfl, ?hyp6⟩) hHeld ?_
  case hyp6 => (intro w hSw; (try dsimp only at hSw); go_simp; first | done | with_reducible rfl)
  try simp only [Act.put, List.setIfInBounds_toArray, List.set_cons_zero, List.set_cons_succ]
  refine wpAnyH_ready (rs := [3]) (by kernel_rfl) (by simp) ?_
  refine AllReadyH.cons (o := { dst := some 42, op := Go.Op.call { callee := Go.Callee.value (Go.Operand.func 22), args := #[Go.Operand.tmp 41], argTypes := #[3] }, type := 9, pos := "ref.go:69", after := #[{ on := 2, ground := Go.Ground.data }], guard := none }) rfl (fun K hK => ?_) AllReadyH.nil
  go_simp
  refine (H3.out W2.drew).mono ?_
  rintro e w3 ⟨rfl, hb3⟩
  have hS3 : w3.cell? ⟨g, 1, none⟩ = some (.string SA) ∧ w3.cell? ⟨g, 3, none⟩ = some (.int .i64 (q : Int)) ∧ w3.cell? ⟨g, 4, none⟩ = some (.int .i64 m) := ⟨(hb3.cell (p := ⟨g, 1, none⟩) (blt_of_cell HS0.out.1)).trans HS0.out.1, (hb3.cell (p := ⟨g, 3, none⟩) (blt_of_cell HS0.out.2.1)).trans HS0.out.2.1, (hb3.cell (p := ⟨g, 4, none⟩) (blt_of_cell HS0.out.2.2)).trans HS0.out.2.2⟩
  have HB3 := Lib.hid hb3
  clear hb3
  go_wp2_with fail
  refine hK.out _ _ (hS3) (fun hHeld => ?_)
  clear hK K
  try simp only [Act.put, List.setIfInBounds_toArray, List.set_cons_zero, List.set_cons_succ]
  refine wpAnyH_take (i := 4) (oi := { dst := some 43, op := Go.Op.binOp Go.BinOp.add 9 (Go.Operand.tmp 39) (Go.Operand.tmp 42) 9, type := 9, pos := "ref.go:69", after := #[{ on := 0, ground := Go.Ground.data }, { on := 3, ground := Go.Ground.data }], guard := none }) (v := ?vp4) rfl (by kernel_rfl) (by kernel_rfl) (by kernel_rfl) (fun _ _ _ h => h) (Or.inl ⟨by rfl, ?hyp4⟩) hHeld ?_
  case hyp4 => (intro w hSw; (try dsimp only at hSw); go_simp; first | done | with_reducible rfl)
  try simp only [Act.put, List.setIfInBounds_toArray, List.set_cons_zero, List.set_cons_succ]
  refine wpAnyH_take (i := 7) (oi := { dst := some 46, op := Go.Op.binOp Go.BinOp.add 9 (Go.Operand.tmp 43) (Go.Operand.tmp 45) 9, type := 9, pos := "ref.go:69", after := #[{ on := 4, ground := Go.Ground.data }, { on := 6, ground := Go.Ground.data }], guard := none }) (v := ?vp7) rfl (by kernel_rfl) (by kernel_rfl) (by kernel_rfl) (fun _ _ _ h => h) (Or.inl ⟨by rfl, ?hyp7⟩) hHeld ?_
  case hyp7 => (intro w hSw; (try dsimp only at hSw); go_simp; first | done | with_reducible rfl)
  try simp only [Act.put, List.setIfInBounds_toArray, List.set_cons_zero, List.set_cons_succ]
  refine wpAnyH_take (i := 8) (oi := { dst := some 2, op := Go.Op.assign (Go.Operand.tmp 46), type := 9, pos := "ref.go:69", after := #[{ on := 7, ground := Go.Ground.data }, { on := 3, ground := Go.Ground.chain }, { on := 0, ground := Go.Ground.phase }, { on := 1, ground := Go.Ground.phase }, { on := 2, ground := Go.Ground.phase }, { on := 3, ground := Go.Ground.phase }, { on := 4, ground := Go.Ground.phase }, { on := 5, ground := Go.Ground.phase }, { on := 6, ground := Go.Ground.phase }, { on := 7, ground := Go.Ground.phase }], guard := none }) (v := ?vp8) rfl (by kernel_rfl) (by kernel_rfl) (by kernel_rfl) (fun _ _ _ h => h) (Or.inl ⟨by rfl, ?hyp8⟩) hHeld ?_
  case hyp8 => (intro w hSw; (try dsimp only at hSw); go_simp; first | done | with_reducible rfl)
  try simp only [Act.put, List.setIfInBounds_toArray, List.set_cons_zero, List.set_cons_succ]
  refine wpAnyH_done (by kernel_rfl) ?_ _
  clear hHeld
  have HB4 : Hid (Below g w w3) := HB2.out.trans ((Below.refl _ _).drew.trans (HB3.out.mono HHG.out))
  clear hS3
  go_wp2
  go_ret
  exact ⟨rfl, HB4.out⟩
set_option maxHeartbeats 4000000 in
theorem rBytes_9 (a b : List UInt8) (n m : Int) (q : Nat) (hnq : n = (q : Int)) (w W2 : World) (g : Nat) (L : UInt8) (hL : letterOf 9 = L) (hw2 : w.alloc (.cells (⟨9, a, b, n, m⟩ : Ky).cells 23) = W2) (hg : w.heap.size = g) (hla : a.length ≤ 1000) (hlb : b.length ≤ 1000) (hq : q ≤ 16777215) :
    Calls Try.prog 16 #[(⟨9, a, b, n, m⟩ : Ky).val] w fun e w' => e = .returned (st (L :: (a ++ 0 :: be 3 q))) ∧ Below g w w' := by
  have HB2 : Hid (Below g w W2) := by rw [← hw2, ← hg]; exact (Below.refl _ _).alloc (Nat.le_refl _) _
  have hk : KyAt W2 g ⟨9, a, b, n, m⟩ := by rw [← hw2, ← hg]; exact KyAt.new w _
  obtain ⟨c0, c1, c2, c3, c4, cf⟩ := hk.at
  have hlr : ∀ W, (Instr.slice 9 (.string ⟨#[32, 110, 105, 99, 100, 112, 114, 117, 102, 103, 116]⟩) (some (.int .i64 9)) (some (.int .i64 10)) none).run Try.prog W = .ok (st [L]) W := by
    rw [← hL]; exact letter_run 9 (by omega)
  obtain ⟨SA, hsa⟩ : ∃ SA, st a = .string SA := ⟨_, rfl⟩
  obtain ⟨SB, hsb⟩ : ∃ SB, st b = .string SB := ⟨_, rfl⟩
  have hw2' : w.alloc (.cells #[.int .i64 9, .string SA, .string SB, .int .i64 n, .int .i64 m] 23) = W2 := by rw [← hw2]; unfold Ky.cells; rw [hsa, hsb]
  have HW2 := Lib.hid hw2'
  have HG := Lib.hid hg
  show Calls Try.prog 16 #[.agg #[.int .i64 9, st a, st b, .int .i64 n, .int .i64 m]] w _
  simp only at c0 c1 c2 c3 c4
  rw [hsa] at c1
  rw [hsb] at c2
  rw [hsa, hsb]
  subst hnq
  have e0 : st [0] = .string ⟨#[0]⟩ := rfl
  have H3 := Lib.hid (fun W => rThree_any q W (by omega))
  obtain ⟨r0, hr0⟩ : ∃ rr, [L] = rr := ⟨_, rfl⟩
  have l0 : r0.length = 1 := by rw [← hr0]; rfl
  rw [hr0] at hlr
  have hadd0 := add_st r0 a (by omega)
  rw [hsa] at hadd0
  obtain ⟨r1, hr1⟩ : ∃ rr, r0 ++ a = rr := ⟨_, rfl⟩
  rw [hr1] at hadd0
  have l1 : r1.length ≤ 1 + 1 * 1000 := by rw [← hr1, List.length_append]; omega
  have hadd1 := add_st r1 [0] (by have : ([0] : List UInt8).length = 1 := rfl; omega)
  rw [e0] at hadd1
  obtain ⟨r2, hr2⟩ : ∃ rr, r1 ++ [0] = rr := ⟨_, rfl⟩
  rw [hr2] at hadd1
  have l2 : r2.length ≤ 1 + 2 * 1000 := by rw [← hr2, List.length_append]; have : ([0] : List UInt8).length = 1 := rfl; omega
  have hadd2 := add_st r2 (be 3 q) (by have := be_length 3 q; omega)
  obtain ⟨r3, hr3⟩ : ∃ rr, r2 ++ (be 3 q) = rr := ⟨_, rfl⟩
  rw [hr3] at hadd2
  have l3 : r3.length ≤ 1 + 3 * 1000 := by rw [← hr3, List.length_append]; have := be_length 3 q; omega
  have HRES : Hid (r3 = L :: (a ++ 0 :: be 3 q)) := by show r3 = _; rw [← hr3, ← hr2, ← hr1, ← hr0]; simp
  clear hr0 l0 hr1 l1 hr2 l2 hr3 l3
  rw [← HRES.out]
  have hgl : g ≤ W2.heap.size := by have := HB2.out.size; omega
  have HS0 : Hid (W2.drew.cell? ⟨g, 1, none⟩ = some (.string SA) ∧ W2.drew.cell? ⟨g, 3, none⟩ = some (.int .i64 (q : Int)) ∧ W2.drew.cell? ⟨g, 4, none⟩ = some (.int .i64 m)) := ⟨c1, c3, c4⟩
  have HHG := Lib.hid hgl
  clear hw2 hw2' hk cf hL hsa hsb hgl e0
  go_enter Try.func16, Try.ntmps16
  go_wp2_with fail
  rw [HW2.out]
  refine wp_region_held_drew (S := fun W : World => W.cell? ⟨g, 1, none⟩ = some (.string SA) ∧ W.cell? ⟨g, 3, none⟩ = some (.int .i64 (q : Int)) ∧ W.cell? ⟨g, 4, none⟩ = some (.int .i64 m)) (by kernel_rfl) (HS0.out) (fun hHeld => ?_)
  refine wpAnyH_take (i := 0) (oi := { dst := some 60, op := Go.Op.move (Go.Operand.tmp 3), type := 9, pos := "ref.go:73", after := #[], guard := none }) (v := ?vq0) rfl (by kernel_rfl) (by kernel_rfl) (by kernel_rfl) (fun _ _ _ h => h) (Or.inl ⟨by rfl, ?hyq0⟩) hHeld ?_
  case hyq0 => (intro w hSw; (try dsimp only at hSw); go_simp; first | done | with_reducible rfl)
  try simp only [Act.put, List.setIfInBounds_toArray, List.set_cons_zero, List.set_cons_succ]
  refine wpAnyH_take (i := 1) (oi := { dst := some 61, op := Go.Op.fieldAddr 23 (Go.Operand.tmp 1) 1, type := 0, pos := "ref.go:73", after := #[], guard := none }) (v := ?vq1) rfl (by kernel_rfl) (by kernel_rfl) (by kernel_rfl) (fun _ _ _ h => h) (Or.inl ⟨by rfl, ?hyq1⟩) hHeld ?_
  case hyq1 => (intro w hSw; (try dsimp only at hSw); go_simp; first | done | with_reducible rfl)
  try simp only [Act.put, List.setIfInBounds_toArray, List.set_cons_zero, List.set_cons_succ]
  refine wpAnyH_take (i := 2) (oi := { dst := some 62, op := Go.Op.load 9 (Go.Operand.tmp 61), type := 9, pos := "ref.go:73", after := #[{ on := 1, ground := Go.Ground.data }], guard := none }) (v := ?vq2) rfl (by kernel_rfl) (by kernel_rfl) (by kernel_rfl) (fun _ _ _ h => h) (Or.inl ⟨by rfl, ?hyq2⟩) hHeld ?_
  case hyq2 => (intro w hSw; (try dsimp only at hSw); go_simp; first | done | with_reducible rfl)
  try simp only [Act.put, List.setIfInBounds_toArray, List.set_cons_zero, List.set_cons_succ]
  refine wpAnyH_take (i := 3) (oi := { dst := some 63, op := Go.Op.binOp Go.BinOp.add 9 (Go.Operand.tmp 60) (Go.Operand.tmp 62) 9, type := 9, pos := "ref.go:73", after := #[{ on := 0, ground := Go.Ground.data }, { on := 2, ground := Go.Ground.data }], guard := none }) (v := ?vq3) rfl (by kernel_rfl) (by kernel_rfl) (by kernel_rfl) (fun _ _ _ h => h) (Or.inl ⟨by rfl, ?hyq3⟩) hHeld ?_
  case hyq3 => (intro w hSw; (try dsimp only at hSw); go_simp; first | done | with_reducible rfl)
  try simp only [Act.put, List.setIfInBounds_toArray, List.set_cons_zero, List.set_cons_succ]
  refine wpAnyH_take (i := 4) (oi := { dst := some 64, op := Go.Op.binOp Go.BinOp.add 9 (Go.Operand.tmp 63) (Go.Operand.const (Go.Value.string { data := #[0] })) 9, type := 9, pos := "ref.go:73", after := #[{ on := 3, ground := Go.Ground.data }], guard := none }) (v := ?vq4) rfl (by kernel_rfl) (by kernel_rfl) (by kernel_rfl) (fun _ _ _ h => h) (Or.inl ⟨by rfl, ?hyq4⟩) hHeld ?_
  case hyq4 => (intro w hSw; (try dsimp only at hSw); go_simp; first | done | with_reducible rfl)
  try simp only [Act.put, List.setIfInBounds_toArray, List.set_cons_zero, List.set_cons_succ]
  refine wpAnyH_take (i := 5) (oi := { dst := some 65, op := Go.Op.fieldAddr 23 (Go.Operand.tmp 1) 3, type := 0, pos := "ref.go:73", after := #[], guard := none }) (v := ?vq5) rfl (by kernel_rfl) (by kernel_rfl) (by kernel_rfl) (fun _ _ _ h => h) (Or.inl ⟨by rfl, ?hyq5⟩) hHeld ?_
  case hyq5 => (intro w hSw; (try dsimp only at hSw); go_simp; first | done | with_reducible rfl)
  try simp only [Act.put, List.setIfInBounds_toArray, List.set_cons_zero, List.set_cons_succ]
  refine wpAnyH_take (i := 6) (oi := { dst := some 66, op := Go.Op.load 3 (Go.Operand.tmp 65), type := 3, pos := "ref.go:73", after := #[{ on := 5, ground := Go.Ground.data }], guard := none }) (v := ?vq6) rfl (by kernel_rfl) (by kernel_rfl) (by kernel_rfl) (fun _ _ _ h => h) (Or.inl ⟨by rfl, ?hyq6⟩) hHeld ?_
  case hyq6 => (intro w hSw; (try dsimp only at hSw); go_simp; first | done | with_reducible rfl)
  try simp only [Act.put, List.setIfInBounds_toArray, List.set_cons_zero, List.set_cons_succ]
  refine wpAnyH_ready (rs := [7]) (by kernel_rfl) (by simp) ?_
  refine AllReadyH.cons (o := { dst := some 67, op := Go.Op.call { callee := Go.Callee.value (Go.Operand.func 22), args := #[Go.Operand.tmp 66], argTypes := #[3] }, type := 9, pos := "ref.go:73", after := #[{ on := 6, ground := Go.Ground.data }], guard := none }) rfl (fun K hK => ?_) AllReadyH.nil
  go_simp
  refine (H3.out W2.drew).mono ?_
  rintro e w3 ⟨rfl, hb3⟩
  have hS3 : w3.cell? ⟨g, 1, none⟩ = some (.string SA) ∧ w3.cell? ⟨g, 3, none⟩ = some (.int .i64 (q : Int)) ∧ w3.cell? ⟨g, 4, none⟩ = some (.int .i64 m) := ⟨(hb3.cell (p := ⟨g, 1, none⟩) (blt_of_cell HS0.out.1)).trans HS0.out.1, (hb3.cell (p := ⟨g, 3, none⟩) (blt_of_cell HS0.out.2.1)).trans HS0.out.2.1, (hb3.cell (p := ⟨g, 4, none⟩) (blt_of_cell HS0.out.2.2)).trans HS0.out.2.2⟩
  have HB3 := Lib.hid hb3
  clear hb3
  go_wp2_with fail
  refine hK.out _ _ (hS3) (fun hHeld => ?_)
  clear hK K
  try simp only [Act.put, List.setIfInBounds_toArray, List.set_cons_zero, List.set_cons_succ]
  refine wpAnyH_take (i := 8) (oi := { dst := some 68, op := Go.Op.binOp Go.BinOp.add 9 (Go.Operand.tmp 64) (Go.Operand.tmp 67) 9, type := 9, pos := "ref.go:73", after := #[{ on := 4, ground := Go.Ground.data }, { on := 7, ground := Go.Ground.data }], guard := none }) (v := ?vq8) rfl (by kernel_rfl) (by kernel_rfl) (by kernel_rfl) (fun _ _ _ h => h) (Or.inl ⟨by rfl, ?hyq8⟩) hHeld ?_
  case hyq8 => (intro w hSw; (try dsimp only at hSw); go_simp; first | done | with_reducible rfl)
  try simp only [Act.put, List.setIfInBounds_toArray, List.set_cons_zero, List.set_cons_succ]
  refine wpAnyH_take (i := 9) (oi := { dst := some 2, op := Go.Op.assign (Go.Operand.tmp 68), type := 9, pos := "ref.go:73", after := #[{ on := 8, ground := Go.Ground.data }, { on := 7, ground := Go.Ground.chain }, { on := 0, ground := Go.Ground.phase }, { on := 1, ground := Go.Ground.phase }, { on := 2, ground := Go.Ground.phase }, { on := 3, ground := Go.Ground.phase }, { on := 4, ground := Go.Ground.phase }, { on := 5, ground := Go.Ground.phase }, { on := 6, ground := Go.Ground.phase }, { on := 7, ground := Go.Ground.phase }, { on := 8, ground := Go.Ground.phase }], guard := none }) (v := ?vq9) rfl (by kernel_rfl) (by kernel_rfl) (by kernel_rfl) (fun _ _ _ h => h) (Or.inl ⟨by rfl, ?hyq9⟩) hHeld ?_
  case hyq9 => (intro w hSw; (try dsimp only at hSw); go_simp; first | done | with_reducible rfl)
  try simp only [Act.put, List.setIfInBounds_toArray, List.set_cons_zero, List.set_cons_succ]
  refine wpAnyH_done (by kernel_rfl) ?_ _
  clear hHeld
  have HB4 : Hid (Below g w w3) := HB2.out.trans ((Below.refl _ _).drew.trans (HB3.out.mono HHG.out))
  clear hS3
  go_wp2
  go_ret
  exact ⟨rfl, HB4.out⟩
set_option maxHeartbeats 4000000 in
theorem rBytes_3 (a b : List UInt8) (n m : Int) (q r : Nat) (hnq : n = (q : Int)) (hmr : m = (r : Int)) (w W2 : World) (g : Nat) (L : UInt8) (hL : letterOf 3 = L) (hw2 : w.alloc (.cells (⟨3, a, b, n, m⟩ : Ky).cells 23) = W2) (hg : w.heap.size = g) (hla : a.length ≤ 1000) (hlb : b.length ≤ 1000) (hq : q ≤ 16777215) (hr : r ≤ 65535) :
    Calls Try.prog 16 #[(⟨3, a, b, n, m⟩ : Ky).val] w fun e w' => e = .returned (st (L :: (be 3 q ++ be 2 r))) ∧ Below g w w' := by
  have HB2 : Hid (Below g w W2) := by rw [← hw2, ← hg]; exact (Below.refl _ _).alloc (Nat.le_refl _) _
  have hk : KyAt W2 g ⟨3, a, b, n, m⟩ := by rw [← hw2, ← hg]; exact KyAt.new w _
  obtain ⟨c0, c1, c2, c3, c4, cf⟩ := hk.at
  have hlr : ∀ W, (Instr.slice 9 (.string ⟨#[32, 110, 105, 99, 100, 112, 114, 117, 102, 103, 116]⟩) (some (.int .i64 3)) (some (.int .i64 4)) none).run Try.prog W = .ok (st [L]) W := by
    rw [← hL]; exact letter_run 3 (by omega)
  obtain ⟨SA, hsa⟩ : ∃ SA, st a = .string SA := ⟨_, rfl⟩
  obtain ⟨SB, hsb⟩ : ∃ SB, st b = .string SB := ⟨_, rfl⟩
  have hw2' : w.alloc (.cells #[.int .i64 3, .string SA, .string SB, .int .i64 n, .int .i64 m] 23) = W2 := by rw [← hw2]; unfold Ky.cells; rw [hsa, hsb]
  have HW2 := Lib.hid hw2'
  have HG := Lib.hid hg
  show Calls Try.prog 16 #[.agg #[.int .i64 3, st a, st b, .int .i64 n, .int .i64 m]] w _
  simp only at c0 c1 c2 c3 c4
  rw [hsa] at c1
  rw [hsb] at c2
  rw [hsa, hsb]
  subst hnq
  subst hmr
  have H3 := Lib.hid (fun W => rThree_any q W (by omega))
  have HST : Hid (∀ W : World, (convert 49 9 (.slice (some ⟨W.heap.size, 0, none⟩) 2 2)).run Try.prog (W.alloc (.cells #[.int .u8 (IntKind.u8.wrap (IntKind.i64.wrap ((r : Int) / 256))), .int .u8 (IntKind.u8.wrap ((r : Int).tmod 256))] 5)) = .ok (st (be 2 r)) (W.alloc (.cells #[.int .u8 (IntKind.u8.wrap (IntKind.i64.wrap ((r : Int) / 256))), .int .u8 (IntKind.u8.wrap ((r : Int).tmod 256))] 5))) := fun W => two_st r hr W
  have HST2 : Hid (∀ W w3 : World, Below (W.alloc (.cells #[.int .u8 (IntKind.u8.wrap (IntKind.i64.wrap ((r : Int) / 256))), .int .u8 (IntKind.u8.wrap ((r : Int).tmod 256))] 5)).heap.size (W.alloc (.cells #[.int .u8 (IntKind.u8.wrap (IntKind.i64.wrap ((r : Int) / 256))), .int .u8 (IntKind.u8.wrap ((r : Int).tmod 256))] 5)) w3 → (convert 49 9 (.slice (some ⟨W.heap.size, 0, none⟩) 2 2)).run Try.prog w3 = .ok (st (be 2 r)) w3) := fun W w3 h => two_st2 r hr W w3 h
  obtain ⟨r0, hr0⟩ : ∃ rr, [L] = rr := ⟨_, rfl⟩
  have l0 : r0.length = 1 := by rw [← hr0]; rfl
  rw [hr0] at hlr
  have hadd0 := add_st r0 (be 3 q) (by have := be_length 3 q; omega)
  obtain ⟨r1, hr1⟩ : ∃ rr, r0 ++ (be 3 q) = rr := ⟨_, rfl⟩
  rw [hr1] at hadd0
  have l1 : r1.length ≤ 1 + 1 * 1000 := by rw [← hr1, List.length_append]; have := be_length 3 q; omega
  have hadd1 := add_st r1 (be 2 r) (by have := be_length 2 r; omega)
  obtain ⟨r2, hr2⟩ : ∃ rr, r1 ++ (be 2 r) = rr := ⟨_, rfl⟩
  rw [hr2] at hadd1
  have l2 : r2.length ≤ 1 + 2 * 1000 := by rw [← hr2, List.length_append]; have := be_length 2 r; omega
  have HRES : Hid (r2 = L :: (be 3 q ++ be 2 r)) := by show r2 = _; rw [← hr2, ← hr1, ← hr0]; simp
  clear hr0 l0 hr1 l1 hr2 l2
  rw [← HRES.out]
  have hgl : g ≤ W2.heap.size := by have := HB2.out.size; omega
  have HS0 : Hid (W2.drew.cell? ⟨g, 1, none⟩ = some (.string SA) ∧ W2.drew.cell? ⟨g, 3, none⟩ = some (.int .i64 (q : Int)) ∧ W2.drew.cell? ⟨g, 4, none⟩ = some (.int .i64 (r : Int))) := ⟨c1, c3, c4⟩
  have HHG := Lib.hid hgl
  have HRR := Lib.hid hr
  clear hw2 hw2' hk cf hL hsa hsb hgl hr
  go_enter Try.func16, Try.ntmps16
  go_wp2_with fail
  rw [HW2.out]
  refine wp_region_held_drew (S := fun W : World => W.cell? ⟨g, 1, none⟩ = some (.string SA) ∧ W.cell? ⟨g, 3, none⟩ = some (.int .i64 (q : Int)) ∧ W.cell? ⟨g, 4, none⟩ = some (.int .i64 (r : Int))) (by kernel_rfl) (HS0.out) (fun hHeld => ?_)
  refine wpAnyH_take (i := 0) (oi := { dst := some 21, op := Go.Op.move (Go.Operand.tmp 3), type := 9, pos := "ref.go:67", after := #[], guard := none }) (v := ?vs0) rfl (by kernel_rfl) (by kernel_rfl) (by kernel_rfl) (fun _ _ _ h => h) (Or.inl ⟨by rfl, ?hys0⟩) hHeld ?_
  case hys0 => (intro w hSw; (try dsimp only at hSw); go_simp; first | done | with_reducible rfl)
  try simp only [Act.put, List.setIfInBounds_toArray, List.set_cons_zero, List.set_cons_succ]
  refine wpAnyH_take (i := 1) (oi := { dst := some 22, op := Go.Op.fieldAddr 23 (Go.Operand.tmp 1) 3, type := 0, pos := "ref.go:67", after := #[], guard := none }) (v := ?vs1) rfl (by kernel_rfl) (by kernel_rfl) (by kernel_rfl) (fun _ _ _ h => h) (Or.inl ⟨by rfl, ?hys1⟩) hHeld ?_
  case hys1 => (intro w hSw; (try dsimp only at hSw); go_simp; first | done | with_reducible rfl)
  try simp only [Act.put, List.setIfInBounds_toArray, List.set_cons_zero, List.set_cons_succ]
  refine wpAnyH_take (i := 2) (oi := { dst := some 23, op := Go.Op.load 3 (Go.Operand.tmp 22), type := 3, pos := "ref.go:67", after := #[{ on := 1, ground := Go.Ground.data }], guard := none }) (v := ?vs2) rfl (by kernel_rfl) (by kernel_rfl) (by kernel_rfl) (fun _ _ _ h => h) (Or.inl ⟨by rfl, ?hys2⟩) hHeld ?_
  case hys2 => (intro w hSw; (try dsimp only at hSw); go_simp; first | done | with_reducible rfl)
  try simp only [Act.put, List.setIfInBounds_toArray, List.set_cons_zero, List.set_cons_succ]
  refine wpAnyH_take (i := 5) (oi := { dst := some 26, op := Go.Op.fieldAddr 23 (Go.Operand.tmp 1) 4, type := 0, pos := "ref.go:67", after := #[], guard := none }) (v := ?vs5) rfl (by kernel_rfl) (by kernel_rfl) (by kernel_rfl) (fun _ _ _ h => h) (Or.inl ⟨by rfl, ?hys5⟩) hHeld ?_
  case hys5 => (intro w hSw; (try dsimp only at hSw); go_simp; first | done | with_reducible rfl)
  try simp only [Act.put, List.setIfInBounds_toArray, List.set_cons_zero, List.set_cons_succ]
  refine wpAnyH_take (i := 6) (oi := { dst := some 27, op := Go.Op.load 3 (Go.Operand.tmp 26), type := 3, pos := "ref.go:67", after := #[{ on := 5, ground := Go.Ground.data }], guard := none }) (v := ?vs6) rfl (by kernel_rfl) (by kernel_rfl) (by kernel_rfl) (fun _ _ _ h => h) (Or.inl ⟨by rfl, ?hys6⟩) hHeld ?_
  case hys6 => (intro w hSw; (try dsimp only at hSw); go_simp; first | done | with_reducible rfl)
  try simp only [Act.put, List.setIfInBounds_toArray, List.set_cons_zero, List.set_cons_succ]
  refine wpAnyH_take (i := 7) (oi := { dst := some 28, op := Go.Op.binOp Go.BinOp.quo 3 (Go.Operand.tmp 27) (Go.Operand.const (Go.Value.int Go.IntKind.i64 256)) 3, type := 3, pos := "ref.go:67", after := #[{ on := 6, ground := Go.Ground.data }], guard := none }) (v := ?vs7) rfl (by kernel_rfl) (by kernel_rfl) (by kernel_rfl) (fun _ _ _ h => h) (Or.inl ⟨by rfl, ?hys7⟩) hHeld ?_
  case hys7 => (intro w hSw; (try dsimp only at hSw); go_simp; first | done | with_reducible rfl)
  try simp only [Act.put, List.setIfInBounds_toArray, List.set_cons_zero, List.set_cons_succ]
  refine wpAnyH_take (i := 8) (oi := { dst := some 29, op := Go.Op.convert 3 5 (Go.Operand.tmp 28), type := 5, pos := "ref.go:67", after := #[{ on := 7, ground := Go.Ground.data }], guard := none }) (v := ?vs8) rfl (by kernel_rfl) (by kernel_rfl) (by kernel_rfl) (fun _ _ _ h => h) (Or.inl ⟨by rfl, ?hys8⟩) hHeld ?_
  case hys8 => (intro w hSw; (try dsimp only at hSw); go_simp; first | done | with_reducible rfl)
  try simp only [Act.put, List.setIfInBounds_toArray, List.set_cons_zero, List.set_cons_succ]
  refine wpAnyH_take (i := 9) (oi := { dst := some 30, op := Go.Op.fieldAddr 23 (Go.Operand.tmp 1) 4, type := 0, pos := "ref.go:67", after := #[], guard := none }) (v := ?vs9) rfl (by kernel_rfl) (by kernel_rfl) (by kernel_rfl) (fun _ _ _ h => h) (Or.inl ⟨by rfl, ?hys9⟩) hHeld ?_
  case hys9 => (intro w hSw; (try dsimp only at hSw); go_simp; first | done | with_reducible rfl)
  try simp only [Act.put, List.setIfInBounds_toArray, List.set_cons_zero, List.set_cons_succ]
  refine wpAnyH_take (i := 10) (oi := { dst := some 31, op := Go.Op.load 3 (Go.Operand.tmp 30), type := 3, pos := "ref.go:67", after := #[{ on := 9, ground := Go.Ground.data }], guard := none }) (v := ?vs10) rfl (by kernel_rfl) (by kernel_rfl) (by kernel_rfl) (fun _ _ _ h => h) (Or.inl ⟨by rfl, ?hys10⟩) hHeld ?_
  case hys10 => (intro w hSw; (try dsimp only at hSw); go_simp; first | done | with_reducible rfl)
  try simp only [Act.put, List.setIfInBounds_toArray, List.set_cons_zero, List.set_cons_succ]
  refine wpAnyH_take (i := 11) (oi := { dst := some 32, op := Go.Op.binOp Go.BinOp.rem 3 (Go.Operand.tmp 31) (Go.Operand.const (Go.Value.int Go.IntKind.i64 256)) 3, type := 3, pos := "ref.go:67", after := #[{ on := 10, ground := Go.Ground.data }], guard := none }) (v := ?vs11) rfl (by kernel_rfl) (by kernel_rfl) (by kernel_rfl) (fun _ _ _ h => h) (Or.inl ⟨by rfl, ?hys11⟩) hHeld ?_
  case hys11 => (intro w hSw; (try dsimp only at hSw); go_simp; first | done | with_reducible rfl)
  try simp only [Act.put, List.setIfInBounds_toArray, List.set_cons_zero, List.set_cons_succ]
  refine wpAnyH_take (i := 12) (oi := { dst := some 33, op := Go.Op.convert 3 5 (Go.Operand.tmp 32), type := 5, pos := "ref.go:67", after := #[{ on := 11, ground := Go.Ground.data }], guard := none }) (v := ?vs12) rfl (by kernel_rfl) (by kernel_rfl) (by kernel_rfl) (fun _ _ _ h => h) (Or.inl ⟨by rfl, ?hys12⟩) hHeld ?_
  case hys12 => (intro w hSw; (try dsimp only at hSw); go_simp; first | done | with_reducible rfl)
  try simp only [Act.put, List.setIfInBounds_toArray, List.set_cons_zero, List.set_cons_succ]
  refine wpAnyH_ready (rs := [3, 13]) (by kernel_rfl) (by simp) ?_
  refine AllReadyH.cons (o := { dst := some 24, op := Go.Op.call { callee := Go.Callee.value (Go.Operand.func 22), args := #[Go.Operand.tmp 23], argTypes := #[3] }, type := 9, pos := "ref.go:67", after := #[{ on := 2, ground := Go.Ground.data }], guard := none }) rfl (fun K hK => ?_) (AllReadyH.cons (o := { dst := some 34, op := Go.Op.buildSlice 49 2 #[(0, Go.Operand.tmp 29), (1, Go.Operand.tmp 33)], type := 49, pos := "ref.go:67", after := #[{ on := 8, ground := Go.Ground.data }, { on := 12, ground := Go.Ground.data }], guard := none }) rfl (fun K hK => ?_) AllReadyH.nil)
  · go_simp
    refine (H3.out W2.drew).mono ?_
    rintro e w3 ⟨rfl, hb3⟩
    have hS3 : w3.cell? ⟨g, 1, none⟩ = some (.string SA) ∧ w3.cell? ⟨g, 3, none⟩ = some (.int .i64 (q : Int)) ∧ w3.cell? ⟨g, 4, none⟩ = some (.int .i64 (r : Int)) := ⟨(hb3.cell (p := ⟨g, 1, none⟩) (blt_of_cell HS0.out.1)).trans HS0.out.1, (hb3.cell (p := ⟨g, 3, none⟩) (blt_of_cell HS0.out.2.1)).trans HS0.out.2.1, (hb3.cell (p := ⟨g, 4, none⟩) (blt_of_cell HS0.out.2.2)).trans HS0.out.2.2⟩
    have HB3 := Lib.hid hb3
    clear hb3
    go_wp2_with fail
    refine hK.out _ _ (hS3) (fun hHeld => ?_)
    clear hK K
    try simp only [Act.put, List.setIfInBounds_toArray, List.set_cons_zero, List.set_cons_succ]
    refine wpAnyH_take (i := 4) (oi := { dst := some 25, op := Go.Op.binOp Go.BinOp.add 9 (Go.Operand.tmp 21) (Go.Operand.tmp 24) 9, type := 9, pos := "ref.go:67", after := #[{ on := 0, ground := Go.Ground.data }, { on := 3, ground := Go.Ground.data }], guard := none }) (v := ?vsa4) rfl (by kernel_rfl) (by kernel_rfl) (by kernel_rfl) (fun _ _ _ h => h) (Or.inl ⟨by rfl, ?hysa4⟩) hHeld ?_
    case hysa4 => (intro w hSw; (try dsimp only at hSw); go_simp; first | done | with_reducible rfl)
    try simp only [Act.put, List.setIfInBounds_toArray, List.set_cons_zero, List.set_cons_succ]
    refine wpAnyH_ready (rs := [13]) (by kernel_rfl) (by simp) ?_
    refine AllReadyH.cons (o := { dst := some 34, op := Go.Op.buildSlice 49 2 #[(0, Go.Operand.tmp 29), (1, Go.Operand.tmp 33)], type := 49, pos := "ref.go:67", after := #[{ on := 8, ground := Go.Ground.data }, { on := 12, ground := Go.Ground.data }], guard := none }) rfl (fun K hK => ?_) AllReadyH.nil
    have hS4 : (w3.alloc (.cells #[.int .u8 (IntKind.u8.wrap (IntKind.i64.wrap ((r : Int) / 256))), .int .u8 (IntKind.u8.wrap ((r : Int).tmod 256))] 5)).cell? ⟨g, 1, none⟩ = some (.string SA) ∧ (w3.alloc (.cells #[.int .u8 (IntKind.u8.wrap (IntKind.i64.wrap ((r : Int) / 256))), .int .u8 (IntKind.u8.wrap ((r : Int).tmod 256))] 5)).cell? ⟨g, 3, none⟩ = some (.int .i64 (q : Int)) ∧ (w3.alloc (.cells #[.int .u8 (IntKind.u8.wrap (IntKind.i64.wrap ((r : Int) / 256))), .int .u8 (IntKind.u8.wrap ((r : Int).tmod 256))] 5)).cell? ⟨g, 4, none⟩ = some (.int .i64 (r : Int)) := ⟨(((Below.refl _ _).alloc (Nat.le_refl _) _).cell (p := ⟨g, 1, none⟩) (blt_of_cell hS3.1)).trans hS3.1, (((Below.refl _ _).alloc (Nat.le_refl _) _).cell (p := ⟨g, 3, none⟩) (blt_of_cell hS3.2.1)).trans hS3.2.1, (((Below.refl _ _).alloc (Nat.le_refl _) _).cell (p := ⟨g, 4, none⟩) (blt_of_cell hS3.2.2)).trans hS3.2.2⟩
    go_simp
    refine hK.out _ _ (hS4) (fun hHeld => ?_)
    clear hK K
    try simp only [Act.put, List.setIfInBounds_toArray, List.set_cons_zero, List.set_cons_succ]
    refine wpAnyH_ready (rs := [14]) (by kernel_rfl) (by simp) ?_
    refine AllReadyH.cons (o := { dst := some 35, op := Go.Op.convert 49 9 (Go.Operand.tmp 34), type := 9, pos := "ref.go:67", after := #[{ on := 13, ground := Go.Ground.data }], guard := none }) rfl (fun K hK => ?_) AllReadyH.nil
    have hst := HST.out w3
    go_simp
    refine hK.out _ _ (hS4) (fun hHeld => ?_)
    clear hK K
    try simp only [Act.put, List.setIfInBounds_toArray, List.set_cons_zero, List.set_cons_succ]
    refine wpAnyH_take (i := 15) (oi := { dst := some 36, op := Go.Op.binOp Go.BinOp.add 9 (Go.Operand.tmp 25) (Go.Operand.tmp 35) 9, type := 9, pos := "ref.go:67", after := #[{ on := 4, ground := Go.Ground.data }, { on := 14, ground := Go.Ground.data }], guard := none }) (v := ?vsa15) rfl (by kernel_rfl) (by kernel_rfl) (by kernel_rfl) (fun _ _ _ h => h) (Or.inl ⟨by rfl, ?hysa15⟩) hHeld ?_
    case hysa15 => (intro w hSw; (try dsimp only at hSw); go_simp; first | done | with_reducible rfl)
    try simp only [Act.put, List.setIfInBounds_toArray, List.set_cons_zero, List.set_cons_succ]
    refine wpAnyH_take (i := 16) (oi := { dst := some 2, op := Go.Op.assign (Go.Operand.tmp 36), type := 9, pos := "ref.go:67", after := #[{ on := 15, ground := Go.Ground.data }, { on := 3, ground := Go.Ground.chain }, { on := 0, ground := Go.Ground.phase }, { on := 1, ground := Go.Ground.phase }, { on := 2, ground := Go.Ground.phase }, { on := 3, ground := Go.Ground.phase }, { on := 4, ground := Go.Ground.phase }, { on := 5, ground := Go.Ground.phase }, { on := 6, ground := Go.Ground.phase }, { on := 7, ground := Go.Ground.phase }, { on := 8, ground := Go.Ground.phase }, { on := 9, ground := Go.Ground.phase }, { on := 10, ground := Go.Ground.phase }, { on := 11, ground := Go.Ground.phase }, { on := 12, ground := Go.Ground.phase }, { on := 13, ground := Go.Ground.phase }, { on := 14, ground := Go.Ground.phase }, { on := 15, ground := Go.Ground.phase }], guard := none }) (v := ?vsa16) rfl (by kernel_rfl) (by kernel_rfl) (by kernel_rfl) (fun _ _ _ h => h) (Or.inl ⟨by rfl, ?hysa16⟩) hHeld ?_
    case hysa16 => (intro w hSw; (try dsimp only at hSw); go_simp; first | done | with_reducible rfl)
    try simp only [Act.put, List.setIfInBounds_toArray, List.set_cons_zero, List.set_cons_succ]
    refine wpAnyH_done (by kernel_rfl) ?_ _
    clear hHeld
    have HB4 := Lib.hid (show Below g w _ from HB2.out.trans ((Below.refl _ _).drew.trans ((HB3.out.mono HHG.out).alloc (Nat.le_trans HHG.out HB3.out.size) (.cells #[.int .u8 (IntKind.u8.wrap (IntKind.i64.wrap ((r : Int) / 256))), .int .u8 (IntKind.u8.wrap ((r : Int).tmod 256))] 5))))
    go_wp2
    go_ret
    exact ⟨rfl, HB4.out⟩
  · have hS4 : (W2.alloc (.cells #[.int .u8 (IntKind.u8.wrap (IntKind.i64.wrap ((r : Int) / 256))), .int .u8 (IntKind.u8.wrap ((r : Int).tmod 256))] 5)).drew.cell? ⟨g, 1, none⟩ = some (.string SA) ∧ (W2.alloc (.cells #[.int .u8 (IntKind.u8.wrap (IntKind.i64.wrap ((r : Int) / 256))), .int .u8 (IntKind.u8.wrap ((r : Int).tmod 256))] 5)).drew.cell? ⟨g, 3, none⟩ = some (.int .i64 (q : Int)) ∧ (W2.alloc (.cells #[.int .u8 (IntKind.u8.wrap (IntKind.i64.wrap ((r : Int) / 256))), .int .u8 (IntKind.u8.wrap ((r : Int).tmod 256))] 5)).drew.cell? ⟨g, 4, none⟩ = some (.int .i64 (r : Int)) := ⟨(((Below.refl _ _).alloc (Nat.le_refl _) _).drew.cell (p := ⟨g, 1, none⟩) (blt_of_cell HS0.out.1)).trans HS0.out.1, (((Below.refl _ _).alloc (Nat.le_refl _) _).drew.cell (p := ⟨g, 3, none⟩) (blt_of_cell HS0.out.2.1)).trans HS0.out.2.1, (((Below.refl _ _).alloc (Nat.le_refl _) _).drew.cell (p := ⟨g, 4, none⟩) (blt_of_cell HS0.out.2.2)).trans HS0.out.2.2⟩
    go_simp
    refine hK.out _ _ (hS4) (fun hHeld => ?_)
    clear hK K
    try simp only [Act.put, List.setIfInBounds_toArray, List.set_cons_zero, List.set_cons_succ]
    refine wpAnyH_ready (rs := [3, 14]) (by kernel_rfl) (by simp) ?_
    refine AllReadyH.cons (o := { dst := some 24, op := Go.Op.call { callee := Go.Callee.value (Go.Operand.func 22), args := #[Go.Operand.tmp 23], argTypes := #[3] }, type := 9, pos := "ref.go:67", after := #[{ on := 2, ground := Go.Ground.data }], guard := none }) rfl (fun K hK => ?_) (AllReadyH.cons (o := { dst := some 35, op := Go.Op.convert 49 9 (Go.Operand.tmp 34), type := 9, pos := "ref.go:67", after := #[{ on := 13, ground := Go.Ground.data }], guard := none }) rfl (fun K hK => ?_) AllReadyH.nil)
    · go_simp
      refine (H3.out (W2.alloc (.cells #[.int .u8 (IntKind.u8.wrap (IntKind.i64.wrap ((r : Int) / 256))), .int .u8 (IntKind.u8.wrap ((r : Int).tmod 256))] 5)).drew).mono ?_
      rintro e w3 ⟨rfl, hb3⟩
      have hS3 : w3.cell? ⟨g, 1, none⟩ = some (.string SA) ∧ w3.cell? ⟨g, 3, none⟩ = some (.int .i64 (q : Int)) ∧ w3.cell? ⟨g, 4, none⟩ = some (.int .i64 (r : Int)) := ⟨(hb3.cell (p := ⟨g, 1, none⟩) (blt_of_cell hS4.1)).trans hS4.1, (hb3.cell (p := ⟨g, 3, none⟩) (blt_of_cell hS4.2.1)).trans hS4.2.1, (hb3.cell (p := ⟨g, 4, none⟩) (blt_of_cell hS4.2.2)).trans hS4.2.2⟩
      have HB3 := Lib.hid hb3
      clear hb3
      go_wp2_with fail
      refine hK.out _ _ (hS3) (fun hHeld => ?_)
      clear hK K
      try simp only [Act.put, List.setIfInBounds_toArray, List.set_cons_zero, List.set_cons_succ]
      refine wpAnyH_take (i := 4) (oi := { dst := some 25, op := Go.Op.binOp Go.BinOp.add 9 (Go.Operand.tmp 21) (Go.Operand.tmp 24) 9, type := 9, pos := "ref.go:67", after := #[{ on := 0, ground := Go.Ground.data }, { on := 3, ground := Go.Ground.data }], guard := none }) (v := ?vsc4) rfl (by kernel_rfl) (by kernel_rfl) (by kernel_rfl) (fun _ _ _ h => h) (Or.inl ⟨by rfl, ?hysc4⟩) hHeld ?_
      case hysc4 => (intro w hSw; (try dsimp only at hSw); go_simp; first | done | with_reducible rfl)
      try simp only [Act.put, List.setIfInBounds_toArray, List.set_cons_zero, List.set_cons_succ]
      refine wpAnyH_ready (rs := [14]) (by kernel_rfl) (by simp) ?_
      refine AllReadyH.cons (o := { dst := some 35, op := Go.Op.convert 49 9 (Go.Operand.tmp 34), type := 9, pos := "ref.go:67", after := #[{ on := 13, ground := Go.Ground.data }], guard := none }) rfl (fun K hK => ?_) AllReadyH.nil
      have hst := HST2.out W2 w3 ((Below.refl _ _).drew.trans HB3.out)
      go_simp
      refine hK.out _ _ (hS3) (fun hHeld => ?_)
      clear hK K
      try simp only [Act.put, List.setIfInBounds_toArray, List.set_cons_zero, List.set_cons_succ]
      refine wpAnyH_take (i := 15) (oi := { dst := some 36, op := Go.Op.binOp Go.BinOp.add 9 (Go.Operand.tmp 25) (Go.Operand.tmp 35) 9, type := 9, pos := "ref.go:67", after := #[{ on := 4, ground := Go.Ground.data }, { on := 14, ground := Go.Ground.data }], guard := none }) (v := ?vsc15) rfl (by kernel_rfl) (by kernel_rfl) (by kernel_rfl) (fun _ _ _ h => h) (Or.inl ⟨by rfl, ?hysc15⟩) hHeld ?_
      case hysc15 => (intro w hSw; (try dsimp only at hSw); go_simp; first | done | with_reducible rfl)
      try simp only [Act.put, List.setIfInBounds_toArray, List.set_cons_zero, List.set_cons_succ]
      refine wpAnyH_take (i := 16) (oi := { dst := some 2, op := Go.Op.assign (Go.Operand.tmp 36), type := 9, pos := "ref.go:67", after := #[{ on := 15, ground := Go.Ground.data }, { on := 3, ground := Go.Ground.chain }, { on := 0, ground := Go.Ground.phase }, { on := 1, ground := Go.Ground.phase }, { on := 2, ground := Go.Ground.phase }, { on := 3, ground := Go.Ground.phase }, { on := 4, ground := Go.Ground.phase }, { on := 5, ground := Go.Ground.phase }, { on := 6, ground := Go.Ground.phase }, { on := 7, ground := Go.Ground.phase }, { on := 8, ground := Go.Ground.phase }, { on := 9, ground := Go.Ground.phase }, { on := 10, ground := Go.Ground.phase }, { on := 11, ground := Go.Ground.phase }, { on := 12, ground := Go.Ground.phase }, { on := 13, ground := Go.Ground.phase }, { on := 14, ground := Go.Ground.phase }, { on := 15, ground := Go.Ground.phase }], guard := none }) (v := ?vsc16) rfl (by kernel_rfl) (by kernel_rfl) (by kernel_rfl) (fun _ _ _ h => h) (Or.inl ⟨by rfl, ?hysc16⟩) hHeld ?_
      case hysc16 => (intro w hSw; (try dsimp only at hSw); go_simp; first | done | with_reducible rfl)
      try simp only [Act.put, List.setIfInBounds_toArray, List.set_cons_zero, List.set_cons_succ]
      refine wpAnyH_done (by kernel_rfl) ?_ _
      clear hHeld
      have HB4 := Lib.hid (show Below g w _ from HB2.out.trans ((((Below.refl _ _).alloc HHG.out (.cells #[.int .u8 (IntKind.u8.wrap (IntKind.i64.wrap ((r : Int) / 256))), .int .u8 (IntKind.u8.wrap ((r : Int).tmod 256))] 5)).drew).trans (HB3.out.mono (by have := HHG.out; simp [World.drew]; omega))))
      go_wp2
      go_ret
      exact ⟨rfl, HB4.out⟩
    · have hst := HST2.out W2 (W2.alloc (.cells #[.int .u8 (IntKind.u8.wrap (IntKind.i64.wrap ((r : Int) / 256))), .int .u8 (IntKind.u8.wrap ((r : Int).tmod 256))] 5)).drew (Below.refl _ _).drew
      go_simp
      refine hK.out _ _ (hS4) (fun hHeld => ?_)
      clear hK K
      try simp only [Act.put, List.setIfInBounds_toArray, List.set_cons_zero, List.set_cons_succ]
      refine wpAnyH_ready (rs := [3]) (by kernel_rfl) (by simp) ?_
      refine AllReadyH.cons (o := { dst := some 24, op := Go.Op.call { callee := Go.Callee.value (Go.Operand.func 22), args := #[Go.Operand.tmp 23], argTypes := #[3] }, type := 9, pos := "ref.go:67", after := #[{ on := 2, ground := Go.Ground.data }], guard := none }) rfl (fun K hK => ?_) AllReadyH.nil
      go_simp
      refine (H3.out (W2.alloc (.cells #[.int .u8 (IntKind.u8.wrap (IntKind.i64.wrap ((r : Int) / 256))), .int .u8 (IntKind.u8.wrap ((r : Int).tmod 256))] 5)).drew).mono ?_
      rintro e w3 ⟨rfl, hb3⟩
      have hS3 : w3.cell? ⟨g, 1, none⟩ = some (.string SA) ∧ w3.cell? ⟨g, 3, none⟩ = some (.int .i64 (q : Int)) ∧ w3.cell? ⟨g, 4, none⟩ = some (.int .i64 (r : Int)) := ⟨(hb3.cell (p := ⟨g, 1, none⟩) (blt_of_cell hS4.1)).trans hS4.1, (hb3.cell (p := ⟨g, 3, none⟩) (blt_of_cell hS4.2.1)).trans hS4.2.1, (hb3.cell (p := ⟨g, 4, none⟩) (blt_of_cell hS4.2.2)).trans hS4.2.2⟩
      have HB3 := Lib.hid hb3
      clear hb3
      go_wp2_with fail
      refine hK.out _ _ (hS3) (fun hHeld => ?_)
      clear hK K
      try simp only [Act.put, List.setIfInBounds_toArray, List.set_cons_zero, List.set_cons_succ]
      refine wpAnyH_take (i := 4) (oi := { dst := some 25, op := Go.Op.binOp Go.BinOp.add 9 (Go.Operand.tmp 21) (Go.Operand.tmp 24) 9, type := 9, pos := "ref.go:67", after := #[{ on := 0, ground := Go.Ground.data }, { on := 3, ground := Go.Ground.data }], guard := none }) (v := ?vsd4) rfl (by kernel_rfl) (by kernel_rfl) (by kernel_rfl) (fun _ _ _ h => h) (Or.inl ⟨by rfl, ?hysd4⟩) hHeld ?_
      case hysd4 => (intro w hSw; (try dsimp only at hSw); go_simp; first | done | with_reducible rfl)
      try simp only [Act.put, List.setIfInBounds_toArray, List.set_cons_zero, List.set_cons_succ]
      refine wpAnyH_take (i := 15) (oi := { dst := some 36, op := Go.Op.binOp Go.BinOp.add 9 (Go.Operand.tmp 25) (Go.Operand.tmp 35) 9, type := 9, pos := "ref.go:67", after := #[{ on := 4, ground := Go.Ground.data }, { on := 14, ground := Go.Ground.data }], guard := none }) (v := ?vsd15) rfl (by kernel_rfl) (by kernel_rfl) (by kernel_rfl) (fun _ _ _ h => h) (Or.inl ⟨by rfl, ?hysd15⟩) hHeld ?_
      case hysd15 => (intro w hSw; (try dsimp only at hSw); go_simp; first | done | with_reducible rfl)
      try simp only [Act.put, List.setIfInBounds_toArray, List.set_cons_zero, List.set_cons_succ]
      refine wpAnyH_take (i := 16) (oi := { dst := some 2, op := Go.Op.assign (Go.Operand.tmp 36), type := 9, pos := "ref.go:67", after := #[{ on := 15, ground := Go.Ground.data }, { on := 3, ground := Go.Ground.chain }, { on := 0, ground := Go.Ground.phase }, { on := 1, ground := Go.Ground.phase }, { on := 2, ground := Go.Ground.phase }, { on := 3, ground := Go.Ground.phase }, { on := 4, ground := Go.Ground.phase }, { on := 5, ground := Go.Ground.phase }, { on := 6, ground := Go.Ground.phase }, { on := 7, ground := Go.Ground.phase }, { on := 8, ground := Go.Ground.phase }, { on := 9, ground := Go.Ground.phase }, { on := 10, ground := Go.Ground.phase }, { on := 11, ground := Go.Ground.phase }, { on := 12, ground := Go.Ground.phase }, { on := 13, ground := Go.Ground.phase }, { on := 14, ground := Go.Ground.phase }, { on := 15, ground := Go.Ground.phase }], guard := none }) (v := ?vsd16) rfl (by kernel_rfl) (by kernel_rfl) (by kernel_rfl) (fun _ _ _ h => h) (Or.inl ⟨by rfl, ?hysd16⟩) hHeld ?_
      case hysd16 => (intro w hSw; (try dsimp only at hSw); go_simp; first | done | with_reducible rfl)
      try simp only [Act.put, List.setIfInBounds_toArray, List.set_cons_zero, List.set_cons_succ]
      refine wpAnyH_done (by kernel_rfl) ?_ _
      clear hHeld
      have HB4 := Lib.hid (show Below g w _ from HB2.out.trans ((((Below.refl _ _).alloc HHG.out (.cells #[.int .u8 (IntKind.u8.wrap (IntKind.i64.wrap ((r : Int) / 256))), .int .u8 (IntKind.u8.wrap ((r : Int).tmod 256))] 5)).drew).trans (HB3.out.mono (by have := HHG.out; simp [World.drew]; omega))))
      go_wp2
      go_ret
      exact ⟨rfl, HB4.out⟩
end Go.Proofs.Ytlnghdldecnmgaa
