/- The document's reading, whole. Conditions: none. -/
import Derived.Test.YtlnghdldecnmgaaKPa
import Derived.Test.YtlnghdldecnmgaaKPb
import Derived.Test.YtlnghdldecnmgaaKPc
import Derived.Test.YtlnghdldecnmgaaKPd
import Derived.Test.YtlnghdldecnmgaaKPe
set_option maxRecDepth 8000
set_option linter.unusedSimpArgs false
set_option linter.unusedVariables false
namespace Go.Proofs.Ytlnghdldecnmgaa
open Go.RowKit Go.Bs Go.Kx
set_option maxHeartbeats 1000000 in
theorem rParse_0 (x : UInt8) (l : List UInt8) (w : World) (hl : l.length ≤ 1000) (hkd : ix letters x + 1 = 0) : Calls Try.prog 18 #[st (x :: l)] w fun e w' => RParE (x :: l) e ∧ Below w.heap.size w w' := by
  obtain ⟨g, hg⟩ : ∃ g, w.heap.size = g := ⟨_, rfl⟩
  rw [hg]
  obtain ⟨W0, hW0⟩ : ∃ W0, (w.alloc (.cells (noneK 0).cells 23)).alloc (.cells (noneK 0).cells 23) = W0 := ⟨_, rfl⟩
  have hk0 : KyAt W0 g (noneK 0) := by
    rw [← hW0, ← hg]; exact (KyAt.new w _).keep ((Below.refl _ _).alloc (Nat.le_refl _) _)
  have hk1 : KyAt W0 (g + 1) (noneK 0) := by
    have := KyAt.new (w.alloc (.cells (noneK 0).cells 23)) (noneK 0)
    rw [hW0] at this
    simpa [hg] using this
  have hb0 : Below g w W0 := by rw [← hW0, ← hg]; exact ((Below.refl _ _).alloc (Nat.le_refl _) _).alloc (by simp) _
  have hs0 : W0.heap.size = g + 2 := by rw [← hW0]; simp [hg]
  have HK0 := Lib.hid (And.intro hk0 (And.intro hk1 (And.intro hb0 hs0)))
  have hW0' : (w.alloc (.cells #[.int .i64 0, .string ⟨#[]⟩, .string ⟨#[]⟩, .int .i64 0, .int .i64 0] 23)).alloc (.cells #[.int .i64 0, .string ⟨#[]⟩, .string ⟨#[]⟩, .int .i64 0, .int .i64 0] 23) = W0 := hW0
  have HW0 := Lib.hid hW0'
  have hix : ∀ W, (Instr.index 9 (.string ⟨(x :: l).toArray⟩) (.int .i64 0)).run Try.prog W = .ok (B x) W := idx_st (x :: l) 0 x (by simp) rfl
  have hsl : ∀ W, (Instr.slice 9 (.string ⟨(x :: l).toArray⟩) (some (.int .i64 (1 : Int))) none none).run Try.prog W = .ok (st l) W := slice_from (x :: l) 1 (by simp)
  have hne : (([] : List UInt8) == x :: l) = false := rfl
  have hne2 : ((x :: l) == ([] : List UInt8)) = false := rfl
  have hsz : (⟨(x :: l).toArray⟩ : ByteArray).size = l.length + 1 := by rw [size_list]; simp
  have HPF := Lib.hid (refR_parse x l)
  have HPN := Lib.hid (parse_noletter x l)
  have HKA := Lib.hid (kdTo_all x)
  have HK1Z : Hid (KyAt W0 (g + 1) (noneK (kdTo x 1))) := by
    show KyAt W0 (g + 1) (noneK (kdTo x 1))
    have e : kdTo x 1 = 0 := by unfold kdTo; rw [if_neg (by omega)]
    rw [e]; exact hk1
  show Calls Try.prog 18 #[.string ⟨(x :: l).toArray⟩] w _
  have HKD := Lib.hid hkd
  clear hk0 hk1 hb0 hs0 hW0 hW0' hkd
  go_enter Try.func18, Try.ntmps18
  go_wp2_with fail
  rw [HW0.out]
  go_loopw [5] (fun i wr => ∃ i' : Nat, 1 ≤ i' ∧ i' ≤ 11 ∧ i = .int .i64 i' ∧ KyAt wr (g + 1) (noneK (kdTo x i')) ∧ KyAt wr g (noneK 0) ∧ Below g w wr) (fun i _ => 11 - (intOf i).toNat)
  case atStart => exact ⟨1, Nat.le_refl _, by omega, rfl, HK1Z.out, HK0.out.1, HK0.out.2.2.1⟩
  case round =>
    obtain ⟨i, hi1, hi2, rfl, hk1, hk0, hbl⟩ := hrel
    by_cases hlt : i ≤ 10
    · have hl1 : ∀ W, (Instr.index 9 (.string ⟨#[32, 110, 105, 99, 100, 112, 114, 117, 102, 103, 116]⟩) (.int .i64 (i : Int))).run Try.prog W = .ok (B (letters.getD (i - 1) 0)) W := fun W => by
        have := idx_st [32, 110, 105, 99, 100, 112, 114, 117, 102, 103, 116] i _ (by simp; omega) rfl W
        have e : ([32, 110, 105, 99, 100, 112, 114, 117, 102, 103, 116] : List UInt8).getD i 0 = letters.getD (i - 1) 0 := by
          obtain ⟨j, rfl⟩ : ∃ j, i = j + 1 := ⟨i - 1, by omega⟩
          rfl
        rw [e] at this
        exact this
      have HY := Lib.hid (kdTo_yes x i hi1 hlt)
      have HN := Lib.hid (kdTo_no x i hi1 hlt)
      obtain ⟨y, hy⟩ : ∃ y, letters.getD (i - 1) 0 = y := ⟨_, rfl⟩
      rw [hy] at hl1 HY HN
      obtain ⟨c0, _, _, _, _, fz⟩ := hk1.at
      have fz0 := fz 0
      have HK1 := Lib.hid hk1
      have HB1 : Hid (KyAt wr g (noneK 0) ∧ Below g w wr) := ⟨hk0, hbl⟩
      clear hk1 hk0 hbl hy fz
      by_cases hxy : y = x
      · have hE : ((y.toNat : Int) == (x.toNat : Int)) = true := by rw [hxy]; simp
        have HS : Hid (∀ c, KyAt ((wr.drewN c).setCell ⟨g + 1, 0, none⟩ (.int .i64 (i : Int))) (g + 1) (noneK (kdTo x (i + 1))) ∧ KyAt ((wr.drewN c).setCell ⟨g + 1, 0, none⟩ (.int .i64 (i : Int))) g (noneK 0) ∧ Below g w ((wr.drewN c).setCell ⟨g + 1, 0, none⟩ (.int .i64 (i : Int)))) := fun c => by
          rw [HY.out hxy]
          refine ⟨?_, ?_, (below_drewN HB1.out.2 c).setCell (by show g ≤ g + 1; omega) _⟩
          · have := row_setT (i := 0) (show (wr.drewN c).heap[g + 1]? = _ from HK1.out) (.int .i64 (i : Int))
            simpa [KyAt, Ky.cells, noneK] using this
          · exact (Below.heap_setCell (wr.drewN c) ⟨g + 1, 0, none⟩ _ g (by show g ≠ g + 1; omega)).trans HB1.out.1
        clear HY HN hxy
        go_wp2
        go_quiet (fail)
        go_wp2
        exact ⟨⟨i + 1, by omega, by omega, by go_num, (HS.out _).1, (HS.out _).2.1, (HS.out _).2.2⟩, by simp [intOf]; omega⟩
      · have hE : ((y.toNat : Int) == (x.toNat : Int)) = false := by
          rw [beq_eq_false_iff_ne]
          intro h
          exact hxy (UInt8.toNat_inj.1 (by omega))
        have HS : Hid (∀ c, KyAt (wr.drewN c) (g + 1) (noneK (kdTo x (i + 1))) ∧ KyAt (wr.drewN c) g (noneK 0) ∧ Below g w (wr.drewN c)) := fun c => by
          rw [HN.out hxy]
          exact ⟨HK1.out, HB1.out.1, below_drewN HB1.out.2 c⟩
        clear HY HN hxy
        go_wp2
        go_quiet (fail)
        go_wp2
        exact ⟨⟨i + 1, by omega, by omega, by go_num, (HS.out _).1, (HS.out _).2.1, (HS.out _).2.2⟩, by simp [intOf]; omega⟩
    · obtain rfl : i = 11 := by omega
      rw [HKA.out] at hk1
      have HB1 : Hid (KyAt wr g (noneK 0) ∧ Below g w wr) := ⟨hk0, hbl⟩
      rw [HKD.out] at hk1
      obtain ⟨c0, c1, c2, c3, c4⟩ := hk1.cs
      simp only [noneK] at c0 c1 c2 c3 c4
      clear hk1
      obtain ⟨z0, z1, z2, z3, z4⟩ := hk0.cs
      simp only [noneK] at z0 z1 z2 z3 z4
      have gz := hk0.at.2.2.2.2.2
      have gz0 := gz 0
      have gz1 := gz 1
      have gz2 := gz 2
      have gz3 := gz 3
      have gz4 := gz 4
      clear gz
      clear hk0 hbl HKA HK1Z HK0
      have HPZ : Hid (parseF (x :: l) = none) := HPN.out (by have := HKD.out; omega)
      go_wp2
      have HE : Below g w (((((wr.setCell ⟨g, 0, none⟩ (.int .i64 (noneK 0).kind)).setCell ⟨g, 1, none⟩ (st (noneK 0).a)).setCell ⟨g, 2, none⟩ (st (noneK 0).b)).setCell ⟨g, 3, none⟩ (.int .i64 (noneK 0).n)).setCell ⟨g, 4, none⟩ (.int .i64 (noneK 0).m)) :=
        ((((HB1.out.2.setCell (Nat.le_refl _) _).setCell (Nat.le_refl _) _).setCell (Nat.le_refl _) _).setCell (Nat.le_refl _) _).setCell (Nat.le_refl _) _
      have HR5 := HB1.out.1.set5 (noneK 0)
      simp only [noneK, st] at HE HR5
      refine bodyPost_ret (results_cell2 (P := Try.prog) (fn := Try.f18) rfl _ _ rfl (run_loadVar_row _ g 23 23 _ (0, 0) _ HR5 Try.underlying23 rfl (by kernel_rfl))) rfl ⟨?_, HE⟩
      unfold RParE
      rw [HPZ.out]
      rfl

set_option maxHeartbeats 1000000 in
theorem rParse_nil (w : World) : Calls Try.prog 18 #[st []] w fun e w' => RParE [] e ∧ Below w.heap.size w w' := by
  obtain ⟨g, hg⟩ : ∃ g, w.heap.size = g := ⟨_, rfl⟩
  rw [hg]
  have h2 := K2.new w g hg (noneK 0) (noneK 0)
  obtain ⟨W0, hW0⟩ : ∃ W0, (w.alloc (.cells (noneK 0).cells 23)).alloc (.cells (noneK 0).cells 23) = W0 := ⟨_, rfl⟩
  rw [hW0] at h2
  have HW0 := Lib.hid hW0
  have H2 := Lib.hid h2
  obtain ⟨c0, c1, c2, c3, c4⟩ := h2.y.cs
  simp only [noneK] at c0 c1 c2 c3 c4
  have hg1 := h2.x
  obtain ⟨z0, z1, z2, z3, z4⟩ := hg1.cs
  simp only [noneK] at z0 z1 z2 z3 z4
  have gz := hg1.at.2.2.2.2.2
  have gz0 := gz 0
  have gz1 := gz 1
  have gz2 := gz 2
  have gz3 := gz 3
  have gz4 := gz 4
  clear gz
  show Calls Try.prog 18 #[.string ⟨#[]⟩] w _
  clear hg1 h2 hW0
  go_enter Try.func18, Try.ntmps18
  go_wp2_with fail
  go_loopw [5] (fun i wr => i = .int .i64 1 ∧ wr = W0) (fun i _ => 1)
  case atStart => exact ⟨rfl, HW0.out⟩
  case round =>
    obtain ⟨rfl, rfl⟩ := hrel
    have hpn := parse_nil
    have HPZ : Hid (parseF [] = none) := hpn
    go_wp2
    have HE : Below g w (((((wr.setCell ⟨g, 0, none⟩ (.int .i64 (noneK 0).kind)).setCell ⟨g, 1, none⟩ (st (noneK 0).a)).setCell ⟨g, 2, none⟩ (st (noneK 0).b)).setCell ⟨g, 3, none⟩ (.int .i64 (noneK 0).n)).setCell ⟨g, 4, none⟩ (.int .i64 (noneK 0).m)) :=
      ((((H2.out.b.setCell (Nat.le_refl _) _).setCell (Nat.le_refl _) _).setCell (Nat.le_refl _) _).setCell (Nat.le_refl _) _).setCell (Nat.le_refl _) _
    have HR5 := H2.out.x.set5 (noneK 0)
    simp only [noneK, st] at HE HR5
    refine bodyPost_ret (results_cell2 (P := Try.prog) (fn := Try.f18) rfl _ _ rfl (run_loadVar_row _ g 23 23 _ (0, 0) _ HR5 Try.underlying23 rfl (by kernel_rfl))) rfl ⟨?_, HE⟩
    unfold RParE
    rw [HPZ.out]
    rfl
theorem rParse_any (l : List UInt8) (w : World) (hl : l.length ≤ 1000) : Calls Try.prog 18 #[st l] w fun e w' => RParE l e ∧ Below w.heap.size w w' := by
  cases l with
  | nil => exact rParse_nil w
  | cons x l =>
    have hl' : l.length ≤ 1000 := by simp at hl; omega
    have hb := ix_bd letters x
    have : letters.length = 10 := rfl
    have hkd : ix letters x + 1 = 0 ∨ (1 ≤ ix letters x + 1 ∧ ix letters x + 1 ≤ 10) := by omega
    rcases hkd with h | h
    · exact rParse_0 x l w hl' h
    · rcases kinds h with h | h | h | h | h | h | h | h | h | h
      · exact rParse_1 x l w hl' h
      · exact rParse_2 x l w hl' h
      · exact rParse_3 x l w hl' h
      · exact rParse_4 x l w hl' h
      · exact rParse_5 x l w hl' h
      · exact rParse_6 x l w hl' h
      · exact rParse_7 x l w hl' h
      · exact rParse_8 x l w hl' h
      · exact rParse_9 x l w hl' h
      · exact rParse_10 x l w hl' h
end Go.Proofs.Ytlnghdldecnmgaa
