/- The closures of a number. Conditions: none. -/
import Derived.Test.YtlnghdldecnmgaaK4
set_option maxRecDepth 8000
set_option linter.unusedSimpArgs false
set_option linter.unusedVariables false
namespace Go.Kx
open Go.RowKit Go.Bs
def bz (n : Int) (k : Nat) : UInt8 := UInt8.ofNat (n / 2 ^ (8 * k) % 256).toNat
theorem bz_val (n : Int) (k : Nat) : Value.int .u8 (n / 2 ^ (8 * k) % 256) = B (bz n k) := by
  have h1 : 0 ≤ n / 2 ^ (8 * k) % 256 := Int.emod_nonneg _ (by omega)
  have h2 : n / 2 ^ (8 * k) % 256 < 256 := Int.emod_lt_of_pos _ (by omega)
  unfold B bz
  congr 1
  rw [UInt8.toNat_ofNat_of_lt' (by show _ < 256; omega)]
  omega
theorem bz_nat (n k : Nat) : bz (n : Int) k = byteAt n k := by
  have h := byteAt_val n k
  rw [bz_val] at h
  simp only [B, Value.int.injEq] at h
  apply UInt8.toNat_inj.1
  have := h.2
  omega
def bzs (size : Nat) (n : Int) : List UInt8 := (List.range size).map fun j => bz n (size - 1 - j)
def bzTo (size : Nat) (n : Int) (j : Nat) : List UInt8 := (List.range size).map fun i => if i < j then bz n (size - 1 - i) else 0
theorem bzTo_zero (size : Nat) (n : Int) : bzTo size n 0 = zeros size := by
  apply List.ext_getElem
  · simp [bzTo, zeros]
  · intro i h1 h2
    simp [bzTo, zeros]
theorem bzTo_all (size : Nat) (n : Int) : bzTo size n size = bzs size n := by
  apply List.ext_getElem
  · simp [bzTo, bzs]
  · intro i h1 h2
    simp [bzTo, bzs] at h1 ⊢
    intro h
    omega
theorem bzTo_step (size : Nat) (n : Int) (j : Nat) (hj : j < size) : (bzTo size n j).set j (bz n (size - 1 - j)) = bzTo size n (j + 1) := by
  apply List.ext_getElem
  · simp [bzTo]
  · intro i h1 h2
    simp only [List.getElem_set]
    by_cases e : j = i
    · subst e
      simp [bzTo]
    · rw [if_neg e]
      simp only [bzTo, List.getElem_map, List.getElem_range]
      by_cases hi : i < j
      · rw [if_pos hi, if_pos (by omega)]
      · rw [if_neg hi, if_neg (by omega)]
theorem bzTo_length (size : Nat) (n : Int) (j : Nat) : (bzTo size n j).length = size := by simp [bzTo]
theorem bzs_nat (size n : Nat) : bzs size (n : Int) = be size n := by
  simp only [bzs, be, bz_nat]
end Go.Kx
namespace Go.Proofs.Ytlnghdldecnmgaa
open Go.RowKit Go.Bs Go.Kx

set_option maxHeartbeats 2000000 in
theorem numTake_any (w : World) (z q : Nat) (k : Ky) (ism : Bool) (least most size : Nat) (hk : KyAt w z k) (h0 : w.cell? ⟨q, 0, none⟩ = some (fnN ism)) (h1 : w.cell? ⟨q + 1, 0, none⟩ = some (.int .i64 (least : Int))) (h2 : w.cell? ⟨q + 2, 0, none⟩ = some (.int .i64 (most : Int)))
    (h3 : w.cell? ⟨q + 3, 0, none⟩ = some (.int .i64 (size : Int))) (hq : z < q) (hs : 1 ≤ size ∧ size ≤ 3) (hn : -9223372036854775808 ≤ k.num ism ∧ k.num ism ≤ 9223372036854775807) :
    Calls Try.prog 38 #[.pointer (some ⟨z, 0, none⟩), .pointer (some ⟨q, 0, none⟩), .pointer (some ⟨q + 3, 0, none⟩), .pointer (some ⟨q + 1, 0, none⟩), .pointer (some ⟨q + 2, 0, none⟩)] w fun e w' =>
      e = .returned (.tuple #[st (bzs size (k.num ism)), .bool (decide ((least : Int) ≤ k.num ism) && decide (k.num ism ≤ (most : Int)))]) ∧ KyAt w' z (k.setN ism 0) ∧ Fr (· = z) w w' := by
  obtain ⟨w1, hw1⟩ : ∃ w1, w.setCell ⟨z, if ism then 4 else 3, none⟩ (.int .i64 0) = w1 := ⟨_, rfl⟩
  have hsz1 : w1.heap.size = w.heap.size := by rw [← hw1]; simp [World.setCell]
  have hfr1 : Fr (· = z) w w1 := by rw [← hw1]; exact (Fr.refl (· = z) w).setCell (.inl rfl) _
  have hky1 : KyAt w1 z (k.setN ism 0) := by rw [← hw1]; exact hk.setN ism 0
  obtain ⟨g, hg⟩ : ∃ g, w.heap.size = g := ⟨_, rfl⟩
  have hzg : z < g := by rw [← hg]; exact hk.lt
  have hqg : q + 3 < g := by rw [← hg]; exact blt_of_cell h3
  rw [hg] at hsz1
  have hmk := make_zeros size (by omega) w1
  rw [hsz1] at hmk
  obtain ⟨W, hW⟩ : ∃ W, w1.alloc (rowObj 5 (zeros size)) = W := ⟨_, rfl⟩
  rw [hW] at hmk
  have HW : Hid (Blk W g 5 (bzTo size (k.num ism) 0) ∧ Below g w1 W) := by
    rw [bzTo_zero, ← hW, ← hsz1]
    exact ⟨Blk.new w1 5 _, (Below.refl _ _).alloc (Nat.le_refl _) _⟩
  have HFR := Lib.hid hfr1
  have HKY := Lib.hid hky1
  obtain ⟨c0, c1, c2, c3, c4, fz⟩ := hk.at
  have fz3 := fz 3
  have fz4 := fz 4
  have g0 := hfr1.cell h0 (by show ¬ q = z; omega)
  have g1 := hfr1.cell h1 (by show ¬ q + 1 = z; omega)
  have g2 := hfr1.cell h2 (by show ¬ q + 2 = z; omega)
  have g3 := hfr1.cell h3 (by show ¬ q + 3 = z; omega)
  have y3 : W.cell? ⟨q + 3, 0, none⟩ = some (.int .i64 (size : Int)) := (HW.out.2.cell (p := ⟨q + 3, 0, none⟩) (by show q + 3 < g; omega)).trans g3
  have HG0 := Lib.hid hg
  have HS1 := Lib.hid hsz1
  have HQ1 := Lib.hid g1
  have HQ2 := Lib.hid g2
  have HQ3 := Lib.hid g3
  obtain ⟨n, hnn⟩ : ∃ n, k.num ism = n := ⟨_, rfl⟩
  rw [hnn] at HW hn ⊢
  have HNN := Lib.hid hnn
  clear hk hfr1 hky1 fz hW hg hsz1 g0 g1 g2
  cases ism
  · simp only [Bool.false_eq_true, if_false] at hw1 HNN
    simp only [fnN, Bool.false_eq_true, if_false] at h0
    have c3' : w.cell? ⟨z, 3, none⟩ = some (.int .i64 n) := by rw [c3, ← HNN.out]; rfl
    rw [← hw1] at hmk
    clear c0 c1 c2 c3 c4 hnn HNN hw1
    go_enter Try.func38, Try.ntmps38
    go_wp2_with fail
    refine (at31_any _ z).mono ?_
    rintro e w' ⟨rfl, rfl⟩
    go_wp2_with fail
    refine (at31_any _ z).mono ?_
    rintro e w' ⟨rfl, rfl⟩
    go_wp2
    go_loopw [23] (fun i wr => ∃ j : Nat, j ≤ size ∧ i = .int .i64 j ∧ Blk wr g 5 (bzTo size n j) ∧ Below g w1 wr) (fun i _ => size - (intOf i).toNat)
    case atStart => exact ⟨0, Nat.zero_le _, rfl, HW.out.1, HW.out.2⟩
    case round =>
      obtain ⟨j, hj, rfl, hB, hG⟩ := hrel
      have x1 : wr.cell? ⟨q + 1, 0, none⟩ = some (.int .i64 (least : Int)) := (hG.cell (p := ⟨q + 1, 0, none⟩) (by show q + 1 < g; omega)).trans HQ1.out
      have x2 : wr.cell? ⟨q + 2, 0, none⟩ = some (.int .i64 (most : Int)) := (hG.cell (p := ⟨q + 2, 0, none⟩) (by show q + 2 < g; omega)).trans HQ2.out
      have x3 : wr.cell? ⟨q + 3, 0, none⟩ = some (.int .i64 (size : Int)) := (hG.cell (p := ⟨q + 3, 0, none⟩) (by show q + 3 < g; omega)).trans HQ3.out
      by_cases hlt : j < size
      · have hcell := hB.cell j (by rw [bzTo_length]; exact hlt)
        have hfz := hB.frozen j
        obtain ⟨x, hx⟩ : ∃ x, (bzTo size n j).getD j 0 = x := ⟨_, rfl⟩
        rw [hx] at hcell
        have HBV := Lib.hid (bz_val n (size - 1 - j))
        have HB := Lib.hid hB
        have HGG := Lib.hid hG
        clear hB hG hx h1 h2 h3 g3 hmk h0 c3' y3
        go_wp2
        refine ⟨⟨j + 1, by omega, by go_num, ?_, HGG.out.setCell (Nat.le_refl _) _⟩, by simp [intOf]; omega⟩
        rw [HBV.out, ← bzTo_step size n j hlt]
        exact HB.out.set _ _
      · obtain rfl : j = size := by omega
        have hst := string_rd wr _ _ j _ (hB.all' j j (bzTo_length _ _ _) (Nat.le_refl _))
        have HSTR := string_rd wr _ _ j _ (hB.all' j j (bzTo_length _ _ _) (Nat.le_refl _))
        rw [bzTo_all] at hst
        have hst2 : ∀ c, (convert 49 9 (.slice (some ⟨g, 0, none⟩) j j)).run Try.prog (wr.drewN c) = .ok (st (bzs j n)) (wr.drewN c) := fun c => by
          have hB' : Blk (wr.drewN c) g 5 (bzTo j n j) := hB
          have := string_rd (wr.drewN c) _ _ j _ (hB'.all' j j (bzTo_length _ _ _) (Nat.le_refl _))
          rwa [bzTo_all] at this
        have HGG := Lib.hid hG
        have HEND : Hid (∀ c, KyAt (wr.drewN c) z (k.setN false 0) ∧ Fr (· = z) w (wr.drewN c)) := fun c =>
          ⟨HKY.out.keep (HS1.out ▸ below_drewN HGG.out c), HFR.out.step (Fr.of (D := fun _ => False) (HS1.out ▸ below_drewN HGG.out c)) (fun i h => h.elim)⟩
        clear hB hG h1 h2 h3 g3 hmk h0 c3' y3 HSTR
        by_cases a : (least : Int) ≤ n
        · have da : decide ((least : Int) ≤ n) = true := decide_eq_true a
          go_wp2
          go_quiet (fail)
          go_wp2
          go_ret2
          exact ⟨by simp [da], HEND.out _⟩
        · have da : decide ((least : Int) ≤ n) = false := decide_eq_false a
          go_wp2
          go_quiet (fail)
          go_wp2
          go_ret2
          exact ⟨by simp [da], HEND.out _⟩
  · simp only [if_true] at hw1 HNN
    simp only [fnN, if_true] at h0
    have c3' : w.cell? ⟨z, 4, none⟩ = some (.int .i64 n) := by rw [c4, ← HNN.out]; rfl
    rw [← hw1] at hmk
    clear c0 c1 c2 c3 c4 hnn HNN hw1
    go_enter Try.func38, Try.ntmps38
    go_wp2_with fail
    refine (at32_any _ z).mono ?_
    rintro e w' ⟨rfl, rfl⟩
    go_wp2_with fail
    refine (at32_any _ z).mono ?_
    rintro e w' ⟨rfl, rfl⟩
    go_wp2
    go_loopw [23] (fun i wr => ∃ j : Nat, j ≤ size ∧ i = .int .i64 j ∧ Blk wr g 5 (bzTo size n j) ∧ Below g w1 wr) (fun i _ => size - (intOf i).toNat)
    case atStart => exact ⟨0, Nat.zero_le _, rfl, HW.out.1, HW.out.2⟩
    case round =>
      obtain ⟨j, hj, rfl, hB, hG⟩ := hrel
      have x1 : wr.cell? ⟨q + 1, 0, none⟩ = some (.int .i64 (least : Int)) := (hG.cell (p := ⟨q + 1, 0, none⟩) (by show q + 1 < g; omega)).trans HQ1.out
      have x2 : wr.cell? ⟨q + 2, 0, none⟩ = some (.int .i64 (most : Int)) := (hG.cell (p := ⟨q + 2, 0, none⟩) (by show q + 2 < g; omega)).trans HQ2.out
      have x3 : wr.cell? ⟨q + 3, 0, none⟩ = some (.int .i64 (size : Int)) := (hG.cell (p := ⟨q + 3, 0, none⟩) (by show q + 3 < g; omega)).trans HQ3.out
      by_cases hlt : j < size
      · have hcell := hB.cell j (by rw [bzTo_length]; exact hlt)
        have hfz := hB.frozen j
        obtain ⟨x, hx⟩ : ∃ x, (bzTo size n j).getD j 0 = x := ⟨_, rfl⟩
        rw [hx] at hcell
        have HBV := Lib.hid (bz_val n (size - 1 - j))
        have HB := Lib.hid hB
        have HGG := Lib.hid hG
        clear hB hG hx h1 h2 h3 g3 hmk h0 c3' y3
        go_wp2
        refine ⟨⟨j + 1, by omega, by go_num, ?_, HGG.out.setCell (Nat.le_refl _) _⟩, by simp [intOf]; omega⟩
        rw [HBV.out, ← bzTo_step size n j hlt]
        exact HB.out.set _ _
      · obtain rfl : j = size := by omega
        have hst := string_rd wr _ _ j _ (hB.all' j j (bzTo_length _ _ _) (Nat.le_refl _))
        have HSTR := string_rd wr _ _ j _ (hB.all' j j (bzTo_length _ _ _) (Nat.le_refl _))
        rw [bzTo_all] at hst
        have hst2 : ∀ c, (convert 49 9 (.slice (some ⟨g, 0, none⟩) j j)).run Try.prog (wr.drewN c) = .ok (st (bzs j n)) (wr.drewN c) := fun c => by
          have hB' : Blk (wr.drewN c) g 5 (bzTo j n j) := hB
          have := string_rd (wr.drewN c) _ _ j _ (hB'.all' j j (bzTo_length _ _ _) (Nat.le_refl _))
          rwa [bzTo_all] at this
        have HGG := Lib.hid hG
        have HEND : Hid (∀ c, KyAt (wr.drewN c) z (k.setN true 0) ∧ Fr (· = z) w (wr.drewN c)) := fun c =>
          ⟨HKY.out.keep (HS1.out ▸ below_drewN HGG.out c), HFR.out.step (Fr.of (D := fun _ => False) (HS1.out ▸ below_drewN HGG.out c)) (fun i h => h.elim)⟩
        clear hB hG h1 h2 h3 g3 hmk h0 c3' y3 HSTR
        by_cases a : (least : Int) ≤ n
        · have da : decide ((least : Int) ≤ n) = true := decide_eq_true a
          go_wp2
          go_quiet (fail)
          go_wp2
          go_ret2
          exact ⟨by simp [da], HEND.out _⟩
        · have da : decide ((least : Int) ≤ n) = false := decide_eq_false a
          go_wp2
          go_quiet (fail)
          go_wp2
          go_ret2
          exact ⟨by simp [da], HEND.out _⟩
end Go.Proofs.Ytlnghdldecnmgaa
