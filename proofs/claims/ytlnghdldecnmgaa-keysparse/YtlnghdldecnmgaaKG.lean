/- The document's small functions. Conditions: none. -/
import Derived.Test.YtlnghdldecnmgaaKF
set_option maxRecDepth 8000
set_option linter.unusedSimpArgs false
set_option linter.unusedVariables false
namespace Go.Kx
open Go.RowKit Go.Bs
def numR (kind n : Int) : Bool := decide (n ≤ 16777215) && (decide (1 ≤ n) || (decide (kind = 9) && decide (n = 0)))
def shp : Int → Bool × Bool × Bool × Bool
  | 2 => (false, false, true, false)
  | 3 => (false, false, true, true)
  | 4 => (true, false, true, false)
  | 9 => (true, false, true, false)
  | 5 => (true, false, false, false)
  | 8 => (true, false, false, false)
  | 10 => (true, false, false, false)
  | 6 => (true, true, false, false)
  | 7 => (true, true, false, false)
  | _ => (false, false, false, false)
theorem be3 (m : Nat) : be 3 m = [byteAt m 2, byteAt m 1, byteAt m 0] := rfl
theorem beN3 (l : List UInt8) (h : 3 ≤ l.length) : beN (l.take 3) = 65536 * (l.getD 0 0).toNat + 256 * (l.getD 1 0).toNat + (l.getD 2 0).toNat := by
  match l, h with
  | a :: b :: c :: r, _ => simp [beN]; omega
theorem contains_snoc (l : List UInt8) (k : Nat) (c x : UInt8) (hk : k < l.length) (hx : l.getD k 0 = x) : (l.take (k + 1)).contains c = ((l.take k).contains c || (c == x)) := by
  rw [take_snoc l k hk, hx]
  by_cases h : c = x
  · subst h; simp
  · have h' : (c == x) = false := by simpa using h
    rw [h']
    simp [h]
theorem contains_of_take (l : List UInt8) (k : Nat) (c : UInt8) (h : (l.take k).contains c = true) : l.contains c = true := by
  rw [List.contains_eq_any_beq, List.any_eq_true] at h ⊢
  obtain ⟨x, hx, he⟩ := h
  exact ⟨x, List.mem_of_mem_take hx, he⟩
end Go.Kx
namespace Go.Proofs.Ytlnghdldecnmgaa
open Go.RowKit Go.Bs Go.Kx

theorem rNumber_any (kind n : Int) (w : World) : Calls Try.prog 23 #[.int .i64 kind, .int .i64 n] w fun e w' => e = .returned (.bool (numR kind n)) ∧ w = w' := by
  obtain ⟨R, hR⟩ : ∃ R, numR kind n = R := ⟨_, rfl⟩
  rw [hR]
  have HR := Lib.hid hR
  clear hR
  by_cases h1 : n ≤ 16777215
  · by_cases h2 : 1 ≤ n
    · go_enter Try.func23, Try.ntmps23
      go_wp2
      go_ret
      exact ⟨by rw [← HR.out]; simp [numR, h1, h2], rfl⟩
    · by_cases h3 : kind = 9
      · subst h3
        go_enter Try.func23, Try.ntmps23
        go_wp2
        go_ret
        refine ⟨?_, rfl⟩
        have h2' : ¬ 1 ≤ n := by omega
        rw [← HR.out]
        by_cases h0 : n = 0
        · subst h0; simp [numR]
        · simp [numR, h1, h2', h0]
      · go_enter Try.func23, Try.ntmps23
        go_wp2
        go_ret
        exact ⟨by rw [← HR.out]; simp [numR, h1, h2, h3], rfl⟩
  · go_enter Try.func23, Try.ntmps23
    go_wp2
    go_ret
    exact ⟨by rw [← HR.out]; simp [numR]; intro h; omega, rfl⟩

set_option maxHeartbeats 1000000 in
theorem rName_any (l : List UInt8) (w : World) (hl : l.length ≤ 140737488351232) :
    Calls Try.prog 24 #[st l] w fun e w' => e = .returned (.bool (nameL l)) ∧ w = w' := by
  obtain ⟨n, hn⟩ : ∃ n, l.length = n := ⟨_, rfl⟩
  have HN := Lib.hid hn
  have hln := len_st l n hn
  obtain ⟨R, hR⟩ : ∃ R, nameL l = R := ⟨_, rfl⟩
  have HR : Hid (R = (decide (1 ≤ n) && decide (n ≤ 64) && !l.contains 0 && !l.contains 47)) := by show R = _; rw [← hR, ← hn]; rfl
  rw [hR]
  rw [hn] at hl
  clear hR hn
  go_enter Try.func24, Try.ntmps24
  go_wp2
  go_loop [3] (fun i => ∃ k : Nat, k ≤ n ∧ i = .int .i64 k ∧ (l.take k).contains 0 = false ∧ (l.take k).contains 47 = false) (fun i => n - (intOf i).toNat)
  case atStart => exact ⟨0, Nat.zero_le _, rfl, by simp, by simp⟩
  case round =>
    obtain ⟨k, hk, rfl, z0, z1⟩ := hrel
    have Z0 := Lib.hid z0
    have Z1 := Lib.hid z1
    clear z0 z1
    by_cases hlt : k < n
    · obtain ⟨x, hx⟩ : ∃ x, l.getD k 0 = x := ⟨_, rfl⟩
      have hxi := idx_st l k x (by rw [HN.out]; exact hlt) hx
      have HC0 := Lib.hid (contains_snoc l k 0 x (by rw [HN.out]; exact hlt) hx)
      have HC1 := Lib.hid (contains_snoc l k 47 x (by rw [HN.out]; exact hlt) hx)
      clear hx
      by_cases e0 : x = 0
      · subst e0
        go_wp2
        go_ret
        refine ⟨?_, rfl⟩
        have : l.contains 0 = true := contains_of_take l (k + 1) 0 (by rw [HC0.out]; simp)
        rw [HR.out, this]
        simp
      · have n0 : ((x.toNat : Int) == 0) = false := by
          rw [beq_eq_false_iff_ne]
          intro h
          exact e0 (UInt8.toNat_inj.1 (by simp; omega))
        by_cases e1 : x = 47
        · subst e1
          go_wp2
          go_ret
          refine ⟨?_, rfl⟩
          have : l.contains 47 = true := contains_of_take l (k + 1) 47 (by rw [HC1.out]; simp)
          rw [HR.out, this]
          simp
        · have n1 : ((x.toNat : Int) == 47) = false := by
            rw [beq_eq_false_iff_ne]
            intro h
            exact e1 (UInt8.toNat_inj.1 (by show x.toNat = 47; omega))
          go_wp2
          go_round
          case rel =>
            refine ⟨k + 1, by omega, by go_num, ?_, ?_⟩
            · rw [HC0.out, Z0.out]
              simpa using fun h => e0 h.symm
            · rw [HC1.out, Z1.out]
              simpa using fun h => e1 h.symm
          case measure => simp [intOf]; omega
    · obtain rfl : k = n := by omega
      have y0 : l.contains 0 = false := by have := Z0.out; rwa [← HN.out, List.take_length] at this
      have y1 : l.contains 47 = false := by have := Z1.out; rwa [← HN.out, List.take_length] at this
      have Y := Lib.hid (And.intro y0 y1)
      clear y0 y1
      by_cases a : 1 ≤ k
      · by_cases b : k ≤ 64
        · go_wp2
          go_ret
          exact ⟨by rw [HR.out, Y.out.1, Y.out.2]; simp [a, b]; omega, rfl⟩
        · go_wp2
          go_ret
          exact ⟨by rw [HR.out]; simp [b]; omega, rfl⟩
      · go_wp2
        go_ret
        exact ⟨by rw [HR.out]; simp [a], rfl⟩
theorem results_tmp4 {fn : Func} {t u v x : Tmp} (h : fn.results = #[.tmp t, .tmp u, .tmp v, .tmp x]) (tmps : Array Value) (P : Program) (w : World) :
    (results fn tmps).run P w = .ok (.tuple #[tmps.getD t undef, tmps.getD u undef, tmps.getD v undef, tmps.getD x undef]) w := by
  simp [results, h]
set_option maxHeartbeats 1000000 in
theorem rShape_any (kind : Int) (w : World) : Calls Try.prog 25 #[.int .i64 kind] w fun e w' => e = .returned (.tuple #[.bool (shp kind).1, .bool (shp kind).2.1, .bool (shp kind).2.2.1, .bool (shp kind).2.2.2]) ∧ w = w' := by
  by_cases k2 : kind = 2
  · subst k2
    go_enter Try.func25, Try.ntmps25
    go_wp2
    refine bodyPost_ret (results_tmp4 rfl _ _ _) rfl ?_
    exact ⟨rfl, rfl⟩
  by_cases k3 : kind = 3
  · subst k3
    go_enter Try.func25, Try.ntmps25
    go_wp2
    refine bodyPost_ret (results_tmp4 rfl _ _ _) rfl ?_
    exact ⟨rfl, rfl⟩
  by_cases k4 : kind = 4
  · subst k4
    go_enter Try.func25, Try.ntmps25
    go_wp2
    refine bodyPost_ret (results_tmp4 rfl _ _ _) rfl ?_
    exact ⟨rfl, rfl⟩
  by_cases k9 : kind = 9
  · subst k9
    go_enter Try.func25, Try.ntmps25
    go_wp2
    refine bodyPost_ret (results_tmp4 rfl _ _ _) rfl ?_
    exact ⟨rfl, rfl⟩
  by_cases k5 : kind = 5
  · subst k5
    go_enter Try.func25, Try.ntmps25
    go_wp2
    refine bodyPost_ret (results_tmp4 rfl _ _ _) rfl ?_
    exact ⟨rfl, rfl⟩
  by_cases k8 : kind = 8
  · subst k8
    go_enter Try.func25, Try.ntmps25
    go_wp2
    refine bodyPost_ret (results_tmp4 rfl _ _ _) rfl ?_
    exact ⟨rfl, rfl⟩
  by_cases k10 : kind = 10
  · subst k10
    go_enter Try.func25, Try.ntmps25
    go_wp2
    refine bodyPost_ret (results_tmp4 rfl _ _ _) rfl ?_
    exact ⟨rfl, rfl⟩
  by_cases k6 : kind = 6
  · subst k6
    go_enter Try.func25, Try.ntmps25
    go_wp2
    refine bodyPost_ret (results_tmp4 rfl _ _ _) rfl ?_
    exact ⟨rfl, rfl⟩
  by_cases k7 : kind = 7
  · subst k7
    go_enter Try.func25, Try.ntmps25
    go_wp2
    refine bodyPost_ret (results_tmp4 rfl _ _ _) rfl ?_
    exact ⟨rfl, rfl⟩
  have hs : shp kind = (false, false, false, false) := by
    unfold shp
    split <;> first | rfl | contradiction
  rw [hs]
  clear hs
  go_enter Try.func25, Try.ntmps25
  go_wp2
  refine bodyPost_ret (results_tmp4 rfl _ _ _) rfl ?_
  exact ⟨rfl, rfl⟩
theorem rThree_any (m : Nat) (w : World) (hm : m ≤ 9223372036854775807) : Calls Try.prog 22 #[.int .i64 (m : Int)] w fun e w' => e = .returned (st (be 3 m)) ∧ Below w.heap.size w w' := by
  have e2 : Value.int .u8 ((m : Int) / 65536 % 256) = B (byteAt m 2) := byteAt_val m 2
  have e1 : Value.int .u8 ((m : Int) / 256 % 256) = B (byteAt m 1) := byteAt_val m 1
  have e0 : Value.int .u8 ((m : Int) % 256) = B (byteAt m 0) := by have := byteAt_val m 0; simpa using this
  have hst := string_rd (w.alloc (rowObj 5 (be 3 m))) _ 3 3 _ ((Blk.new w 5 (be 3 m)).all 3 (by rw [be_length]; exact Nat.le_refl _))
  have hro : rowObj 5 (be 3 m) = .cells #[.int .u8 ((m : Int) / 65536 % 256), .int .u8 ((m : Int) / 256 % 256), .int .u8 ((m : Int) % 256)] 5 := by
    rw [e2, e1, e0]; rfl
  rw [hro] at hst
  clear e2 e1 e0 hro
  go_enter Try.func22, Try.ntmps22
  go_wp2
  go_ret
  exact ⟨rfl, (Below.refl _ _).alloc (Nat.le_refl _) _⟩
theorem rRead_any (l : List UInt8) (w : World) (hl : 3 ≤ l.length) : Calls Try.prog 28 #[st l] w fun e w' => e = .returned (.int .i64 (beN (l.take 3) : Nat)) ∧ Below w.heap.size w w' := by
  rw [beN3 l hl]
  have i0 : ∀ W, (Instr.index 9 (st l) (.int .i64 0)).run Try.prog W = .ok (B (l.getD 0 0)) W := idx_st l 0 _ (by omega) rfl
  have i1 : ∀ W, (Instr.index 9 (st l) (.int .i64 1)).run Try.prog W = .ok (B (l.getD 1 0)) W := idx_st l 1 _ (by omega) rfl
  have i2 : ∀ W, (Instr.index 9 (st l) (.int .i64 2)).run Try.prog W = .ok (B (l.getD 2 0)) W := idx_st l 2 _ (by omega) rfl
  obtain ⟨a, ha⟩ : ∃ a, l.getD 0 0 = a := ⟨_, rfl⟩
  obtain ⟨b, hb⟩ : ∃ b, l.getD 1 0 = b := ⟨_, rfl⟩
  obtain ⟨c, hc⟩ : ∃ c, l.getD 2 0 = c := ⟨_, rfl⟩
  rw [ha] at i0 ⊢
  rw [hb] at i1 ⊢
  rw [hc] at i2 ⊢
  have a8 := a.toNat_lt
  have b8 := b.toNat_lt
  have c8 := c.toNat_lt
  have w1 : IntKind.i64.wrap (65536 * (a.toNat : Int)) = 65536 * (a.toNat : Int) := IntWalk.i64_in _ (by omega)
  have w2 : IntKind.i64.wrap (256 * (b.toNat : Int)) = 256 * (b.toNat : Int) := IntWalk.i64_in _ (by omega)
  have w3 : IntKind.i64.wrap (65536 * (a.toNat : Int) + 256 * (b.toNat : Int)) = 65536 * (a.toNat : Int) + 256 * (b.toNat : Int) := IntWalk.i64_in _ (by omega)
  have w4 : IntKind.i64.wrap (65536 * (a.toNat : Int) + 256 * (b.toNat : Int) + (c.toNat : Int)) = 65536 * (a.toNat : Int) + 256 * (b.toNat : Int) + (c.toNat : Int) := IntWalk.i64_in _ (by omega)
  have v1 : IntKind.i64.wrap (a.toNat : Int) = (a.toNat : Int) := IntWalk.i64_in _ (by omega)
  have v2 : IntKind.i64.wrap (b.toNat : Int) = (b.toNat : Int) := IntWalk.i64_in _ (by omega)
  have v3 : IntKind.i64.wrap (c.toNat : Int) = (c.toNat : Int) := IntWalk.i64_in _ (by omega)
  clear ha hb hc
  go_enter Try.func28, Try.ntmps28
  go_wp2
  go_quiet (fail)
  go_wp2
  go_ret
  exact ⟨by simp, below_drewN (Below.refl _ _) _⟩
end Go.Proofs.Ytlnghdldecnmgaa
