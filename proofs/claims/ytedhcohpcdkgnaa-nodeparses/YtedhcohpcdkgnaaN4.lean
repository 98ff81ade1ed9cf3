/- Whether pairs, keys and children fit. Conditions: none. -/
import Derived.Test.YtedhcohpcdkgnaaN1
namespace Go.Bs
open Go.RowKit
abbrev slt (a b : ByteArray) : Bool := Op.bytesLess a.toList b.toList
abbrev sle (a b : ByteArray) : Bool := Op.bytesLess a.toList b.toList || a.toList == b.toList
def lastP (ps : List Pr) (j : Nat) : ByteArray := if j = 0 then ⟨#[]⟩ else (pAt ps (j - 1)).1
def lastS (ks : List ByteArray) (j : Nat) : ByteArray := if j = 0 then ⟨#[]⟩ else sAt ks (j - 1)
theorem lastP_succ (ps : List Pr) (j : Nat) : lastP ps (j + 1) = (pAt ps j).1 := rfl
theorem lastS_succ (ks : List ByteArray) (j : Nat) : lastS ks (j + 1) = sAt ks j := rfl
def badP (most : Nat) (ps : List Pr) (j : Nat) : Bool := sle (pAt ps j).1 (lastP ps j) || (decide (255 < (pAt ps j).1.size) || (decide (255 < (pAt ps j).2.size) || decide (most < (pAt ps j).1.size + (pAt ps j).2.size)))
def badS (most : Nat) (ks : List ByteArray) (j : Nat) : Bool := sle (sAt ks j) (lastS ks j) || (decide (255 < (sAt ks j).size) || decide (most < (sAt ks j).size))
def badC (cs : List Int) (j : Nat) : Bool := decide (cs.getD j 0 < 1) || decide (16777215 < cs.getD j 0)
/-- none of n is bad. -/
def allOk (n : Nat) (f : Nat → Bool) : Bool := !(List.range n).any f
theorem allOk_bad {n : Nat} {f : Nat → Bool} {j : Nat} (hj : j < n) (h : f j = true) : allOk n f = false := by
  unfold allOk
  rw [List.any_eq_true.2 ⟨j, List.mem_range.2 hj, h⟩]
  rfl
theorem allOk_good {n : Nat} {f : Nat → Bool} (h : ∀ j, j < n → f j = false) : allOk n f = true := by
  unfold allOk
  rw [List.any_eq_false.2 fun j hj => by rw [h j (List.mem_range.1 hj)]; simp]
  rfl
theorem allOk_at {n : Nat} {f : Nat → Bool} (h : allOk n f = true) (j : Nat) (hj : j < n) : f j = false := by
  cases e : f j with
  | false => rfl
  | true => rw [allOk_bad hj e] at h; cases h
end Go.Bs
namespace Go.Proofs.Ytedhcohpcdkgnaa
open Go.RowKit Go.Bs

set_option maxHeartbeats 4000000 in
theorem pairsFit_any (w : World) (A : Option Addr) (n c : Nat) (ps : List Pr) (H : RdP w A n c ps) (hn : n ≤ 7000) (most : Nat) (hm : most ≤ 1100) :
    Calls Try.prog 36 #[.slice A n c, .int .i64 (most : Int)] w fun e w' => e = .returned (.bool (allOk n (badP most ps))) ∧ Below w.heap.size w w' := by
  have HH := Lib.hid H
  have HPL := Lib.hid H.len
  have hcap := H.cap
  obtain ⟨R, hR⟩ : ∃ R, allOk n (badP most ps) = R := ⟨_, rfl⟩
  have HR := Lib.hid hR
  rw [hR]
  obtain ⟨g, hg⟩ : ∃ g, w.heap.size = g := ⟨_, rfl⟩
  have HG := Lib.hid hg
  rw [hg]
  clear H hR
  go_enter Try.func36, Try.ntmps36
  go_wp2
  go_loopw [5, 10] (fun s i wr => ∃ k : Nat, k ≤ n ∧ i = .int .i64 k ∧ s = .string (lastP ps k) ∧ (∀ j, j < k → badP most ps j = false) ∧ Below g w wr) (fun _ i _ => n - (intOf i).toNat)
  case atStart => exact ⟨0, Nat.zero_le _, rfl, rfl, fun j hj => absurd hj (by omega), by rw [← HG.out]; exact Below.refl _ _⟩
  case round =>
    obtain ⟨k, hk1, rfl, rfl, hpr, hbl⟩ := hrel
    have hgs := hbl.size
    rw [HG.out] at hgs
    have HPR := Lib.hid hpr
    have HBL := Lib.hid hbl
    clear hbl hpr
    by_cases hlt : k < n
    · have hRP : RdP wr A n c ps := HH.out.keep (by rw [HG.out]; exact HBL.out)
      have hsz := hRP.sizes (pAt ps k) (pAt_mem ps k (by rw [HPL.out]; exact hlt))
      obtain ⟨q, o, rfl, hq, hcell⟩ := hRP.cells (by omega)
      obtain ⟨e0, e1⟩ := hcell k hlt
      have hls := lastP_succ ps k
      have hbad : badP most ps k = (sle (pAt ps k).1 (lastP ps k) || (decide (255 < (pAt ps k).1.size) || (decide (255 < (pAt ps k).2.size) || decide (most < (pAt ps k).1.size + (pAt ps k).2.size)))) := rfl
      obtain ⟨x, hx⟩ : ∃ x, (pAt ps k).1 = x := ⟨_, rfl⟩
      obtain ⟨y, hy⟩ : ∃ y, (pAt ps k).2 = y := ⟨_, rfl⟩
      obtain ⟨l, hl⟩ : ∃ l, lastP ps k = l := ⟨_, rfl⟩
      rw [hx] at hsz e0 hls hbad
      rw [hy] at hsz e1 hbad
      rw [hl] at hbad ⊢
      have HLS := Lib.hid hls
      have hs0 := hsz.1
      have hs1 := hsz.2
      obtain ⟨z, hz⟩ : ∃ z, wr.heap.size = z := ⟨_, rfl⟩
      obtain ⟨X, hX⟩ : ∃ X, wr.alloc (.cells #[.string x, .string y] 49) = X := ⟨_, rfl⟩
      have hbX : Below wr.heap.size wr X := by rw [← hX]; exact (Below.refl _ _).alloc (Nat.le_refl _) _
      have hzX : X.heap[z]? = some (.cells #[.string x, .string y] 49 (0, 0)) := by rw [← hX, ← hz]; exact heap_alloc_new wr _
      have z0 : X.cell? ⟨z, 0, none⟩ = some (.string x) := by rw [cell_of_row X z _ _ 49 (0, 0) hzX]; rfl
      have z1 : X.cell? ⟨z, 1, none⟩ = some (.string y) := by rw [cell_of_row X z _ _ 49 (0, 0) hzX]; rfl
      have HBL3 := Lib.hid (HBL.out.trans (hbX.mono hgs))
      clear hx hy hl hbX hzX hcell hRP hsz hls
      cases h1 : sle x l with
      | true =>
        have HRR : Hid (R = false) := HR.out.symm.trans (allOk_bad (j := k) hlt (by rw [hbad, h1]; rfl))
        clear hbad
        go_wp2
        go_ret
        exact ⟨by rw [HRR.out]; rfl, HBL3.out⟩
      | false =>
        by_cases h2 : 255 < x.size
        · have HRR : Hid (R = false) := HR.out.symm.trans (allOk_bad (j := k) hlt (by rw [hbad, decide_eq_true h2]; simp))
          clear hbad
          go_wp2
          go_ret
          exact ⟨by rw [HRR.out]; rfl, HBL3.out⟩
        · by_cases h3 : 255 < y.size
          · have HRR : Hid (R = false) := HR.out.symm.trans (allOk_bad (j := k) hlt (by rw [hbad, decide_eq_true h3]; simp))
            clear hbad
            go_wp2
            go_ret
            exact ⟨by rw [HRR.out]; rfl, HBL3.out⟩
          · by_cases h4 : most < x.size + y.size
            · have HRR : Hid (R = false) := HR.out.symm.trans (allOk_bad (j := k) hlt (by rw [hbad, decide_eq_true h4]; simp))
              clear hbad
              go_wp2
              go_ret
              exact ⟨by rw [HRR.out]; rfl, HBL3.out⟩
            · have HGD : Hid (badP most ps k = false) := by
                show badP most ps k = false
                rw [hbad, h1, decide_eq_false h2, decide_eq_false h3, decide_eq_false h4]; rfl
              clear hbad
              go_wp2
              go_roundw
              case rel =>
                refine ⟨k + 1, by omega, by go_num, by rw [HLS.out], fun j hj => ?_, HBL3.out⟩
                rcases Nat.lt_or_ge j k with h | h
                · exact HPR.out j h
                · obtain rfl : j = k := by omega
                  exact HGD.out
              case measure => simp [intOf]; omega
    · obtain rfl : k = n := by omega
      have HRR : Hid (R = true) := HR.out.symm.trans (allOk_good HPR.out)
      go_wp2
      go_ret
      exact ⟨by rw [HRR.out]; rfl, HBL.out⟩

set_option maxHeartbeats 4000000 in
theorem keysFit_any (w : World) (A : Option Addr) (n c : Nat) (ks : List ByteArray) (H : RdS w A n c ks) (hn : n ≤ 7000) (most : Nat) (hm : most ≤ 1100) :
    Calls Try.prog 37 #[.slice A n c, .int .i64 (most : Int)] w fun e w' => e = .returned (.bool (allOk n (badS most ks))) ∧ w = w' := by
  have HH := Lib.hid H
  have HPL := Lib.hid H.len
  have hcap := H.cap
  obtain ⟨R, hR⟩ : ∃ R, allOk n (badS most ks) = R := ⟨_, rfl⟩
  have HR := Lib.hid hR
  rw [hR]
  clear H hR
  go_enter Try.func37, Try.ntmps37
  go_wp2
  go_loop [5, 10] (fun s i => ∃ k : Nat, k ≤ n ∧ i = .int .i64 k ∧ s = .string (lastS ks k) ∧ (∀ j, j < k → badS most ks j = false)) (fun _ i => n - (intOf i).toNat)
  case atStart => exact ⟨0, Nat.zero_le _, rfl, rfl, fun j hj => absurd hj (by omega)⟩
  case round =>
    obtain ⟨k, hk1, rfl, rfl, hpr⟩ := hrel
    have HPR := Lib.hid hpr
    clear hpr
    by_cases hlt : k < n
    · have hsz := HH.out.sizes (sAt ks k) (sAt_mem ks k (by rw [HPL.out]; exact hlt))
      unfold maxLen at hsz
      obtain ⟨q, o, rfl, hq, hcell⟩ := HH.out.cells (by omega)
      have e0 := hcell k hlt
      have hls := lastS_succ ks k
      have hbad : badS most ks k = (sle (sAt ks k) (lastS ks k) || (decide (255 < (sAt ks k).size) || decide (most < (sAt ks k).size))) := rfl
      obtain ⟨x, hx⟩ : ∃ x, sAt ks k = x := ⟨_, rfl⟩
      obtain ⟨l, hl⟩ : ∃ l, lastS ks k = l := ⟨_, rfl⟩
      rw [show ks.getD k ByteArray.empty = x from hx] at e0
      rw [hx] at hsz hls hbad
      rw [hl] at hbad ⊢
      have HLS := Lib.hid hls
      clear hx hl hcell hls
      cases h1 : sle x l with
      | true =>
        have HRR : Hid (R = false) := HR.out.symm.trans (allOk_bad (j := k) hlt (by rw [hbad, h1]; rfl))
        clear hbad
        go_wp2
        go_ret
        exact ⟨by rw [HRR.out]; rfl, rfl⟩
      | false =>
        by_cases h2 : 255 < x.size
        · have HRR : Hid (R = false) := HR.out.symm.trans (allOk_bad (j := k) hlt (by rw [hbad, decide_eq_true h2]; simp))
          clear hbad
          go_wp2
          go_ret
          exact ⟨by rw [HRR.out]; rfl, rfl⟩
        · by_cases h4 : most < x.size
          · have HRR : Hid (R = false) := HR.out.symm.trans (allOk_bad (j := k) hlt (by rw [hbad, decide_eq_true h4]; simp))
            clear hbad
            go_wp2
            go_ret
            exact ⟨by rw [HRR.out]; rfl, rfl⟩
          · have HGD : Hid (badS most ks k = false) := by
              show badS most ks k = false
              rw [hbad, h1, decide_eq_false h2, decide_eq_false h4]; rfl
            clear hbad
            go_wp2
            go_round
            case rel =>
              refine ⟨k + 1, by omega, by go_num, by rw [HLS.out], fun j hj => ?_⟩
              rcases Nat.lt_or_ge j k with h | h
              · exact HPR.out j h
              · obtain rfl : j = k := by omega
                exact HGD.out
            case measure => simp [intOf]; omega
    · obtain rfl : k = n := by omega
      have HRR : Hid (R = true) := HR.out.symm.trans (allOk_good HPR.out)
      go_wp2
      go_ret
      exact ⟨by rw [HRR.out]; rfl, rfl⟩

set_option maxHeartbeats 4000000 in
theorem childrenFit_any (w : World) (A : Option Addr) (n c : Nat) (cs : List Int) (H : RdI w A n c cs) (hn : n ≤ 7000) :
    Calls Try.prog 38 #[.slice A n c] w fun e w' => e = .returned (.bool (allOk n (badC cs))) ∧ w = w' := by
  have HH := Lib.hid H
  have HPL := Lib.hid H.len
  have hcap := H.cap
  obtain ⟨R, hR⟩ : ∃ R, allOk n (badC cs) = R := ⟨_, rfl⟩
  have HR := Lib.hid hR
  rw [hR]
  clear H hR
  go_enter Try.func38, Try.ntmps38
  go_wp2
  go_loop [7] (fun i => ∃ k : Nat, k ≤ n ∧ i = .int .i64 k ∧ (∀ j, j < k → badC cs j = false)) (fun i => n - (intOf i).toNat)
  case atStart => exact ⟨0, Nat.zero_le _, rfl, fun j hj => absurd hj (by omega)⟩
  case round =>
    obtain ⟨k, hk1, rfl, hpr⟩ := hrel
    have HPR := Lib.hid hpr
    clear hpr
    by_cases hlt : k < n
    · obtain ⟨q, o, rfl, hq, hcell⟩ := HH.out.cells (by omega)
      have e0 := hcell k hlt
      have hbad : badC cs k = (decide (cs.getD k 0 < 1) || decide (16777215 < cs.getD k 0)) := rfl
      obtain ⟨x, hx⟩ : ∃ x, cs.getD k 0 = x := ⟨_, rfl⟩
      rw [hx] at e0 hbad
      clear hx hcell
      by_cases h2 : x < 1
      · have HRR : Hid (R = false) := HR.out.symm.trans (allOk_bad (j := k) hlt (by rw [hbad, decide_eq_true h2]; rfl))
        clear hbad
        go_wp2
        go_ret
        exact ⟨by rw [HRR.out]; rfl, rfl⟩
      · by_cases h4 : 16777215 < x
        · have HRR : Hid (R = false) := HR.out.symm.trans (allOk_bad (j := k) hlt (by rw [hbad, decide_eq_true h4]; simp))
          clear hbad
          go_wp2
          go_ret
          exact ⟨by rw [HRR.out]; rfl, rfl⟩
        · have HGD : Hid (badC cs k = false) := by
            show badC cs k = false
            rw [hbad, decide_eq_false h2, decide_eq_false h4]; rfl
          clear hbad
          go_wp2
          go_round
          case rel =>
            refine ⟨k + 1, by omega, by go_num, fun j hj => ?_⟩
            rcases Nat.lt_or_ge j k with h | h
            · exact HPR.out j h
            · obtain rfl : j = k := by omega
              exact HGD.out
          case measure => simp [intOf]; omega
    · obtain rfl : k = n := by omega
      have HRR : Hid (R = true) := HR.out.symm.trans (allOk_good HPR.out)
      go_wp2
      go_ret
      exact ⟨by rw [HRR.out]; rfl, rfl⟩
end Go.Proofs.Ytedhcohpcdkgnaa
