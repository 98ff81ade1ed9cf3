/- Two nodes that are the same. Conditions: none. -/
import Derived.Test.YtedhcohpcdkgnaaN1
namespace Go.Proofs.Ytedhcohpcdkgnaa
open Go.RowKit Go.Bs

set_option maxHeartbeats 4000000 in
theorem sameP_any (w : World) (A : Option Addr) (n c : Nat) (A' : Option Addr) (n' c' : Nat) (l : List Pr) (H : RdP w A n c l) (H' : RdP w A' n' c' l) (hn : n ≤ 7000) :
    Calls Try.prog 31 #[.slice A n c, .slice A' n' c'] w fun e w' => e = .returned (.bool true) ∧ ∃ m, w' = w.drewN m := by
  have HL := Lib.hid H.len
  obtain rfl : n = n' := H.len.symm.trans H'.len
  have hc1 := H.cap
  have hc2 := H'.cap
  have HR := Lib.hid H
  have HR' := Lib.hid H'
  clear H H'
  go_enter Try.func31, Try.ntmps31
  go_wp2
  go_loopw [5] (fun i wr => ∃ k m : Nat, k ≤ n ∧ i = .int .i64 k ∧ wr = w.drewN m) (fun i _ => n - (intOf i).toNat)
  case atStart => exact ⟨0, 0, Nat.zero_le _, rfl, rfl⟩
  case round =>
    obtain ⟨k, m, hk, rfl, rfl⟩ := hrel
    by_cases hlt : k < n
    · obtain ⟨q, o, rfl, hq, hcell⟩ := HR.out.cells (by omega)
      obtain ⟨q', o', rfl, hq', hcell'⟩ := HR'.out.cells (by omega)
      obtain ⟨e0, e1⟩ := hcell k hlt
      obtain ⟨f0, f1⟩ := hcell' k hlt
      obtain ⟨x, hx⟩ : ∃ x, (pAt l k).1 = x := ⟨_, rfl⟩
      obtain ⟨y, hy⟩ : ∃ y, (pAt l k).2 = y := ⟨_, rfl⟩
      rw [hx] at e0 f0
      rw [hy] at e1 f1
      clear hx hy
      clear hcell hcell'
      go_wp2_with fail
      go_quiet (fail)
      go_wp2
      go_roundw
      case rel => exact ⟨k + 1, _, by omega, by go_num, rfl⟩
      case measure => simp [intOf]; omega
    · obtain rfl : k = n := by omega
      go_wp2
      go_ret
      exact ⟨rfl, m, rfl⟩

set_option maxHeartbeats 4000000 in
theorem sameS_any (w : World) (A : Option Addr) (n c : Nat) (A' : Option Addr) (n' c' : Nat) (l : List ByteArray) (H : RdS w A n c l) (H' : RdS w A' n' c' l) (hn : n ≤ 7000) :
    Calls Try.prog 32 #[.slice A n c, .slice A' n' c'] w fun e w' => e = .returned (.bool true) ∧ ∃ m, w' = w.drewN m := by
  have HL := Lib.hid H.len
  obtain rfl : n = n' := H.len.symm.trans H'.len
  have hc1 := H.cap
  have hc2 := H'.cap
  have HR := Lib.hid H
  have HR' := Lib.hid H'
  clear H H'
  go_enter Try.func32, Try.ntmps32
  go_wp2
  go_loopw [5] (fun i wr => ∃ k m : Nat, k ≤ n ∧ i = .int .i64 k ∧ wr = w.drewN m) (fun i _ => n - (intOf i).toNat)
  case atStart => exact ⟨0, 0, Nat.zero_le _, rfl, rfl⟩
  case round =>
    obtain ⟨k, m, hk, rfl, rfl⟩ := hrel
    by_cases hlt : k < n
    · obtain ⟨q, o, rfl, hq, hcell⟩ := HR.out.cells (by omega)
      obtain ⟨q', o', rfl, hq', hcell'⟩ := HR'.out.cells (by omega)
      have e0 := hcell k hlt
      have f0 := hcell' k hlt
      obtain ⟨x, hx⟩ : ∃ x, l.getD k ByteArray.empty = x := ⟨_, rfl⟩
      rw [hx] at e0 f0
      clear hx
      clear hcell hcell'
      go_wp2_with fail
      go_quiet (fail)
      go_wp2
      go_roundw
      case rel => exact ⟨k + 1, _, by omega, by go_num, rfl⟩
      case measure => simp [intOf]; omega
    · obtain rfl : k = n := by omega
      go_wp2
      go_ret
      exact ⟨rfl, m, rfl⟩

set_option maxHeartbeats 4000000 in
theorem sameI_any (w : World) (A : Option Addr) (n c : Nat) (A' : Option Addr) (n' c' : Nat) (l : List Int) (H : RdI w A n c l) (H' : RdI w A' n' c' l) (hn : n ≤ 7000) :
    Calls Try.prog 33 #[.slice A n c, .slice A' n' c'] w fun e w' => e = .returned (.bool true) ∧ ∃ m, w' = w.drewN m := by
  have HL := Lib.hid H.len
  obtain rfl : n = n' := H.len.symm.trans H'.len
  have hc1 := H.cap
  have hc2 := H'.cap
  have HR := Lib.hid H
  have HR' := Lib.hid H'
  clear H H'
  go_enter Try.func33, Try.ntmps33
  go_wp2
  go_loopw [5] (fun i wr => ∃ k m : Nat, k ≤ n ∧ i = .int .i64 k ∧ wr = w.drewN m) (fun i _ => n - (intOf i).toNat)
  case atStart => exact ⟨0, 0, Nat.zero_le _, rfl, rfl⟩
  case round =>
    obtain ⟨k, m, hk, rfl, rfl⟩ := hrel
    by_cases hlt : k < n
    · obtain ⟨q, o, rfl, hq, hcell⟩ := HR.out.cells (by omega)
      obtain ⟨q', o', rfl, hq', hcell'⟩ := HR'.out.cells (by omega)
      have e0 := hcell k hlt
      have f0 := hcell' k hlt
      obtain ⟨x, hx⟩ : ∃ x, l.getD k 0 = x := ⟨_, rfl⟩
      rw [hx] at e0 f0
      clear hx
      clear hcell hcell'
      go_wp2_with fail
      go_quiet (fail)
      go_wp2
      go_roundw
      case rel => exact ⟨k + 1, _, by omega, by go_num, rfl⟩
      case measure => simp [intOf]; omega
    · obtain rfl : k = n := by omega
      go_wp2
      go_ret
      exact ⟨rfl, m, rfl⟩

theorem NdAt.drewN {w : World} {h : Hd} {N : Nd} (H : NdAt w h N) (m : Nat) : NdAt (w.drewN m) h N := H.keep (below_drewN (Below.refl _ _) m)
set_option maxHeartbeats 4000000 in
theorem Same_any (w : World) (h h' : Hd) (N : Nd) (H : NdAt w h N) (H' : NdAt w h' N) (hF : N.Few 7000) :
    Calls Try.prog 21 #[nv h N.leaf, nv h' N.leaf] w fun e w' => e = .returned (.bool true) ∧ Below w.heap.size w w' := by
  obtain ⟨leaf, ps, ks, cs⟩ := N
  obtain ⟨pA, pl, pc, kA, kl, kc, cA, cl, cc⟩ := h
  obtain ⟨pA', pl', pc', kA', kl', kc', cA', cl', cc'⟩ := h'
  have hp : pl ≤ 7000 := by have := hF.p; rw [show (⟨leaf, ps, ks, cs⟩ : Nd).ps.length = pl from H.p.len] at this; exact this
  have hk : kl ≤ 7000 := by have := hF.k; rw [show (⟨leaf, ps, ks, cs⟩ : Nd).ks.length = kl from H.k.len] at this; exact this
  have hc : cl ≤ 7000 := by have := hF.c; rw [show (⟨leaf, ps, ks, cs⟩ : Nd).cs.length = cl from H.c.len] at this; exact this
  obtain ⟨g, hg⟩ : ∃ g, w.heap.size = g := ⟨_, rfl⟩
  obtain ⟨W, hW⟩ : ∃ W, (w.alloc (.cells #[.bool leaf, .slice pA pl pc, .slice kA kl kc, .slice cA cl cc] 26)).alloc (.cells #[.bool leaf, .slice pA' pl' pc', .slice kA' kl' kc', .slice cA' cl' cc'] 26) = W := ⟨_, rfl⟩
  have hb : Below w.heap.size w W := by rw [← hW]; exact ((Below.refl _ _).alloc (Nat.le_refl _) _).alloc (by simp) _
  have hx : Bx W g ⟨pA, pl, pc, kA, kl, kc, cA, cl, cc⟩ leaf := by
    rw [← hW, ← hg]
    exact (Bx.new w ⟨pA, pl, pc, kA, kl, kc, cA, cl, cc⟩ leaf).keep ((Below.refl _ _).alloc (Nat.le_refl _) _)
  have hx' : Bx W (g + 1) ⟨pA', pl', pc', kA', kl', kc', cA', cl', cc'⟩ leaf := by
    rw [← hW, ← hg]
    have := Bx.new (w.alloc (.cells #[.bool leaf, .slice pA pl pc, .slice kA kl kc, .slice cA cl cc] 26)) ⟨pA', pl', pc', kA', kl', kc', cA', cl', cc'⟩ leaf
    rw [show (w.alloc (.cells #[.bool leaf, .slice pA pl pc, .slice kA kl kc, .slice cA cl cc] 26)).heap.size = w.heap.size + 1 by simp] at this
    exact this
  obtain ⟨c0, c1, c2, c3⟩ := hx.cells
  obtain ⟨d0, d1, d2, d3⟩ := hx'.cells
  have HN := Lib.hid (H.keep hb)
  have HN' := Lib.hid (H'.keep hb)
  have HB := Lib.hid hb
  have HP := Lib.hid (fun m => sameP_any (W.drewN m) _ _ _ _ _ _ ps (HN.out.p.keep (below_drewN (Below.refl _ _) m)) (HN'.out.p.keep (below_drewN (Below.refl _ _) m)) hp)
  have HK := Lib.hid (fun m => sameS_any (W.drewN m) _ _ _ _ _ _ ks (HN.out.k.keep (below_drewN (Below.refl _ _) m)) (HN'.out.k.keep (below_drewN (Below.refl _ _) m)) hk)
  have HC := Lib.hid (fun m => sameI_any (W.drewN m) _ _ _ _ _ _ cs (HN.out.c.keep (below_drewN (Below.refl _ _) m)) (HN'.out.c.keep (below_drewN (Below.refl _ _) m)) hc)
  have HW := Lib.hid hW
  simp only [nv, ncs]
  clear H H' hF hb hx hx' hW
  rw [hg]
  cases leaf <;> (
    go_enter Try.func21, Try.ntmps21
    go_wp2_with fail
    rw [HW.out]
    refine (HP.out 0).mono ?_
    rintro e w1 ⟨rfl, m1, rfl⟩
    go_wp2_with fail
    refine (HK.out _).mono ?_
    rintro e w2 ⟨rfl, m2, rfl⟩
    rw [World.drewN_drewN]
    go_wp2_with fail
    refine (HC.out _).mono ?_
    rintro e w3 ⟨rfl, m3, rfl⟩
    rw [World.drewN_drewN]
    go_wp2
    go_ret
    exact ⟨rfl, below_drewN (by rw [← hg]; exact HB.out) _⟩)
end Go.Proofs.Ytedhcohpcdkgnaa
