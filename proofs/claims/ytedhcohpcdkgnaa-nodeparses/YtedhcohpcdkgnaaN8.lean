/- A node's bytes. Conditions: none. -/
import Derived.Test.YtedhcohpcdkgnaaN7
namespace Go.Bs
open Go.RowKit
/-- a node's bytes, without what comes behind them. -/
def Nd.body (N : Nd) : List UInt8 := if N.leaf then leafB N.ps else innB N.cs N.ks
theorem chk_zero {N : Nd} {b : Int} (h : N.chk b = 0) : 64 ≤ b ∧ b ≤ 4096 ∧ N.fits (mostN b.toNat) = true ∧ (N.size : Int) ≤ b := by
  unfold Nd.chk at h
  split at h
  · rename_i h1
    split at h
    · rename_i h2
      split at h
      · cases h
      · rename_i h3
        exact ⟨h1.1, h1.2, h2, by omega⟩
    · cases h
  · cases h
theorem fits_body {N : Nd} {m : Nat} (h : N.fits m = true) : N.body.length = N.size := by
  unfold Nd.fits at h
  unfold Nd.body Nd.size
  cases hl : N.leaf
  · rw [hl] at h
    simp only [Bool.false_eq_true, if_false, Bool.and_eq_true, beq_iff_eq] at h
    have h1 : N.ps = [] := List.eq_nil_of_length_eq_zero h.1.1.1
    simp only [Bool.false_eq_true, if_false, innB_length, h1, psum, List.map_nil, List.sum_nil]
    omega
  · rw [hl] at h
    simp only [if_true, Bool.and_eq_true, beq_iff_eq] at h
    have h1 : N.ks = [] := List.eq_nil_of_length_eq_zero h.1.1
    have h2 : N.cs.length = 0 := h.1.2
    simp only [if_true, leafB_length, h1, h2, ssum, List.map_nil, List.sum_nil]
    omega
theorem below_grownN {N b : Nat} {w a c : World} (h : Below N w a) (hg : a.grownBy c (some b)) (hb : N ≤ b) (hN : N ≤ a.heap.size := by omega) : Below N w c :=
  ⟨hg.os.trans h.os, hg.tape.trans h.tape, hg.output.trans h.output, Nat.le_trans h.size hg.size, fun k hk => (hg.block k (by omega) (fun e => by cases e; omega)).trans (h.block k hk)⟩
end Go.Bs
namespace Go.Proofs.Ytedhcohpcdkgnaa
open Go.RowKit Go.Bs
theorem make_zeros (n : Nat) (hn : n ≤ 281474976710656) (w : World) :
    (Instr.makeSlice 30 (.int .i64 (n : Int)) (.int .i64 (n : Int))).run Try.prog w = .ok (.slice (some ⟨w.heap.size, 0, none⟩) n n) (w.alloc (rowObj 5 (zeros n))) := by
  rw [run_make_row' (P := Try.prog) 30 5 (.int .u8 0) 1 Try.underlying30 u8_info rfl .i64 .i64 n (by omega) (by omega) w, madeCells_zeros]
  rfl
theorem string_rd (w : World) (A : Option Addr) (n c : Nat) (bs : List UInt8) (h : Rd w A n c bs) : (convert 30 9 (.slice A n c)).run Try.prog w = .ok (.string ⟨bs.toArray⟩) w :=
  run_string_rd w 30 9 5 Try.underlying30 Try.underlying5 Try.underlying9 A n c bs h

/-- the bytes of a node that may be: a block of their own. -/
def BytesOk (w w' : World) (v : Value) (n : Nat) (bs : List UInt8) : Prop := ∃ z, v = .slice (some ⟨z, 0, none⟩) n n ∧ w.heap.size ≤ z ∧ Blk w' z 5 bs

set_option maxHeartbeats 4000000 in
theorem Bytes_no (w : World) (h : Hd) (N : Nd) (H : NdAt w h N) (hF : N.Few 7000) (b : Int) (hne : N.chk b ≠ 0) :
    Calls Try.prog 11 #[nv h N.leaf, .int .i64 b] w fun e w' => e = .returned (.tuple #[.slice none 0 0, .int .i64 (N.chk b)]) ∧ Below w.heap.size w w' := by
  obtain ⟨R, hR⟩ : ∃ R, N.chk b = R := ⟨_, rfl⟩
  have HR := Lib.hid hR
  rw [hR] at hne ⊢
  clear hR
  have HH := Lib.hid H
  have HF := Lib.hid hF
  obtain ⟨leaf, ps, ks, cs⟩ := N
  obtain ⟨pA, pl, pc, kA, kl, kc, cA, cl, cc⟩ := h
  have hpl : ps.length = pl := H.p.len
  have hkl : ks.length = kl := H.k.len
  have hcl : cs.length = cl := H.c.len
  have hpc : pl ≤ pc := H.p.cap
  have hkc : kl ≤ kc := H.k.cap
  have hcc : cl ≤ cc := H.c.cap
  have hp := hF.p
  have hk := hF.k
  have hc := hF.c
  simp only at hp hk hc
  rw [hpl] at hp
  rw [hkl] at hk
  rw [hcl] at hc
  clear hF
  have HPL := Lib.hid hpl
  have HKL := Lib.hid hkl
  have HCL := Lib.hid hcl
  clear H hpl hkl hcl
  obtain ⟨g, hg⟩ : ∃ g, w.heap.size = g := ⟨_, rfl⟩
  have HG := Lib.hid hg
  obtain ⟨W, hW⟩ : ∃ W, w.alloc (.cells (ncs ⟨pA, pl, pc, kA, kl, kc, cA, cl, cc⟩ leaf) 26) = W := ⟨_, rfl⟩
  have hbx : Bx W g ⟨pA, pl, pc, kA, kl, kc, cA, cl, cc⟩ leaf := by rw [← hW, ← hg]; exact Bx.new _ _ _
  have hbw : Below g w W := by rw [← hW, ← hg]; exact (Below.refl _ _).alloc (Nat.le_refl _) _
  obtain ⟨c0, c1, c2, c3⟩ := hbx.cells
  have HBX := Lib.hid hbx
  have HBW := Lib.hid hbw
  clear hbx hbw
  simp only [nv]
  rw [hg]
  have hbw2 : Below w.heap.size w W := by rw [HG.out]; exact HBW.out
  have hWg : g ≤ W.heap.size := by have := HBW.out.size; rw [HG.out] at this; exact this
  have HC := Lib.hid (Check_any W ⟨pA, pl, pc, kA, kl, kc, cA, cl, cc⟩ ⟨leaf, ps, ks, cs⟩ (HH.out.keep hbw2) HF.out b)
  rw [HR.out] at HC
  simp only [nv, ncs] at HC
  have hne2 : (R != 0) = true := by simpa using hne
  have hne3 : ¬ R = 0 := hne
  clear hbw2 hne
  go_enter Try.func11, Try.ntmps11
  go_wp2_with fail
  refine HC.out.mono ?_
  rintro e w1 ⟨rfl, hb1⟩
  have HB := Lib.hid (HBW.out.trans (hb1.mono hWg))
  clear hb1 HC
  go_wp2
  go_ret2
  exact ⟨rfl, HB.out⟩

set_option maxHeartbeats 4000000 in
theorem Bytes_yes (w : World) (h : Hd) (N : Nd) (H : NdAt w h N) (hF : N.Few 7000) (n : Nat) (hz0 : N.chk (n : Int) = 0) :
    Calls Try.prog 11 #[nv h N.leaf, .int .i64 (n : Int)] w fun e w' => (∃ z, e = .returned (.tuple #[.slice (some ⟨z, 0, none⟩) n n, .int .i64 0]) ∧ w.heap.size ≤ z ∧ Blk w' z 5 (N.body ++ zeros (n - N.body.length))) ∧ Below w.heap.size w w' := by
  obtain ⟨hr1, hr2, hfit, hsz⟩ := chk_zero hz0
  have hbl := fits_body hfit
  have hn1 : 64 ≤ n := by omega
  have hn2 : n ≤ 4096 := by omega
  have HCH : Hid (N.leaf = false → ∀ j, j < N.cs.length → 1 ≤ N.cs.getD j 0 ∧ N.cs.getD j 0 ≤ 16777215) := by
    intro hl j hj
    unfold Nd.fits at hfit
    rw [hl] at hfit
    simp only [Bool.false_eq_true, if_false, Bool.and_eq_true] at hfit
    have := allOk_at hfit.2 j hj
    simp only [badC, Bool.or_eq_false_iff, decide_eq_false_iff_not] at this
    omega
  obtain ⟨bd, hbd⟩ : ∃ bd, N.body = bd := ⟨_, rfl⟩
  rw [hbd] at hbl ⊢
  obtain ⟨m, hm⟩ : ∃ m, bd.length = m := ⟨_, rfl⟩
  have hmn : m ≤ n := by omega
  rw [hm]
  have HBOD := Lib.hid hbd
  have HBL := Lib.hid hm
  have HZ := Lib.hid hz0
  clear hr1 hr2 hfit hsz hbl hbd hm hz0
  have HH := Lib.hid H
  have HF := Lib.hid hF
  obtain ⟨leaf, ps, ks, cs⟩ := N
  obtain ⟨pA, pl, pc, kA, kl, kc, cA, cl, cc⟩ := h
  have hpl : ps.length = pl := H.p.len
  have hkl : ks.length = kl := H.k.len
  have hcl : cs.length = cl := H.c.len
  have hpc : pl ≤ pc := H.p.cap
  have hkc : kl ≤ kc := H.k.cap
  have hcc : cl ≤ cc := H.c.cap
  have hp := hF.p
  have hk := hF.k
  have hc := hF.c
  simp only at hp hk hc
  rw [hpl] at hp
  rw [hkl] at hk
  rw [hcl] at hc
  clear hF
  have HPL := Lib.hid hpl
  have HKL := Lib.hid hkl
  have HCL := Lib.hid hcl
  clear H hpl hkl hcl
  obtain ⟨g, hg⟩ : ∃ g, w.heap.size = g := ⟨_, rfl⟩
  have HG := Lib.hid hg
  obtain ⟨W, hW⟩ : ∃ W, w.alloc (.cells (ncs ⟨pA, pl, pc, kA, kl, kc, cA, cl, cc⟩ leaf) 26) = W := ⟨_, rfl⟩
  have hbx : Bx W g ⟨pA, pl, pc, kA, kl, kc, cA, cl, cc⟩ leaf := by rw [← hW, ← hg]; exact Bx.new _ _ _
  have hbw : Below g w W := by rw [← hW, ← hg]; exact (Below.refl _ _).alloc (Nat.le_refl _) _
  obtain ⟨c0, c1, c2, c3⟩ := hbx.cells
  have HBX := Lib.hid hbx
  have HBW := Lib.hid hbw
  clear hbx hbw
  simp only [nv]
  rw [hg]
  have hbw2 : Below w.heap.size w W := by rw [HG.out]; exact HBW.out
  have hWg : g ≤ W.heap.size := by have := HBW.out.size; rw [HG.out] at this; exact this
  have HC := Lib.hid (Check_any W ⟨pA, pl, pc, kA, kl, kc, cA, cl, cc⟩ ⟨leaf, ps, ks, cs⟩ (HH.out.keep hbw2) HF.out (n : Int))
  rw [HZ.out] at HC
  simp only [nv, ncs] at HC
  clear hbw2 HZ
  cases leaf with
  | true =>
    have HX : Hid (∀ V, Below g w V → Calls Try.prog 25 #[.slice pA pl pc] V fun e w' => ∃ v, e = .returned v ∧ Go.Bs.Own w' V.heap.size 5 v (leafB ps) ∧ Below V.heap.size V w') := fun V hV => leafBytes_any V pA pl pc ps (HH.out.p.keep (by rw [HG.out]; exact hV)) hp HF.out.sp
    have HBD : Hid (bd = leafB ps) := by show bd = leafB ps; rw [← HBOD.out]; rfl
    go_enter Try.func11, Try.ntmps11
    go_wp2_with fail
    refine HC.out.mono ?_
    rintro e w1 ⟨rfl, hb1⟩
    have hbx1 : Bx w1 g ⟨pA, pl, pc, kA, kl, kc, cA, cl, cc⟩ true := HBX.out.keep hb1
    obtain ⟨d0, d1, d2, d3⟩ := hbx1.cells
    have HB := Lib.hid (HBW.out.trans (hb1.mono hWg))
    have hg1 : g ≤ w1.heap.size := Nat.le_trans hWg hb1.size
    obtain ⟨z, hz⟩ : ∃ z, w1.heap.size = z := ⟨_, rfl⟩
    obtain ⟨X, hX⟩ : ∃ X, w1.alloc (rowObj 5 (zeros n)) = X := ⟨_, rfl⟩
    have hmk : (Instr.makeSlice 30 (.int .i64 (n : Int)) (.int .i64 (n : Int))).run Try.prog w1 = .ok (.slice (some ⟨z, 0, none⟩) n n) X := by
      rw [← hz, ← hX]; exact make_zeros n (by omega) w1
    have hbX : Below w1.heap.size w1 X := by rw [← hX]; exact (Below.refl _ _).alloc (Nat.le_refl _) _
    have hblk : Blk X z 5 (zeros n) := by rw [← hX, ← hz]; exact Blk.new _ _ _
    have hbxX : Bx X g ⟨pA, pl, pc, kA, kl, kc, cA, cl, cc⟩ true := hbx1.keep hbX
    obtain ⟨f0, f1, f2, f3⟩ := hbxX.cells
    have hzg : g ≤ z := by omega
    have hXz : z < X.heap.size := hblk.lt
    have HBX2 := Lib.hid (HB.out.trans (hbX.mono hg1))
    have HBLK := Lib.hid hblk
    have HC2 := Lib.hid (HX.out X HBX2.out)
    clear hb1 hbx1 hX hbX hblk hbxX HC HX
    go_wp2_with fail
    refine HC2.out.mono ?_
    rintro e w2 ⟨v, rfl, hO, hb2⟩
    have hblk2 : Blk w2 z 5 (zeros n) := HBLK.out.keep hb2 hXz
    obtain ⟨A, c, rfl, hrd⟩ := hO.slice m (by rw [← HBD.out]; exact HBL.out)
    have hcp := run_copy_rd (P := Try.prog) w2 30 30 3 5 Try.underlying30 (by kernel_rfl) z 0 n n 5 (zeros n) hblk2 A m c (leafB ps) hrd hmn (by rw [zeros_length]; omega)
    obtain ⟨Y, hY⟩ : ∃ Y, w2.setRow z (((zeros n).take 0 ++ (leafB ps ++ (zeros n).drop (0 + m))).map Go.Bs.B).toArray = Y := ⟨_, rfl⟩
    have hYb : Blk Y z 5 (bd ++ zeros (n - m)) := by
      have h1 := hblk2.setRow ((zeros n).take 0 ++ (leafB ps ++ (zeros n).drop (0 + m)))
      rw [hY] at h1
      rw [HBD.out]
      have h2 : (zeros n).take 0 ++ (leafB ps ++ (zeros n).drop (0 + m)) = leafB ps ++ zeros (n - m) := by
        rw [List.take_zero, List.nil_append, Nat.zero_add, show n = m + (n - m) by omega, zeros_drop]
        congr 2; omega
      rw [h2] at h1
      exact h1
    have hbY : Below g w Y := by
      rw [← hY]
      have h0 := HBX2.out.trans (hb2.mono (Nat.le_trans hzg (Nat.le_of_lt hXz)))
      exact below_grownN h0 (grown_setRow w2 z _) hzg (by have := hb2.size; omega)
    rw [hY] at hcp
    have HYB := Lib.hid hYb
    have HBY := Lib.hid hbY
    clear hY hYb hbY hb2 hO hrd hblk2
    go_wp2
    go_ret2
    exact ⟨⟨z, rfl, hzg, HYB.out⟩, HBY.out⟩
  | false =>
    have HCH := Lib.hid (HCH.out rfl)
    simp only at HCH
    rw [HCL.out] at HCH
    have HX : Hid (∀ V, Below g w V → Calls Try.prog 26 #[.slice cA cl cc, .slice kA kl kc] V fun e w' => ∃ v, e = .returned v ∧ Go.Bs.Own w' V.heap.size 5 v (innB cs ks) ∧ Below V.heap.size V w') := fun V hV => innerBytes_any V cA cl cc cs (HH.out.c.keep (by rw [HG.out]; exact hV)) hc HCH.out kA kl kc ks (HH.out.k.keep (by rw [HG.out]; exact hV)) hk HF.out.sk
    have HBD : Hid (bd = innB cs ks) := by show bd = innB cs ks; rw [← HBOD.out]; rfl
    go_enter Try.func11, Try.ntmps11
    go_wp2_with fail
    refine HC.out.mono ?_
    rintro e w1 ⟨rfl, hb1⟩
    have hbx1 : Bx w1 g ⟨pA, pl, pc, kA, kl, kc, cA, cl, cc⟩ false := HBX.out.keep hb1
    obtain ⟨d0, d1, d2, d3⟩ := hbx1.cells
    have HB := Lib.hid (HBW.out.trans (hb1.mono hWg))
    have hg1 : g ≤ w1.heap.size := Nat.le_trans hWg hb1.size
    obtain ⟨z, hz⟩ : ∃ z, w1.heap.size = z := ⟨_, rfl⟩
    obtain ⟨X, hX⟩ : ∃ X, w1.alloc (rowObj 5 (zeros n)) = X := ⟨_, rfl⟩
    have hmk : (Instr.makeSlice 30 (.int .i64 (n : Int)) (.int .i64 (n : Int))).run Try.prog w1 = .ok (.slice (some ⟨z, 0, none⟩) n n) X := by
      rw [← hz, ← hX]; exact make_zeros n (by omega) w1
    have hbX : Below w1.heap.size w1 X := by rw [← hX]; exact (Below.refl _ _).alloc (Nat.le_refl _) _
    have hblk : Blk X z 5 (zeros n) := by rw [← hX, ← hz]; exact Blk.new _ _ _
    have hbxX : Bx X g ⟨pA, pl, pc, kA, kl, kc, cA, cl, cc⟩ false := hbx1.keep hbX
    obtain ⟨f0, f1, f2, f3⟩ := hbxX.cells
    have hzg : g ≤ z := by omega
    have hXz : z < X.heap.size := hblk.lt
    have HBX2 := Lib.hid (HB.out.trans (hbX.mono hg1))
    have HBLK := Lib.hid hblk
    have HC2 := Lib.hid (HX.out X HBX2.out)
    clear hb1 hbx1 hX hbX hblk hbxX HC HX
    go_wp2_with fail
    refine HC2.out.mono ?_
    rintro e w2 ⟨v, rfl, hO, hb2⟩
    have hblk2 : Blk w2 z 5 (zeros n) := HBLK.out.keep hb2 hXz
    obtain ⟨A, c, rfl, hrd⟩ := hO.slice m (by rw [← HBD.out]; exact HBL.out)
    have hcp := run_copy_rd (P := Try.prog) w2 30 30 3 5 Try.underlying30 (by kernel_rfl) z 0 n n 5 (zeros n) hblk2 A m c (innB cs ks) hrd hmn (by rw [zeros_length]; omega)
    obtain ⟨Y, hY⟩ : ∃ Y, w2.setRow z (((zeros n).take 0 ++ (innB cs ks ++ (zeros n).drop (0 + m))).map Go.Bs.B).toArray = Y := ⟨_, rfl⟩
    have hYb : Blk Y z 5 (bd ++ zeros (n - m)) := by
      have h1 := hblk2.setRow ((zeros n).take 0 ++ (innB cs ks ++ (zeros n).drop (0 + m)))
      rw [hY] at h1
      rw [HBD.out]
      have h2 : (zeros n).take 0 ++ (innB cs ks ++ (zeros n).drop (0 + m)) = innB cs ks ++ zeros (n - m) := by
        rw [List.take_zero, List.nil_append, Nat.zero_add, show n = m + (n - m) by omega, zeros_drop]
        congr 2; omega
      rw [h2] at h1
      exact h1
    have hbY : Below g w Y := by
      rw [← hY]
      have h0 := HBX2.out.trans (hb2.mono (Nat.le_trans hzg (Nat.le_of_lt hXz)))
      exact below_grownN h0 (grown_setRow w2 z _) hzg (by have := hb2.size; omega)
    rw [hY] at hcp
    have HYB := Lib.hid hYb
    have HBY := Lib.hid hbY
    clear hY hYb hbY hb2 hO hrd hblk2
    go_wp2
    go_ret2
    exact ⟨⟨z, rfl, hzg, HYB.out⟩, HBY.out⟩

end Go.Proofs.Ytedhcohpcdkgnaa
