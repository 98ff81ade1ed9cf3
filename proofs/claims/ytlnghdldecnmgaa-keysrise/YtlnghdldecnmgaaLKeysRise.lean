/-
  The statement 'KeysRise' (chandlerylaw11) holds at every input: the call returns true and leaves its arguments as they were. Conditions: none beyond the row's own.
-/
import Derived.Test.YtlnghdldecnmgaaRows
import Derived.Test.YtlnghdldecnmgaaArgK
import Derived.Test.YtlnghdldecnmgaaKV
import Derived.WalkKit
import Derived.ProofKit
import Derived.OpenShut
import Derived.ChangeOld
import Derived.Below
set_option linter.unusedSimpArgs false
set_option linter.unusedVariables false
namespace Go.Proofs.Ytlnghdldecnmgaa.keysRise
open Go.ChangeShapes Go.WideShapes Go.ChangeAt Go.RowKit Go.Bs Go.Kx
open Go.ChangeMaps (open_string shut_string)

theorem own : ownKnob Try.prog.godebug = none := by kernel_rfl
theorem laidOut : laidOutB Try.prog = true := by kernel_rfl

/-- the three boxes. -/
structure K3 (g z : Nat) (k x y : Ky) (w W : World) : Prop where
  k : KyAt W g k
  x : KyAt W z x
  y : KyAt W (z + 1) y
  b : Below g w W
  s : g ≤ W.heap.size
theorem K3.keep {g z : Nat} {k x y : Ky} {w W W' : World} (h : K3 g z k x y w W) (hb : Below W.heap.size W W') : K3 g z k x y w W' :=
  ⟨h.k.keep hb, h.x.keep hb, h.y.keep hb, h.b.trans (hb.mono h.s), Nat.le_trans h.s hb.size⟩
theorem set_n {w : World} {z : Nat} {k : Ky} (h : KyAt w z k) (v : Int) : KyAt (w.setCell ⟨z, 3, none⟩ (.int .i64 v)) z { k with n := v } := by
  have := h.setN false v
  simpa [Ky.setN] using this
theorem set_m {w : World} {z : Nat} {k : Ky} (h : KyAt w z k) (v : Int) : KyAt (w.setCell ⟨z, 4, none⟩ (.int .i64 v)) z { k with m := v } := by
  have := h.setN true v
  simpa [Ky.setN] using this
theorem set_far {w : World} {z h i : Nat} {k : Ky} (H : KyAt w z k) (v : Value) (hz : z ≠ h) : KyAt (w.setCell ⟨h, i, none⟩ v) z k := (Below.heap_setCell w ⟨h, i, none⟩ v z hz).trans H

set_option maxRecDepth 100000 in
set_option maxHeartbeats 1000000 in
theorem walk (k0 : Ky) (a1 : Int) (a2 : Int) (a3 : Int) (a4 : Int) (w : World) (w0 : KyA k0) (w1 : -9223372036854775808 ≤ a1 ∧ a1 ≤ 9223372036854775807) (w2 : -9223372036854775808 ≤ a2 ∧ a2 ≤ 9223372036854775807) (w3 : -9223372036854775808 ≤ a3 ∧ a3 ≤ 9223372036854775807) (w4 : -9223372036854775808 ≤ a4 ∧ a4 ≤ 9223372036854775807) :
    Calls Try.prog 7 #[k0.val, .int .i64 a1, .int .i64 a2, .int .i64 a3, .int .i64 a4] w fun e w' => e = .returned (.bool true) ∧ Below w.heap.size w w' := by
  obtain ⟨g, hg⟩ : ∃ g, w.heap.size = g := ⟨_, rfl⟩
  rw [hg]
  have HS0 := Lib.hid (fun W => small_any k0 W w0.a w0.b)
  obtain ⟨s0, hs0⟩ : ∃ s0, decide (k0.a.length + k0.b.length ≤ 1000) = s0 := ⟨_, rfl⟩
  rw [hs0] at HS0
  have HAW := Lib.hid (fun W => awake_any W)
  obtain ⟨kd, ka, kb, kn, km⟩ := k0
  obtain ⟨h1, h2, h3, h4, h5⟩ := w0
  simp only at h1 h2 h3 h4 h5 hs0
  have HSZ : Hid (s0 = true → ka.length + kb.length ≤ 1000) := fun h => of_decide_eq_true (hs0.trans h)
  have hk0 : KyAt (w.alloc (.cells (⟨kd, ka, kb, kn, km⟩ : Ky).cells 23)) g ⟨kd, ka, kb, kn, km⟩ := by rw [← hg]; exact KyAt.new w _
  have hb0 : Below g w (w.alloc (.cells (⟨kd, ka, kb, kn, km⟩ : Ky).cells 23)) := by rw [← hg]; exact (Below.refl _ _).alloc (Nat.le_refl _) _
  have hz0 : g + 1 ≤ (w.alloc (.cells (⟨kd, ka, kb, kn, km⟩ : Ky).cells 23)).heap.size := by simp [hg]
  obtain ⟨SA, hsa⟩ : ∃ S, st ka = .string S := ⟨_, rfl⟩
  obtain ⟨SB, hsb⟩ : ∃ S, st kb = .string S := ⟨_, rfl⟩
  obtain ⟨W0, hW0⟩ : ∃ W0, w.alloc (.cells (⟨kd, ka, kb, kn, km⟩ : Ky).cells 23) = W0 := ⟨_, rfl⟩
  rw [hW0] at hk0 hb0 hz0
  have HK0 := Lib.hid (And.intro hk0 (And.intro hb0 hz0))
  unfold Ky.cells at hW0
  simp only [hsa, hsb] at hW0
  unfold Ky.val at HS0 ⊢
  simp only [hsa, hsb] at HS0 ⊢
  have HW0 := Lib.hid hW0
  have HSA := Lib.hid (And.intro hsa hsb)
  clear hs0 hW0 hk0 hb0 hz0 hsa hsb
  go_enter Try.func7, Try.ntmps7
  go_wp2_with fail
  rw [HW0.out]
  refine (HS0.out _).mono ?_
  rintro e w1' ⟨rfl, hb⟩
  have hk1 := HK0.out.1.keep hb
  have HB1 : Hid (Below g w w1' ∧ g + 1 ≤ w1'.heap.size) := ⟨HK0.out.2.1.trans (hb.mono (by have := HK0.out.2.2; omega)), Nat.le_trans HK0.out.2.2 hb.size⟩
  obtain ⟨p0, p1, p2, p3, p4, _⟩ := hk1.at
  simp only [HSA.out.1, HSA.out.2] at p0 p1 p2 p3 p4
  have HK1 := Lib.hid hk1
  have hlt : g < w1'.heap.size := hk1.lt
  clear hb hk1
  cases s0 with
  | false =>
    go_wp2
    go_ret
    exact ⟨rfl, HB1.out.1⟩
  | true =>
    have hsz := HSZ.out (by trivial)
    obtain ⟨z, hz⟩ : ∃ z, w1'.heap.size = z := ⟨_, rfl⟩
    rw [hz] at hlt
    by_cases h3k : kd = 3
    · subst h3k
      obtain ⟨X, hX⟩ : ∃ X : Ky, X = ⟨3, ka, kb, a1, a3⟩ := ⟨_, rfl⟩
      obtain ⟨Y, hY⟩ : ∃ Y : Ky, Y = ⟨3, ka, kb, a2, a4⟩ := ⟨_, rfl⟩
      have HBX : Hid (∀ W, Calls Try.prog 11 #[.agg #[.int .i64 3, .string SA, .string SB, .int .i64 a1, .int .i64 a3]] W fun e w' => BytesE X e ∧ Below W.heap.size W w') := fun W => by
        have := Bytes_any X W (by rw [hX]; exact bd_of hsz w1 (by first | exact w3 | exact h4))
        rw [hX] at this ⊢
        unfold Ky.val at this
        simp only [HSA.out.1, HSA.out.2] at this
        exact this
      have HBY : Hid (∀ W, Calls Try.prog 11 #[Y.val] W fun e w' => BytesE Y e ∧ Below W.heap.size W w') := fun W => Bytes_any Y W (by rw [hY]; exact bd_of hsz w2 (by first | exact w4 | exact h4))
      unfold Ky.val st at HBY
      obtain ⟨W1, hW1⟩ : ∃ W1, (w1'.alloc (.cells #[.int .i64 3, .string SA, .string SB, .int .i64 a1, .int .i64 a3] 23)).alloc (.cells #[.int .i64 3, .string SA, .string SB, .int .i64 a2, .int .i64 a4] 23) = W1 := ⟨_, rfl⟩
      have HT1 : Hid (K3 g z ⟨3, ka, kb, kn, km⟩ X Y w W1) := by
        have ex : X.cells = #[.int .i64 3, .string SA, .string SB, .int .i64 a1, .int .i64 a3] := by rw [hX]; unfold Ky.cells; simp only [HSA.out.1, HSA.out.2]
        have ey : Y.cells = #[.int .i64 3, .string SA, .string SB, .int .i64 a2, .int .i64 a4] := by rw [hY]; unfold Ky.cells; simp only [HSA.out.1, HSA.out.2]
        have hbW : Below w1'.heap.size w1' W1 := by rw [← hW1]; exact ((Below.refl _ _).alloc (Nat.le_refl _) _).alloc (by simp) _
        refine ⟨HK1.out.keep hbW, ?_, ?_, HB1.out.1.trans (hbW.mono (by have := HB1.out.2; omega)), Nat.le_trans (by have := HB1.out.2; omega) hbW.size⟩
        · rw [← hW1, ← ex, ← hz]; exact (KyAt.new w1' X).keep ((Below.refl _ _).alloc (Nat.le_refl _) _)
        · have := KyAt.new (w1'.alloc (.cells X.cells 23)) Y
          rw [ex, ey, hW1] at this
          simpa [hz] using this
      have HXY : Hid (X.kind = Y.kind ∧ X.a = Y.a ∧ X.b = Y.b ∧ (X.kind ≠ 3 → X.m = Y.m)) := by
        rw [hX, hY]; exact ⟨rfl, rfl, rfl, fun h => by first | rfl | exact absurd rfl h⟩
      have HW1 := Lib.hid hW1
      clear hX hY hW1 HB1
      go_wp2_with fail
      rw [HW1.out]
      refine ((HBX.out _)).mono ?_
      rintro e w2' ⟨he0, hb⟩
      have HT2 := Lib.hid (HT1.out.keep hb)
      clear hb
      obtain ⟨p0, p1, p2, p3, p4⟩ := HT2.out.k.cs
      obtain ⟨q0, q1, q2, q3, q4⟩ := HT2.out.x.cs
      obtain ⟨r0, r1, r2, r3, r4⟩ := HT2.out.y.cs
      unfold BytesE at he0
      obtain ⟨t0, ht0⟩ : ∃ r, bytesF X = r := ⟨_, rfl⟩
      rw [ht0] at he0
      have HR0 := Lib.hid ht0
      clear ht0
      cases t0 with
      | none =>
        obtain rfl := he0
        go_wp2_with fail
        refine ((HBY.out _)).mono ?_
        rintro e w3' ⟨he1, hb⟩
        have HT3 := Lib.hid (HT2.out.keep hb)
        clear hb
        clear p0 p1 p2 p3 p4 q0 q1 q2 q3 q4 r0 r1 r2 r3 r4
        obtain ⟨p0, p1, p2, p3, p4⟩ := HT3.out.k.cs
        obtain ⟨q0, q1, q2, q3, q4⟩ := HT3.out.x.cs
        obtain ⟨r0, r1, r2, r3, r4⟩ := HT3.out.y.cs
        unfold BytesE at he1
        obtain ⟨t1, ht1⟩ : ∃ r, bytesF Y = r := ⟨_, rfl⟩
        rw [ht1] at he1
        have HR1 := Lib.hid ht1
        clear ht1
        cases t1 with
        | none =>
          obtain rfl := he1
          go_wp2_with fail
          refine (HAW.out _).mono ?_
          rintro e w9' ⟨rfl, hb⟩
          have HT9 := Lib.hid (HT3.out.keep hb)
          clear hb
          go_wp2
          go_ret
          exact ⟨rfl, HT9.out.b⟩
        | some t =>
          obtain rfl := he1
          go_wp2_with fail
          refine (HAW.out _).mono ?_
          rintro e w9' ⟨rfl, hb⟩
          have HT9 := Lib.hid (HT3.out.keep hb)
          clear hb
          go_wp2
          go_ret
          exact ⟨rfl, HT9.out.b⟩
      | some s =>
        obtain rfl := he0
        go_wp2_with fail
        refine ((HBY.out _)).mono ?_
        rintro e w3' ⟨he1, hb⟩
        have HT3 := Lib.hid (HT2.out.keep hb)
        clear hb
        clear p0 p1 p2 p3 p4 q0 q1 q2 q3 q4 r0 r1 r2 r3 r4
        obtain ⟨p0, p1, p2, p3, p4⟩ := HT3.out.k.cs
        obtain ⟨q0, q1, q2, q3, q4⟩ := HT3.out.x.cs
        obtain ⟨r0, r1, r2, r3, r4⟩ := HT3.out.y.cs
        unfold BytesE at he1
        obtain ⟨t1, ht1⟩ : ∃ r, bytesF Y = r := ⟨_, rfl⟩
        rw [ht1] at he1
        have HR1 := Lib.hid ht1
        clear ht1
        cases t1 with
        | none =>
          obtain rfl := he1
          go_wp2_with fail
          refine (HAW.out _).mono ?_
          rintro e w9' ⟨rfl, hb⟩
          have HT9 := Lib.hid (HT3.out.keep hb)
          clear hb
          go_wp2
          go_ret
          exact ⟨rfl, HT9.out.b⟩
        | some t =>
          obtain rfl := he1
          have HRI := Lib.hid (rise (bytesF_is HR0.out) (bytesF_is HR1.out) HXY.out.1 HXY.out.2.1 HXY.out.2.2.1 HXY.out.2.2.2)
          obtain ⟨bl, hbl⟩ : ∃ x, Op.bytesLess s t = x := ⟨_, rfl⟩
          have HBL : Hid (bl = decide (X.n < Y.n ∨ X.n = Y.n ∧ X.m < Y.m)) := by
            show bl = _
            rw [← hbl]; exact HRI.out
          have hbl2 : Op.bytesLess (⟨s.toArray⟩ : ByteArray).toList (⟨t.toArray⟩ : ByteArray).toList = bl := by
            have e1 : (⟨s.toArray⟩ : ByteArray).toList = s := by simp
            have e2 : (⟨t.toArray⟩ : ByteArray).toList = t := by simp
            rw [e1, e2]; exact hbl
          clear HRI
          unfold st
          by_cases c1 : X.n < Y.n
          · have hb1 : bl = true := by rw [HBL.out]; simp [c1]
            subst hb1
            go_wp2_with fail
            refine (HAW.out _).mono ?_
            rintro e w9' ⟨rfl, hb⟩
            have HT9 := Lib.hid (HT3.out.keep hb)
            clear hb
            go_wp2
            go_ret
            exact ⟨by first | rfl | (simp <;> omega), HT9.out.b⟩
          · by_cases c2 : X.n = Y.n
            · by_cases c3 : X.m < Y.m
              · have hb1 : bl = true := by rw [HBL.out]; simp [c2, c3]
                subst hb1
                go_wp2_with fail
                refine (HAW.out _).mono ?_
                rintro e w9' ⟨rfl, hb⟩
                have HT9 := Lib.hid (HT3.out.keep hb)
                clear hb
                go_wp2
                go_ret
                exact ⟨by first | rfl | (simp <;> omega), HT9.out.b⟩
              · have hb1 : bl = false := by rw [HBL.out]; simp [c2]; omega
                subst hb1
                go_wp2_with fail
                refine (HAW.out _).mono ?_
                rintro e w9' ⟨rfl, hb⟩
                have HT9 := Lib.hid (HT3.out.keep hb)
                clear hb
                go_wp2
                go_ret
                exact ⟨by first | rfl | (simp <;> omega), HT9.out.b⟩
            · have hb1 : bl = false := by rw [HBL.out]; simp [c2]; omega
              subst hb1
              go_wp2_with fail
              refine (HAW.out _).mono ?_
              rintro e w9' ⟨rfl, hb⟩
              have HT9 := Lib.hid (HT3.out.keep hb)
              clear hb
              go_wp2
              go_ret
              exact ⟨by first | rfl | (simp <;> omega), HT9.out.b⟩
    · skip
      obtain ⟨X, hX⟩ : ∃ X : Ky, X = ⟨kd, ka, kb, a1, km⟩ := ⟨_, rfl⟩
      obtain ⟨Y, hY⟩ : ∃ Y : Ky, Y = ⟨kd, ka, kb, a2, km⟩ := ⟨_, rfl⟩
      have HBX : Hid (∀ W, Calls Try.prog 11 #[.agg #[.int .i64 kd, .string SA, .string SB, .int .i64 a1, .int .i64 km]] W fun e w' => BytesE X e ∧ Below W.heap.size W w') := fun W => by
        have := Bytes_any X W (by rw [hX]; exact bd_of hsz w1 (by first | exact w3 | exact h4))
        rw [hX] at this ⊢
        unfold Ky.val at this
        simp only [HSA.out.1, HSA.out.2] at this
        exact this
      have HBY : Hid (∀ W, Calls Try.prog 11 #[Y.val] W fun e w' => BytesE Y e ∧ Below W.heap.size W w') := fun W => Bytes_any Y W (by rw [hY]; exact bd_of hsz w2 (by first | exact w4 | exact h4))
      unfold Ky.val st at HBY
      obtain ⟨W1, hW1⟩ : ∃ W1, (w1'.alloc (.cells #[.int .i64 kd, .string SA, .string SB, .int .i64 a1, .int .i64 km] 23)).alloc (.cells #[.int .i64 kd, .string SA, .string SB, .int .i64 a2, .int .i64 km] 23) = W1 := ⟨_, rfl⟩
      have HT1 : Hid (K3 g z ⟨kd, ka, kb, kn, km⟩ X Y w W1) := by
        have ex : X.cells = #[.int .i64 kd, .string SA, .string SB, .int .i64 a1, .int .i64 km] := by rw [hX]; unfold Ky.cells; simp only [HSA.out.1, HSA.out.2]
        have ey : Y.cells = #[.int .i64 kd, .string SA, .string SB, .int .i64 a2, .int .i64 km] := by rw [hY]; unfold Ky.cells; simp only [HSA.out.1, HSA.out.2]
        have hbW : Below w1'.heap.size w1' W1 := by rw [← hW1]; exact ((Below.refl _ _).alloc (Nat.le_refl _) _).alloc (by simp) _
        refine ⟨HK1.out.keep hbW, ?_, ?_, HB1.out.1.trans (hbW.mono (by have := HB1.out.2; omega)), Nat.le_trans (by have := HB1.out.2; omega) hbW.size⟩
        · rw [← hW1, ← ex, ← hz]; exact (KyAt.new w1' X).keep ((Below.refl _ _).alloc (Nat.le_refl _) _)
        · have := KyAt.new (w1'.alloc (.cells X.cells 23)) Y
          rw [ex, ey, hW1] at this
          simpa [hz] using this
      have HXY : Hid (X.kind = Y.kind ∧ X.a = Y.a ∧ X.b = Y.b ∧ (X.kind ≠ 3 → X.m = Y.m)) := by
        rw [hX, hY]; exact ⟨rfl, rfl, rfl, fun h => by first | rfl | exact absurd rfl h⟩
      have HW1 := Lib.hid hW1
      clear hX hY hW1 HB1
      go_wp2_with fail
      rw [HW1.out]
      refine ((HBX.out _)).mono ?_
      rintro e w2' ⟨he0, hb⟩
      have HT2 := Lib.hid (HT1.out.keep hb)
      clear hb
      obtain ⟨p0, p1, p2, p3, p4⟩ := HT2.out.k.cs
      obtain ⟨q0, q1, q2, q3, q4⟩ := HT2.out.x.cs
      obtain ⟨r0, r1, r2, r3, r4⟩ := HT2.out.y.cs
      unfold BytesE at he0
      obtain ⟨t0, ht0⟩ : ∃ r, bytesF X = r := ⟨_, rfl⟩
      rw [ht0] at he0
      have HR0 := Lib.hid ht0
      clear ht0
      cases t0 with
      | none =>
        obtain rfl := he0
        go_wp2_with fail
        refine ((HBY.out _)).mono ?_
        rintro e w3' ⟨he1, hb⟩
        have HT3 := Lib.hid (HT2.out.keep hb)
        clear hb
        clear p0 p1 p2 p3 p4 q0 q1 q2 q3 q4 r0 r1 r2 r3 r4
        obtain ⟨p0, p1, p2, p3, p4⟩ := HT3.out.k.cs
        obtain ⟨q0, q1, q2, q3, q4⟩ := HT3.out.x.cs
        obtain ⟨r0, r1, r2, r3, r4⟩ := HT3.out.y.cs
        unfold BytesE at he1
        obtain ⟨t1, ht1⟩ : ∃ r, bytesF Y = r := ⟨_, rfl⟩
        rw [ht1] at he1
        have HR1 := Lib.hid ht1
        clear ht1
        cases t1 with
        | none =>
          obtain rfl := he1
          go_wp2_with fail
          refine (HAW.out _).mono ?_
          rintro e w9' ⟨rfl, hb⟩
          have HT9 := Lib.hid (HT3.out.keep hb)
          clear hb
          go_wp2
          go_ret
          exact ⟨rfl, HT9.out.b⟩
        | some t =>
          obtain rfl := he1
          go_wp2_with fail
          refine (HAW.out _).mono ?_
          rintro e w9' ⟨rfl, hb⟩
          have HT9 := Lib.hid (HT3.out.keep hb)
          clear hb
          go_wp2
          go_ret
          exact ⟨rfl, HT9.out.b⟩
      | some s =>
        obtain rfl := he0
        go_wp2_with fail
        refine ((HBY.out _)).mono ?_
        rintro e w3' ⟨he1, hb⟩
        have HT3 := Lib.hid (HT2.out.keep hb)
        clear hb
        clear p0 p1 p2 p3 p4 q0 q1 q2 q3 q4 r0 r1 r2 r3 r4
        obtain ⟨p0, p1, p2, p3, p4⟩ := HT3.out.k.cs
        obtain ⟨q0, q1, q2, q3, q4⟩ := HT3.out.x.cs
        obtain ⟨r0, r1, r2, r3, r4⟩ := HT3.out.y.cs
        unfold BytesE at he1
        obtain ⟨t1, ht1⟩ : ∃ r, bytesF Y = r := ⟨_, rfl⟩
        rw [ht1] at he1
        have HR1 := Lib.hid ht1
        clear ht1
        cases t1 with
        | none =>
          obtain rfl := he1
          go_wp2_with fail
          refine (HAW.out _).mono ?_
          rintro e w9' ⟨rfl, hb⟩
          have HT9 := Lib.hid (HT3.out.keep hb)
          clear hb
          go_wp2
          go_ret
          exact ⟨rfl, HT9.out.b⟩
        | some t =>
          obtain rfl := he1
          have HRI := Lib.hid (rise (bytesF_is HR0.out) (bytesF_is HR1.out) HXY.out.1 HXY.out.2.1 HXY.out.2.2.1 HXY.out.2.2.2)
          obtain ⟨bl, hbl⟩ : ∃ x, Op.bytesLess s t = x := ⟨_, rfl⟩
          have HBL : Hid (bl = decide (X.n < Y.n ∨ X.n = Y.n ∧ X.m < Y.m)) := by
            show bl = _
            rw [← hbl]; exact HRI.out
          have hbl2 : Op.bytesLess (⟨s.toArray⟩ : ByteArray).toList (⟨t.toArray⟩ : ByteArray).toList = bl := by
            have e1 : (⟨s.toArray⟩ : ByteArray).toList = s := by simp
            have e2 : (⟨t.toArray⟩ : ByteArray).toList = t := by simp
            rw [e1, e2]; exact hbl
          clear HRI
          unfold st
          by_cases c1 : X.n < Y.n
          · have hb1 : bl = true := by rw [HBL.out]; simp [c1]
            subst hb1
            go_wp2_with fail
            refine (HAW.out _).mono ?_
            rintro e w9' ⟨rfl, hb⟩
            have HT9 := Lib.hid (HT3.out.keep hb)
            clear hb
            go_wp2
            go_ret
            exact ⟨by first | rfl | (simp <;> omega), HT9.out.b⟩
          · by_cases c2 : X.n = Y.n
            · by_cases c3 : X.m < Y.m
              · have hb1 : bl = true := by rw [HBL.out]; simp [c2, c3]
                subst hb1
                go_wp2_with fail
                refine (HAW.out _).mono ?_
                rintro e w9' ⟨rfl, hb⟩
                have HT9 := Lib.hid (HT3.out.keep hb)
                clear hb
                go_wp2
                go_ret
                exact ⟨by first | rfl | (simp <;> omega), HT9.out.b⟩
              · have hb1 : bl = false := by rw [HBL.out]; simp [c2]; omega
                subst hb1
                go_wp2_with fail
                refine (HAW.out _).mono ?_
                rintro e w9' ⟨rfl, hb⟩
                have HT9 := Lib.hid (HT3.out.keep hb)
                clear hb
                go_wp2
                go_ret
                exact ⟨by first | rfl | (simp <;> omega), HT9.out.b⟩
            · have hb1 : bl = false := by rw [HBL.out]; simp [c2]; omega
              subst hb1
              go_wp2_with fail
              refine (HAW.out _).mono ?_
              rintro e w9' ⟨rfl, hb⟩
              have HT9 := Lib.hid (HT3.out.keep hb)
              clear hb
              go_wp2
              go_ret
              exact ⟨by first | rfl | (simp <;> omega), HT9.out.b⟩
set_option maxRecDepth 100000 in
theorem lifted (os : Os) (started : os.Started) (H : Type) (enc : TypeId × Value → H) :
    ReturnsInHanded {} Try.checked os 7 .any (Rows.keysRiseSpec.pre6 enc Try.prog Try.f7 Rows.keysRiseRow.domain false) (Rows.keysRiseSpec.post enc Try.prog Try.f7 false true false false) := by
  refine returnsInHanded_of_change_sized (C := Try.checked) own started (by kernel_rfl) Try.func7
    (ChangeSpec.witness6 (enc := enc) (C := Try.checked) false ⟨#[], #[.agg #[.int .i64 0, .string ByteArray.empty, .string ByteArray.empty, .int .i64 0, .int .i64 0], .int .i64 0, .int .i64 0, .int .i64 0, .int .i64 0], []⟩ 8 (by kernel_rfl) (by kernel_rfl) (by kernel_rfl) (by kernel_rfl)) ?_
  intro W base args ds gs before hval0 hW hcnd hsz0 _
  have hval : ∀ (j : Nat) t v, Try.f7.params[j]? = some t → args[j]? = some v → Value.okWide Try.prog W .any base t v := hval0
  have hsz : (DataW.weightsEach Try.prog (Try.f7.params.toList ++ Rows.keysRiseSpec.plain.varTypes Try.prog) (ds ++ gs)).all (· ≤ reachBytes) = true := hsz0
  have hW' := hW
  obtain ⟨p, q, hA0, hV, rfl, hfz, hnd⟩ := hW
  have hA : DataW.TrodAll enc Try.prog W 0 (fun _ => true) true Try.f7.params.toList args.toList ds p := hA0
  rw [Try.params7] at hA hval hsz
  obtain ⟨v0, vs0, d0, ds0, p0, q0, hargs, rfl, rfl, t0, r0⟩ := trodAll_cons hA
  obtain ⟨v1, vs1, d1, ds1, p1, q1, rfl, rfl, rfl, t1, r1⟩ := trodAll_cons r0
  obtain ⟨v2, vs2, d2, ds2, p2, q2, rfl, rfl, rfl, t2, r2⟩ := trodAll_cons r1
  obtain ⟨v3, vs3, d3, ds3, p3, q3, rfl, rfl, rfl, t3, r3⟩ := trodAll_cons r2
  obtain ⟨v4, vs4, d4, ds4, p4, q4, rfl, rfl, rfl, t4, r4⟩ := trodAll_cons r3
  obtain ⟨rfl, rfl, rfl⟩ := trodAll_nil r4
  obtain rfl : args = #[v0, v1, v2, v3, v4] := by cases args; simp_all
  obtain ⟨rfl, rfl⟩ := trodVars_none hV
  have c0 := t0
  have lt0 : ∀ x ∈ p0, x.block < W.heap.size := by obtain ⟨m, hm⟩ := c0; exact DataW.trod_lt m _ _ _ hm
  obtain ⟨k0, rfl, w0⟩ := (IsK.of (hval 0 23 v0 rfl rfl) c0 (fun n hn => by
    have := List.all_eq_true.1 hsz n (DataW.weights_mem_each (j := 0) (t := 23) rfl rfl n hn)
    simpa using this)).ex
  obtain ⟨a1, rfl, rfl, rfl, w1⟩ := open_int Try.underlying3 (hval 1 3 v1 rfl rfl) t1
  obtain ⟨a2, rfl, rfl, rfl, w2⟩ := open_int Try.underlying3 (hval 2 3 v2 rfl rfl) t2
  obtain ⟨a3, rfl, rfl, rfl, w3⟩ := open_int Try.underlying3 (hval 3 3 v3 rfl rfl) t3
  obtain ⟨a4, rfl, rfl, rfl, w4⟩ := open_int Try.underlying3 (hval 4 3 v4 rfl rfl) t4
  clear hA0 hval0
  refine (walk (k0) (a1) (a2) (a3) (a4) W w0 (wf_i64 w1) (wf_i64 w2) (wf_i64 w3) (wf_i64 w4)).mono fun e W' ⟨he, bel⟩ => ?_
  subst he
  exact ⟨_, rfl, _, _, _, [], _, [], hW', trodAll_mk1 (shut_bool Try.underlying4 _), (trodAll_cons_mk (Below.trod laidOut (by kernel_rfl) (of_decide_eq_true (by kernel_rfl)) c0 bel lt0) (trodAll_cons_mk (shut_int Try.underlying3 w1) (trodAll_cons_mk (shut_int Try.underlying3 w2) (trodAll_cons_mk (shut_int Try.underlying3 w3) (trodAll_cons_mk (shut_int Try.underlying3 w4) trodAll_mk0))))), rfl, bel.frame _, fun h => by cases h⟩

theorem over : Rows.keysRiseRow.holds Try.pinned (OpenSpec.ofChange Rows.keysRiseSpec) :=
  OpenClaim.holds_of_wide 7 Try.f7 rfl rfl rfl rfl rfl rfl rfl ⟨rfl, rfl, rfl, rfl, rfl⟩ rfl rfl rfl rfl rfl (by kernel_rfl) Try.func7 (by kernel_rfl)
    (of_decide_eq_true (by kernel_rfl)) (by unfold Func.isWrapper; first | (rw [if_pos (by decide +kernel)]; kernel_rfl) | (rw [if_neg (by decide +kernel)]; exact ⟨rfl, rfl⟩))
    (fun os started H enc _ => lifted os started H enc)

/-- the statement. -/
theorem proved : Rows.KeysRiseSaid := over
#print axioms proved
end Go.Proofs.Ytlnghdldecnmgaa.keysRise
