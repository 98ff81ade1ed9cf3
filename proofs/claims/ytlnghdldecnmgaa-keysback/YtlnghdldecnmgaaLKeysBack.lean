/-
  The statement 'KeysBack' (chandlerylaw11) holds at every input: the call returns true and leaves its arguments as they were. Conditions: none beyond the row's own.
-/
import Derived.Test.YtlnghdldecnmgaaRows
import Derived.Test.YtlnghdldecnmgaaArgK
import Derived.Test.YtlnghdldecnmgaaKM
import Derived.Test.YtlnghdldecnmgaaKT
import Derived.WalkKit
import Derived.ProofKit
import Derived.OpenShut
import Derived.ChangeOld
import Derived.Below
set_option linter.unusedSimpArgs false
set_option linter.unusedVariables false
namespace Go.Proofs.Ytlnghdldecnmgaa.keysBack
open Go.ChangeShapes Go.WideShapes Go.ChangeAt Go.RowKit Go.Bs Go.Kx
open Go.ChangeMaps (open_string shut_string)

theorem own : ownKnob Try.prog.godebug = none := by kernel_rfl
theorem laidOut : laidOutB Try.prog = true := by kernel_rfl


set_option maxRecDepth 100000 in
set_option maxHeartbeats 1000000 in
theorem walk (k0 : Ky) (k1 : Ky) (a2 : List UInt8) (w : World) (w0 : KyA k0) (w1 : KyA k1) (w2 : a2.length ≤ 140737488351232) :
    Calls Try.prog 5 #[k0.val, k1.val, st a2] w fun e w' => e = .returned (.bool true) ∧ Below w.heap.size w w' := by
  have HS2 : Hid (a2.length ≤ 140737488351232) := w2
  obtain ⟨n2, hn2⟩ : ∃ n, a2.length = n := ⟨_, rfl⟩
  have HN2 := Lib.hid hn2
  have hln : ∀ W, (Builtin.len_ #[9] 3 #[.string ⟨a2.toArray⟩]).run Try.prog W = .ok (.int .i64 (n2 : Int)) W := len_st a2 n2 hn2
  have HPA : Hid (n2 ≤ 1000 → ∀ W, Calls Try.prog 17 #[.string ⟨a2.toArray⟩] W fun e w' => ParseE a2 e ∧ Below W.heap.size W w') := fun h W => Parse_any a2 W (by omega)
  have sz2 : (⟨a2.toArray⟩ : ByteArray).size = n2 := by rw [size_list, hn2]
  rw [hn2] at w2
  clear hn2
  obtain ⟨g, hg⟩ : ∃ g, w.heap.size = g := ⟨_, rfl⟩
  rw [hg]
  have HT0 := Lib.hid (K2.new w g hg k0 k1)
  obtain ⟨W2, hW2⟩ : ∃ W2, (w.alloc (.cells k0.cells 23)).alloc (.cells k1.cells 23) = W2 := ⟨_, rfl⟩
  rw [hW2] at HT0
  have HS0 := Lib.hid (fun W => small_any k0 W w0.a w0.b)
  have HS1 := Lib.hid (fun W => small_any k1 W w1.a w1.b)
  obtain ⟨s0, hs0⟩ : ∃ s0, decide (k0.a.length + k0.b.length ≤ 1000) = s0 := ⟨_, rfl⟩
  obtain ⟨s1, hs1⟩ : ∃ s1, decide (k1.a.length + k1.b.length ≤ 1000) = s1 := ⟨_, rfl⟩
  rw [hs0] at HS0
  rw [hs1] at HS1
  have HB0 : Hid (s0 = true → ∀ W, Calls Try.prog 11 #[k0.val] W fun e w' => BytesE k0 e ∧ Below W.heap.size W w') := fun h W => Bytes_any k0 W (bd_of (of_decide_eq_true (hs0.trans h)) w0.n w0.m)
  have HB1 : Hid (s1 = true → ∀ W, Calls Try.prog 11 #[k1.val] W fun e w' => BytesE k1 e ∧ Below W.heap.size W w') := fun h W => Bytes_any k1 W (bd_of (of_decide_eq_true (hs1.trans h)) w1.n w1.m)
  have HBD1 : Hid (s1 = true → Bd k1) := fun h => bd_of (of_decide_eq_true (hs1.trans h)) w1.n w1.m
  have HAW := Lib.hid (fun W => awake_any W)
  unfold Ky.cells st at hW2
  unfold Ky.val st at HS0 HS1 HB0 HB1 ⊢
  have HW2 := Lib.hid hW2
  clear hs0 hs1 hW2
  go_enter Try.func5, Try.ntmps5
  go_wp2_with fail
  rw [HW2.out]
  refine (HS0.out _).mono ?_
  rintro e w1' ⟨rfl, hb⟩
  have HT1 := Lib.hid (HT0.out.keep hb)
  clear hb
  obtain ⟨p0, p1, p2, p3, p4⟩ := HT1.out.x.cs
  obtain ⟨q0, q1, q2, q3, q4⟩ := HT1.out.y.cs
  cases s0 with
  | false =>
    go_wp2
    go_ret
    exact ⟨rfl, HT1.out.b⟩
  | true =>
    go_wp2_with fail
    refine (HS1.out _).mono ?_
    rintro e w2' ⟨rfl, hb⟩
    have HT2 := Lib.hid (HT1.out.keep hb)
    clear hb
    clear p0 p1 p2 p3 p4 q0 q1 q2 q3 q4
    obtain ⟨p0, p1, p2, p3, p4⟩ := HT2.out.x.cs
    obtain ⟨q0, q1, q2, q3, q4⟩ := HT2.out.y.cs
    cases s1 with
    | false =>
      go_wp2
      go_ret
      exact ⟨rfl, HT2.out.b⟩
    | true =>
      by_cases h2 : n2 ≤ 1000
      rotate_left
      · have h2' : 1000 < n2 := by omega
        go_wp2
        go_ret
        exact ⟨rfl, HT2.out.b⟩
      have HB0' := Lib.hid (HB0.out (by trivial))
      have HB1' := Lib.hid (HB1.out (by trivial))
      have HPA' := Lib.hid (HPA.out h2)
      clear HB0 HB1 HBD1 HPA
      go_wp2_with fail
      refine (HB0'.out _).mono ?_
      rintro e w3' ⟨he0, hb⟩
      have HT3 := Lib.hid (HT2.out.keep hb)
      clear hb
      clear p0 p1 p2 p3 p4 q0 q1 q2 q3 q4
      obtain ⟨p0, p1, p2, p3, p4⟩ := HT3.out.x.cs
      obtain ⟨q0, q1, q2, q3, q4⟩ := HT3.out.y.cs
      unfold BytesE at he0
      obtain ⟨r0, hr0⟩ : ∃ r, bytesF k0 = r := ⟨_, rfl⟩
      rw [hr0] at he0
      have HR0 := Lib.hid hr0
      clear hr0
      cases r0 with
      | none =>
        obtain rfl := he0
        unfold st
        go_wp2_with fail
        refine (HB1'.out _).mono ?_
        rintro e w4' ⟨he1, hb⟩
        have HT4 := Lib.hid (HT3.out.keep hb)
        clear hb
        clear p0 p1 p2 p3 p4 q0 q1 q2 q3 q4
        obtain ⟨p0, p1, p2, p3, p4⟩ := HT4.out.x.cs
        obtain ⟨q0, q1, q2, q3, q4⟩ := HT4.out.y.cs
        unfold BytesE at he1
        obtain ⟨r1, hr1⟩ : ∃ r, bytesF k1 = r := ⟨_, rfl⟩
        rw [hr1] at he1
        have HR1 := Lib.hid hr1
        clear hr1
        cases r1 with
        | none =>
          obtain rfl := he1
          go_wp2_with fail
          refine (HPA'.out _).mono ?_
          rintro e w5' ⟨hep, hb⟩
          have HT5 := Lib.hid (HT4.out.keep hb)
          clear hb
          clear p0 p1 p2 p3 p4 q0 q1 q2 q3 q4
          obtain ⟨p0, p1, p2, p3, p4⟩ := HT5.out.x.cs
          obtain ⟨q0, q1, q2, q3, q4⟩ := HT5.out.y.cs
          unfold ParseE at hep
          obtain ⟨rp, hrp⟩ : ∃ r, parseF a2 = r := ⟨_, rfl⟩
          rw [hrp] at hep
          have HRP := Lib.hid hrp
          clear hrp
          cases rp with
          | none =>
            obtain rfl := hep
            simp only [noneK, Ky.val, st]
            clear p0 p1 p2 p3 p4 q0 q1 q2 q3 q4
            go_wp2_with fail
            refine (HAW.out _).mono ?_
            rintro e w9' ⟨rfl, hb⟩
            have HT9 : Hid (Below g w w9') := HT5.out.b.trans (((Below.refl _ _).alloc (by have := HT5.out.s; omega) _).trans (hb.mono (by have := HT5.out.s; simp; omega)))
            clear hb
            go_wp2
            go_ret
            exact ⟨rfl, HT9.out⟩
          | some kp =>
            obtain rfl := hep
            have hip := (parseF_iff _ _).1 HRP.out
            have HBP := Lib.hid (fun W => Bytes_any kp W hip.bd)
            unfold BytesE at HBP
            rw [hip.bytes] at HBP
            unfold Ky.val st at HBP
            simp only [Ky.val, st]
            clear p0 p1 p2 p3 p4 q0 q1 q2 q3 q4 hip
            go_wp2_with fail
            refine (HBP.out _).mono ?_
            rintro e w8' ⟨rfl, hb⟩
            have HT8 : Hid (Below g w w8' ∧ g ≤ w8'.heap.size) := ⟨HT5.out.b.trans (((Below.refl _ _).alloc (by have := HT5.out.s; omega) _).trans (hb.mono (by have := HT5.out.s; simp; omega))), Nat.le_trans (by have := HT5.out.s; simp; omega) hb.size⟩
            clear hb
            go_wp2_with fail
            refine (HAW.out _).mono ?_
            rintro e w9' ⟨rfl, hb⟩
            have HT9 : Hid (Below g w w9') := HT8.out.1.trans (hb.mono HT8.out.2)
            clear hb
            go_wp2
            go_ret
            exact ⟨rfl, HT9.out⟩
        | some t =>
          obtain rfl := he1
          unfold st
          go_wp2_with fail
          refine (HPA'.out _).mono ?_
          rintro e w5' ⟨hep, hb⟩
          have HT5 := Lib.hid (HT4.out.keep hb)
          clear hb
          clear p0 p1 p2 p3 p4 q0 q1 q2 q3 q4
          obtain ⟨p0, p1, p2, p3, p4⟩ := HT5.out.x.cs
          obtain ⟨q0, q1, q2, q3, q4⟩ := HT5.out.y.cs
          unfold ParseE at hep
          obtain ⟨rp, hrp⟩ : ∃ r, parseF a2 = r := ⟨_, rfl⟩
          rw [hrp] at hep
          have HRP := Lib.hid hrp
          clear hrp
          cases rp with
          | none =>
            obtain rfl := hep
            simp only [noneK, Ky.val, st]
            clear p0 p1 p2 p3 p4 q0 q1 q2 q3 q4
            go_wp2_with fail
            refine (HAW.out _).mono ?_
            rintro e w9' ⟨rfl, hb⟩
            have HT9 : Hid (Below g w w9') := HT5.out.b.trans (((Below.refl _ _).alloc (by have := HT5.out.s; omega) _).trans (hb.mono (by have := HT5.out.s; simp; omega)))
            clear hb
            go_wp2
            go_ret
            exact ⟨rfl, HT9.out⟩
          | some kp =>
            obtain rfl := hep
            have hip := (parseF_iff _ _).1 HRP.out
            have HBP := Lib.hid (fun W => Bytes_any kp W hip.bd)
            unfold BytesE at HBP
            rw [hip.bytes] at HBP
            unfold Ky.val st at HBP
            simp only [Ky.val, st]
            clear p0 p1 p2 p3 p4 q0 q1 q2 q3 q4 hip
            go_wp2_with fail
            refine (HBP.out _).mono ?_
            rintro e w8' ⟨rfl, hb⟩
            have HT8 : Hid (Below g w w8' ∧ g ≤ w8'.heap.size) := ⟨HT5.out.b.trans (((Below.refl _ _).alloc (by have := HT5.out.s; omega) _).trans (hb.mono (by have := HT5.out.s; simp; omega))), Nat.le_trans (by have := HT5.out.s; simp; omega) hb.size⟩
            clear hb
            go_wp2_with fail
            refine (HAW.out _).mono ?_
            rintro e w9' ⟨rfl, hb⟩
            have HT9 : Hid (Below g w w9') := HT8.out.1.trans (hb.mono HT8.out.2)
            clear hb
            go_wp2
            go_ret
            exact ⟨rfl, HT9.out⟩
      | some s =>
        obtain rfl := he0
        go_wp2_with fail
        refine (HB1'.out _).mono ?_
        rintro e w4' ⟨he1, hb⟩
        have HT4 := Lib.hid (HT3.out.keep hb)
        clear hb
        clear p0 p1 p2 p3 p4 q0 q1 q2 q3 q4
        obtain ⟨p0, p1, p2, p3, p4⟩ := HT4.out.x.cs
        obtain ⟨q0, q1, q2, q3, q4⟩ := HT4.out.y.cs
        unfold BytesE at he1
        obtain ⟨r1, hr1⟩ : ∃ r, bytesF k1 = r := ⟨_, rfl⟩
        rw [hr1] at he1
        have HR1 := Lib.hid hr1
        clear hr1
        cases r1 with
        | none =>
          obtain rfl := he1
          have i0 := bytesF_is HR0.out
          have HPS := Lib.hid (fun W => Parse_any s W (by have := i0.len.2; omega))
          unfold ParseE at HPS
          rw [(parseF_iff _ _).2 i0] at HPS
          unfold Ky.val st at HPS
          clear i0
          unfold st
          go_wp2_with fail
          refine (HPS.out _).mono ?_
          rintro e w5' ⟨rfl, hb⟩
          have HT5 := Lib.hid (HT4.out.keep hb)
          have HT6 : Hid (K2 g k0 k1 w (w5'.alloc (.cells #[.int .i64 k0.kind, .string ⟨k0.a.toArray⟩, .string ⟨k0.b.toArray⟩, .int .i64 k0.n, .int .i64 k0.m] 23))) := HT5.out.keep ((Below.refl _ _).alloc (Nat.le_refl _) _)
          have hlt : g < w5'.heap.size := HT5.out.x.lt
          have hlt2 : g + 1 < w5'.heap.size := HT5.out.y.lt
          clear hb p0 p1 p2 p3 p4 q0 q1 q2 q3 q4
          obtain ⟨p0, p1, p2, p3, p4⟩ := HT5.out.x.cs
          obtain ⟨q0, q1, q2, q3, q4⟩ := HT5.out.y.cs
          have hcm : ∀ W, (binOp BinOp.neq 23 (.agg #[.int .i64 k0.kind, .string ⟨k0.a.toArray⟩, .string ⟨k0.b.toArray⟩, .int .i64 k0.n, .int .i64 k0.m]) (.agg #[.int .i64 k0.kind, .string ⟨k0.a.toArray⟩, .string ⟨k0.b.toArray⟩, .int .i64 k0.n, .int .i64 k0.m])).run Try.prog W = .ok (.bool false) W := fun W => by
            have := neq_ky k0 k0 W
            simpa [Ky.val, st] using this
          go_wp2_with fail
          refine (HPA'.out _).mono ?_
          rintro e w7' ⟨hep, hb⟩
          clear hlt hlt2 hcm
          have HT7 := Lib.hid (HT6.out.keep hb)
          clear hb
          clear p0 p1 p2 p3 p4 q0 q1 q2 q3 q4
          obtain ⟨p0, p1, p2, p3, p4⟩ := HT7.out.x.cs
          obtain ⟨q0, q1, q2, q3, q4⟩ := HT7.out.y.cs
          unfold ParseE at hep
          obtain ⟨rp, hrp⟩ : ∃ r, parseF a2 = r := ⟨_, rfl⟩
          rw [hrp] at hep
          have HRP := Lib.hid hrp
          clear hrp
          cases rp with
          | none =>
            obtain rfl := hep
            simp only [noneK, Ky.val, st]
            clear p0 p1 p2 p3 p4 q0 q1 q2 q3 q4
            go_wp2_with fail
            refine (HAW.out _).mono ?_
            rintro e w9' ⟨rfl, hb⟩
            have HT9 : Hid (Below g w w9') := HT7.out.b.trans (((Below.refl _ _).alloc (by have := HT7.out.s; omega) _).trans (hb.mono (by have := HT7.out.s; simp; omega)))
            clear hb
            go_wp2
            go_ret
            exact ⟨rfl, HT9.out⟩
          | some kp =>
            obtain rfl := hep
            have hip := (parseF_iff _ _).1 HRP.out
            have HBP := Lib.hid (fun W => Bytes_any kp W hip.bd)
            unfold BytesE at HBP
            rw [hip.bytes] at HBP
            unfold Ky.val st at HBP
            simp only [Ky.val, st]
            clear p0 p1 p2 p3 p4 q0 q1 q2 q3 q4 hip
            go_wp2_with fail
            refine (HBP.out _).mono ?_
            rintro e w8' ⟨rfl, hb⟩
            have HT8 : Hid (Below g w w8' ∧ g ≤ w8'.heap.size) := ⟨HT7.out.b.trans (((Below.refl _ _).alloc (by have := HT7.out.s; omega) _).trans (hb.mono (by have := HT7.out.s; simp; omega))), Nat.le_trans (by have := HT7.out.s; simp; omega) hb.size⟩
            clear hb
            go_wp2_with fail
            refine (HAW.out _).mono ?_
            rintro e w9' ⟨rfl, hb⟩
            have HT9 : Hid (Below g w w9') := HT8.out.1.trans (hb.mono HT8.out.2)
            clear hb
            go_wp2
            go_ret
            exact ⟨rfl, HT9.out⟩
        | some t =>
          obtain rfl := he1
          have i0 := bytesF_is HR0.out
          have HPS := Lib.hid (fun W => Parse_any s W (by have := i0.len.2; omega))
          unfold ParseE at HPS
          rw [(parseF_iff _ _).2 i0] at HPS
          unfold Ky.val st at HPS
          clear i0
          unfold st
          have HEQ : Hid ((s == t) = decide (k0 = k1)) := by
            show (s == t) = decide (k0 = k1)
            by_cases e : k0 = k1
            · subst e
              have e2 := HR0.out.symm.trans HR1.out
              injection e2 with e2
              subst e2; simp
            · have : s ≠ t := fun h => e ((bytesF_is HR0.out).inj (h ▸ bytesF_is HR1.out))
              simp [e, this]
          go_wp2_with fail
          refine (HPS.out _).mono ?_
          rintro e w5' ⟨rfl, hb⟩
          have HT5 := Lib.hid (HT4.out.keep hb)
          have HT6 : Hid (K2 g k0 k1 w (w5'.alloc (.cells #[.int .i64 k0.kind, .string ⟨k0.a.toArray⟩, .string ⟨k0.b.toArray⟩, .int .i64 k0.n, .int .i64 k0.m] 23))) := HT5.out.keep ((Below.refl _ _).alloc (Nat.le_refl _) _)
          have hlt : g < w5'.heap.size := HT5.out.x.lt
          have hlt2 : g + 1 < w5'.heap.size := HT5.out.y.lt
          clear hb p0 p1 p2 p3 p4 q0 q1 q2 q3 q4
          obtain ⟨p0, p1, p2, p3, p4⟩ := HT5.out.x.cs
          obtain ⟨q0, q1, q2, q3, q4⟩ := HT5.out.y.cs
          have hcm : ∀ W, (binOp BinOp.neq 23 (.agg #[.int .i64 k0.kind, .string ⟨k0.a.toArray⟩, .string ⟨k0.b.toArray⟩, .int .i64 k0.n, .int .i64 k0.m]) (.agg #[.int .i64 k0.kind, .string ⟨k0.a.toArray⟩, .string ⟨k0.b.toArray⟩, .int .i64 k0.n, .int .i64 k0.m])).run Try.prog W = .ok (.bool false) W := fun W => by
            have := neq_ky k0 k0 W
            simpa [Ky.val, st] using this
          have hce : ∀ W, (binOp BinOp.eql 23 (.agg #[.int .i64 k0.kind, .string ⟨k0.a.toArray⟩, .string ⟨k0.b.toArray⟩, .int .i64 k0.n, .int .i64 k0.m]) (.agg #[.int .i64 k1.kind, .string ⟨k1.a.toArray⟩, .string ⟨k1.b.toArray⟩, .int .i64 k1.n, .int .i64 k1.m])).run Try.prog W = .ok (.bool (decide (k0 = k1))) W := fun W => eql_ky k0 k1 W
          obtain ⟨bq, hbq⟩ : ∃ b, decide (k0 = k1) = b := ⟨_, rfl⟩
          rw [hbq] at HEQ hce
          have hEQ := HEQ.out
          clear hbq
          cases bq with
          | false =>
            go_wp2_with fail
            refine (HPA'.out _).mono ?_
            rintro e w7' ⟨hep, hb⟩
            clear hlt hlt2 hcm
            have HT7 := Lib.hid (HT6.out.keep hb)
            clear hb
            clear p0 p1 p2 p3 p4 q0 q1 q2 q3 q4
            obtain ⟨p0, p1, p2, p3, p4⟩ := HT7.out.x.cs
            obtain ⟨q0, q1, q2, q3, q4⟩ := HT7.out.y.cs
            unfold ParseE at hep
            obtain ⟨rp, hrp⟩ : ∃ r, parseF a2 = r := ⟨_, rfl⟩
            rw [hrp] at hep
            have HRP := Lib.hid hrp
            clear hrp
            cases rp with
            | none =>
              obtain rfl := hep
              simp only [noneK, Ky.val, st]
              clear p0 p1 p2 p3 p4 q0 q1 q2 q3 q4
              go_wp2_with fail
              refine (HAW.out _).mono ?_
              rintro e w9' ⟨rfl, hb⟩
              have HT9 : Hid (Below g w w9') := HT7.out.b.trans (((Below.refl _ _).alloc (by have := HT7.out.s; omega) _).trans (hb.mono (by have := HT7.out.s; simp; omega)))
              clear hb
              go_wp2
              go_ret
              exact ⟨rfl, HT9.out⟩
            | some kp =>
              obtain rfl := hep
              have hip := (parseF_iff _ _).1 HRP.out
              have HBP := Lib.hid (fun W => Bytes_any kp W hip.bd)
              unfold BytesE at HBP
              rw [hip.bytes] at HBP
              unfold Ky.val st at HBP
              simp only [Ky.val, st]
              clear p0 p1 p2 p3 p4 q0 q1 q2 q3 q4 hip
              go_wp2_with fail
              refine (HBP.out _).mono ?_
              rintro e w8' ⟨rfl, hb⟩
              have HT8 : Hid (Below g w w8' ∧ g ≤ w8'.heap.size) := ⟨HT7.out.b.trans (((Below.refl _ _).alloc (by have := HT7.out.s; omega) _).trans (hb.mono (by have := HT7.out.s; simp; omega))), Nat.le_trans (by have := HT7.out.s; simp; omega) hb.size⟩
              clear hb
              go_wp2_with fail
              refine (HAW.out _).mono ?_
              rintro e w9' ⟨rfl, hb⟩
              have HT9 : Hid (Below g w w9') := HT8.out.1.trans (hb.mono HT8.out.2)
              clear hb
              go_wp2
              go_ret
              exact ⟨rfl, HT9.out⟩
          | true =>
            go_wp2_with fail
            refine (HPA'.out _).mono ?_
            rintro e w7' ⟨hep, hb⟩
            clear hlt hlt2 hcm
            have HT7 := Lib.hid (HT6.out.keep hb)
            clear hb
            clear p0 p1 p2 p3 p4 q0 q1 q2 q3 q4
            obtain ⟨p0, p1, p2, p3, p4⟩ := HT7.out.x.cs
            obtain ⟨q0, q1, q2, q3, q4⟩ := HT7.out.y.cs
            unfold ParseE at hep
            obtain ⟨rp, hrp⟩ : ∃ r, parseF a2 = r := ⟨_, rfl⟩
            rw [hrp] at hep
            have HRP := Lib.hid hrp
            clear hrp
            cases rp with
            | none =>
              obtain rfl := hep
              simp only [noneK, Ky.val, st]
              clear p0 p1 p2 p3 p4 q0 q1 q2 q3 q4
              go_wp2_with fail
              refine (HAW.out _).mono ?_
              rintro e w9' ⟨rfl, hb⟩
              have HT9 : Hid (Below g w w9') := HT7.out.b.trans (((Below.refl _ _).alloc (by have := HT7.out.s; omega) _).trans (hb.mono (by have := HT7.out.s; simp; omega)))
              clear hb
              go_wp2
              go_ret
              exact ⟨rfl, HT9.out⟩
            | some kp =>
              obtain rfl := hep
              have hip := (parseF_iff _ _).1 HRP.out
              have HBP := Lib.hid (fun W => Bytes_any kp W hip.bd)
              unfold BytesE at HBP
              rw [hip.bytes] at HBP
              unfold Ky.val st at HBP
              simp only [Ky.val, st]
              clear p0 p1 p2 p3 p4 q0 q1 q2 q3 q4 hip
              go_wp2_with fail
              refine (HBP.out _).mono ?_
              rintro e w8' ⟨rfl, hb⟩
              have HT8 : Hid (Below g w w8' ∧ g ≤ w8'.heap.size) := ⟨HT7.out.b.trans (((Below.refl _ _).alloc (by have := HT7.out.s; omega) _).trans (hb.mono (by have := HT7.out.s; simp; omega))), Nat.le_trans (by have := HT7.out.s; simp; omega) hb.size⟩
              clear hb
              go_wp2_with fail
              refine (HAW.out _).mono ?_
              rintro e w9' ⟨rfl, hb⟩
              have HT9 : Hid (Below g w w9') := HT8.out.1.trans (hb.mono HT8.out.2)
              clear hb
              go_wp2
              go_ret
              exact ⟨rfl, HT9.out⟩
set_option maxRecDepth 100000 in
theorem lifted (os : Os) (started : os.Started) (H : Type) (enc : TypeId × Value → H) :
    ReturnsInHanded {} Try.checked os 5 .any (Rows.keysBackSpec.pre6 enc Try.prog Try.f5 Rows.keysBackRow.domain false) (Rows.keysBackSpec.post enc Try.prog Try.f5 false true false false) := by
  refine returnsInHanded_of_change_sized (C := Try.checked) own started (by kernel_rfl) Try.func5
    (ChangeSpec.witness6 (enc := enc) (C := Try.checked) false ⟨#[], #[.agg #[.int .i64 0, .string ByteArray.empty, .string ByteArray.empty, .int .i64 0, .int .i64 0], .agg #[.int .i64 0, .string ByteArray.empty, .string ByteArray.empty, .int .i64 0, .int .i64 0], .string ByteArray.empty], []⟩ 8 (by kernel_rfl) (by kernel_rfl) (by kernel_rfl) (by kernel_rfl)) ?_
  intro W base args ds gs before hval0 hW hcnd hsz0 _
  have hval : ∀ (j : Nat) t v, Try.f5.params[j]? = some t → args[j]? = some v → Value.okWide Try.prog W .any base t v := hval0
  have hsz : (DataW.weightsEach Try.prog (Try.f5.params.toList ++ Rows.keysBackSpec.plain.varTypes Try.prog) (ds ++ gs)).all (· ≤ reachBytes) = true := hsz0
  have hW' := hW
  obtain ⟨p, q, hA0, hV, rfl, hfz, hnd⟩ := hW
  have hA : DataW.TrodAll enc Try.prog W 0 (fun _ => true) true Try.f5.params.toList args.toList ds p := hA0
  rw [Try.params5] at hA hval hsz
  obtain ⟨v0, vs0, d0, ds0, p0, q0, hargs, rfl, rfl, t0, r0⟩ := trodAll_cons hA
  obtain ⟨v1, vs1, d1, ds1, p1, q1, rfl, rfl, rfl, t1, r1⟩ := trodAll_cons r0
  obtain ⟨v2, vs2, d2, ds2, p2, q2, rfl, rfl, rfl, t2, r2⟩ := trodAll_cons r1
  obtain ⟨rfl, rfl, rfl⟩ := trodAll_nil r2
  obtain rfl : args = #[v0, v1, v2] := by cases args; simp_all
  obtain ⟨rfl, rfl⟩ := trodVars_none hV
  have c0 := t0
  have lt0 : ∀ x ∈ p0, x.block < W.heap.size := by obtain ⟨m, hm⟩ := c0; exact DataW.trod_lt m _ _ _ hm
  obtain ⟨k0, rfl, w0⟩ := (IsK.of (hval 0 23 v0 rfl rfl) c0 (fun n hn => by
    have := List.all_eq_true.1 hsz n (DataW.weights_mem_each (j := 0) (t := 23) rfl rfl n hn)
    simpa using this)).ex
  have c1 := t1
  have lt1 : ∀ x ∈ p1, x.block < W.heap.size := by obtain ⟨m, hm⟩ := c1; exact DataW.trod_lt m _ _ _ hm
  obtain ⟨k1, rfl, w1⟩ := (IsK.of (hval 1 23 v1 rfl rfl) c1 (fun n hn => by
    have := List.all_eq_true.1 hsz n (DataW.weights_mem_each (j := 1) (t := 23) rfl rfl n hn)
    simpa using this)).ex
  obtain ⟨a2, rfl, rfl, rfl, wm2⟩ := open_string Try.underlying9 (hval 2 9 v2 rfl rfl) t2
  have w2 : a2.data.toList.length ≤ 140737488351232 := by
    have := sized_string hsz (j := 2) (t := 9) rfl rfl
    simpa [reach_eq] using this
  clear hA0 hval0
  refine (walk (k0) (k1) (a2.data.toList) W w0 w1 w2).mono fun e W' ⟨he, bel⟩ => ?_
  subst he
  exact ⟨_, rfl, _, _, _, [], _, [], hW', trodAll_mk1 (shut_bool Try.underlying4 _), (trodAll_cons_mk (Below.trod laidOut (by kernel_rfl) (of_decide_eq_true (by kernel_rfl)) c0 bel lt0) (trodAll_cons_mk (Below.trod laidOut (by kernel_rfl) (of_decide_eq_true (by kernel_rfl)) c1 bel lt1) (trodAll_cons_mk (shut_string Try.underlying9 wm2) trodAll_mk0))), rfl, bel.frame _, fun h => by cases h⟩

theorem over : Rows.keysBackRow.holds Try.pinned (OpenSpec.ofChange Rows.keysBackSpec) :=
  OpenClaim.holds_of_wide 5 Try.f5 rfl rfl rfl rfl rfl rfl rfl ⟨rfl, rfl, rfl, rfl, rfl⟩ rfl rfl rfl rfl rfl (by kernel_rfl) Try.func5 (by kernel_rfl)
    (of_decide_eq_true (by kernel_rfl)) (by unfold Func.isWrapper; first | (rw [if_pos (by decide +kernel)]; kernel_rfl) | (rw [if_neg (by decide +kernel)]; exact ⟨rfl, rfl⟩))
    (fun os started H enc _ => lifted os started H enc)

/-- the statement. -/
theorem proved : Rows.KeysBackSaid := over
#print axioms proved
end Go.Proofs.Ytlnghdldecnmgaa.keysBack
