/-
  The statement 'KeysLetters' (chandlerylaw11) holds at every input: the call returns true and leaves its arguments as they were. Conditions: none beyond the row's own.
-/
import Derived.Test.YtlnghdldecnmgaaRows
import Derived.Test.YtlnghdldecnmgaaArgK
import Derived.Test.YtlnghdldecnmgaaKT
import Derived.WalkKit
import Derived.ProofKit
import Derived.OpenShut
import Derived.ChangeOld
import Derived.Below
set_option linter.unusedSimpArgs false
set_option linter.unusedVariables false
namespace Go.Proofs.Ytlnghdldecnmgaa.keysLetters
open Go.ChangeShapes Go.WideShapes Go.ChangeAt Go.RowKit Go.Bs Go.Kx
open Go.ChangeMaps (open_string shut_string)

theorem own : ownKnob Try.prog.godebug = none := by kernel_rfl
theorem laidOut : laidOutB Try.prog = true := by kernel_rfl


set_option maxRecDepth 100000 in
set_option maxHeartbeats 4000000 in
theorem walk (k0 : Ky) (k1 : Ky) (w : World) (w0 : KyA k0) (w1 : KyA k1) :
    Calls Try.prog 8 #[k0.val, k1.val] w fun e w' => e = .returned (.bool true) ∧ Below w.heap.size w w' := by
  obtain ⟨g, hg⟩ : ∃ g, w.heap.size = g := ⟨_, rfl⟩
  rw [hg]
  have HT0 := Lib.hid (K2.new w g hg k0 k1)
  obtain ⟨W2, hW2⟩ : ∃ W2, (w.alloc (.cells k0.cells 23)).alloc (.cells k1.cells 23) = W2 := ⟨_, rfl⟩
  rw [hW2] at HT0
  have HS0 := Lib.hid (fun W => small_any k0 W w0.a w0.b)
  have HS1 := Lib.hid (fun W => small_any k1 W w1.a w1.b)
  obtain ⟨s0, hs0⟩ : ∃ s0, decide (k0.a.length + k0.b.length ≤ 1000) = s0 := ⟨_, rfl⟩
  obtain ⟨s1, hs1⟩ : ∃ s1, decide (k1.a.length + k1.b.length ≤ 1000) = s1 := ⟨_, rfl⟩
  rw [hs0] at HS0
  rw [hs1] at HS1
  have HB0 : Hid (s0 = true → ∀ W, Calls Try.prog 11 #[k0.val] W fun e w' => BytesE k0 e ∧ Below W.heap.size W w') := fun h W => Bytes_any k0 W (bd_of (of_decide_eq_true (hs0.trans h)) w0.n w0.m)
  have HB1 : Hid (s1 = true → ∀ W, Calls Try.prog 11 #[k1.val] W fun e w' => BytesE k1 e ∧ Below W.heap.size W w') := fun h W => Bytes_any k1 W (bd_of (of_decide_eq_true (hs1.trans h)) w1.n w1.m)
  have HBD1 : Hid (s1 = true → Bd k1) := fun h => bd_of (of_decide_eq_true (hs1.trans h)) w1.n w1.m
  have HAW := Lib.hid (fun W => awake_any W)
  unfold Ky.cells st at hW2
  unfold Ky.val st at HS0 HS1 HB0 HB1 ⊢
  have HW2 := Lib.hid hW2
  clear hs0 hs1 hW2
  go_enter Try.func8, Try.ntmps8
  go_wp2_with fail
  rw [HW2.out]
  refine (HS0.out _).mono ?_
  rintro e w1' ⟨rfl, hb⟩
  have HT1 := Lib.hid (HT0.out.keep hb)
  clear hb
  obtain ⟨p0, p1, p2, p3, p4⟩ := HT1.out.x.cs
  obtain ⟨q0, q1, q2, q3, q4⟩ := HT1.out.y.cs
  cases s0 with
  | false =>
    go_wp2
    go_ret
    exact ⟨rfl, HT1.out.b⟩
  | true =>
    go_wp2_with fail
    refine (HS1.out _).mono ?_
    rintro e w2' ⟨rfl, hb⟩
    have HT2 := Lib.hid (HT1.out.keep hb)
    clear hb
    clear p0 p1 p2 p3 p4 q0 q1 q2 q3 q4
    obtain ⟨p0, p1, p2, p3, p4⟩ := HT2.out.x.cs
    obtain ⟨q0, q1, q2, q3, q4⟩ := HT2.out.y.cs
    cases s1 with
    | false =>
      go_wp2
      go_ret
      exact ⟨rfl, HT2.out.b⟩
    | true =>
      have HB0' := Lib.hid (HB0.out (by trivial))
      have HB1' := Lib.hid (HB1.out (by trivial))
      clear HB0 HB1 HBD1
      go_wp2_with fail
      refine (HB0'.out _).mono ?_
      rintro e w3' ⟨he0, hb⟩
      have HT3 := Lib.hid (HT2.out.keep hb)
      clear hb
      clear p0 p1 p2 p3 p4 q0 q1 q2 q3 q4
      obtain ⟨p0, p1, p2, p3, p4⟩ := HT3.out.x.cs
      obtain ⟨q0, q1, q2, q3, q4⟩ := HT3.out.y.cs
      unfold BytesE at he0
      obtain ⟨r0, hr0⟩ : ∃ r, bytesF k0 = r := ⟨_, rfl⟩
      rw [hr0] at he0
      have HR0 := Lib.hid hr0
      clear hr0
      cases r0 with
      | none =>
        obtain rfl := he0
        unfold st
        go_wp2_with fail
        refine (HB1'.out _).mono ?_
        rintro e w4' ⟨he1, hb⟩
        have HT4 := Lib.hid (HT3.out.keep hb)
        clear hb
        clear p0 p1 p2 p3 p4 q0 q1 q2 q3 q4
        obtain ⟨p0, p1, p2, p3, p4⟩ := HT4.out.x.cs
        obtain ⟨q0, q1, q2, q3, q4⟩ := HT4.out.y.cs
        unfold BytesE at he1
        obtain ⟨r1, hr1⟩ : ∃ r, bytesF k1 = r := ⟨_, rfl⟩
        rw [hr1] at he1
        have HR1 := Lib.hid hr1
        clear hr1
        cases r1 with
        | none =>
          obtain rfl := he1
          go_wp2_with fail
          refine (HAW.out _).mono ?_
          rintro e w9' ⟨rfl, hb⟩
          have HT9 := Lib.hid (HT4.out.keep hb)
          clear hb
          go_wp2
          go_ret
          exact ⟨rfl, HT9.out.b⟩
        | some t =>
          obtain rfl := he1
          go_wp2_with fail
          refine (HAW.out _).mono ?_
          rintro e w9' ⟨rfl, hb⟩
          have HT9 := Lib.hid (HT4.out.keep hb)
          clear hb
          go_wp2
          go_ret
          exact ⟨rfl, HT9.out.b⟩
      | some s =>
        obtain rfl := he0
        go_wp2_with fail
        refine (HB1'.out _).mono ?_
        rintro e w4' ⟨he1, hb⟩
        have HT4 := Lib.hid (HT3.out.keep hb)
        clear hb
        clear p0 p1 p2 p3 p4 q0 q1 q2 q3 q4
        obtain ⟨p0, p1, p2, p3, p4⟩ := HT4.out.x.cs
        obtain ⟨q0, q1, q2, q3, q4⟩ := HT4.out.y.cs
        unfold BytesE at he1
        obtain ⟨r1, hr1⟩ : ∃ r, bytesF k1 = r := ⟨_, rfl⟩
        rw [hr1] at he1
        have HR1 := Lib.hid hr1
        clear hr1
        cases r1 with
        | none =>
          obtain rfl := he1
          unfold st
          go_wp2_with fail
          refine (HAW.out _).mono ?_
          rintro e w9' ⟨rfl, hb⟩
          have HT9 := Lib.hid (HT4.out.keep hb)
          clear hb
          go_wp2
          go_ret
          exact ⟨rfl, HT9.out.b⟩
        | some t =>
          obtain rfl := he1
          have i0 := bytesF_is HR0.out
          have i1 := bytesF_is HR1.out
          obtain ⟨u0, hu0⟩ := i0.head
          obtain ⟨u1, hu1⟩ := i1.head
          have hk0 := i0.kind
          have hk1 := i1.kind
          have l0 := i0.len.2
          have l1 := i1.len.2
          have hx0 : ∀ W, (Instr.index 9 (.string ⟨s.toArray⟩) (.int .i64 0)).run Try.prog W = .ok (B (letterOf k0.kind)) W := idx_st s 0 _ (by have := i0.len.1; omega) (by rw [hu0]; rfl)
          have hx1 : ∀ W, (Instr.index 9 (.string ⟨t.toArray⟩) (.int .i64 0)).run Try.prog W = .ok (B (letterOf k1.kind)) W := idx_st t 0 _ (by have := i1.len.1; omega) (by rw [hu1]; rfl)
          have n0 : (s == ([] : List UInt8)) = false := by rw [hu0]; rfl
          have n0' : (([] : List UInt8) == s) = false := by rw [hu0]; rfl
          have n1 : (t == ([] : List UInt8)) = false := by rw [hu1]; rfl
          have n1' : (([] : List UInt8) == t) = false := by rw [hu1]; rfl
          have HLE := Lib.hid (fun hk he => Is.short i0 i1 hk he)
          have sz0 : (⟨s.toArray⟩ : ByteArray).size = s.length := size_list s
          have sz1 : (⟨t.toArray⟩ : ByteArray).size = t.length := size_list t
          have HINJ := Lib.hid (fun h => letterOf_inj hk0 hk1 h)
          obtain ⟨A0, hA0⟩ : ∃ x, letterOf k0.kind = x := ⟨_, rfl⟩
          obtain ⟨A1, hA1⟩ : ∃ x, letterOf k1.kind = x := ⟨_, rfl⟩
          rw [hA0] at hx0
          rw [hA1] at hx1
          have HA := Lib.hid (And.intro hA0 hA1)
          have hdr := HT4.out.x.cs
          clear i0 i1 hu0 hu1 hA0 hA1 hdr
          unfold st
          by_cases hkk : k0.kind = k1.kind
          · have hAA : A0 = A1 := by rw [← HA.out.1, ← HA.out.2, hkk]
            subst hAA
            obtain ⟨kd, hkd⟩ : ∃ kd, k1.kind = kd := ⟨_, rfl⟩
            have HKD : Hid (k0.kind = kd ∧ k1.kind = kd) := ⟨hkk.trans hkd, hkd⟩
            rw [hkk, hkd] at p0
            rw [hkd] at q0
            have HT5 : Hid (∀ c, Below g w (w4'.drewN c)) := fun c => below_drewN HT4.out.b c
            have HT6 : Hid (∀ c, K2 g k0 k1 w (w4'.drewN c)) := fun c => HT4.out.keep (below_drewN (Below.refl _ _) c)
            have HX := Lib.hid (And.intro hx0 hx1)
            clear hkk hkd HINJ
            go_wp2
            go_quiet (fail)
            clear hx0 hx1
            by_cases e1 : kd = 1 ∨ kd = 2 ∨ kd = 3
            · have hle : s.length = t.length := HLE.out (HKD.out.1.trans HKD.out.2.symm) (by rw [HKD.out.1]; exact e1)
              rw [hle] at sz0
              have hll0 := len_st s _ hle
              have hll1 := len_st t _ rfl
              clear hle HLE
              rcases e1 with rfl | rfl | rfl
              · go_wp2_with fail
                refine (HAW.out _).mono ?_
                rintro e w9' ⟨rfl, hb⟩
                have HT9 := Lib.hid ((HT6.out nq).keep hb)
                clear hb p0 p1 p2 p3 p4 q0 q1 q2 q3 q4
                obtain ⟨p0, p1, p2, p3, p4⟩ := HT9.out.x.cs
                obtain ⟨q0, q1, q2, q3, q4⟩ := HT9.out.y.cs
                rw [HKD.out.1] at p0
                rw [HKD.out.2] at q0
                go_wp2
                go_ret
                exact ⟨rfl, HT9.out.b⟩
              · go_wp2_with fail
                refine (HAW.out _).mono ?_
                rintro e w9' ⟨rfl, hb⟩
                have HT9 := Lib.hid ((HT6.out nq).keep hb)
                clear hb p0 p1 p2 p3 p4 q0 q1 q2 q3 q4
                obtain ⟨p0, p1, p2, p3, p4⟩ := HT9.out.x.cs
                obtain ⟨q0, q1, q2, q3, q4⟩ := HT9.out.y.cs
                rw [HKD.out.1] at p0
                rw [HKD.out.2] at q0
                go_wp2
                go_ret
                exact ⟨rfl, HT9.out.b⟩
              · go_wp2_with fail
                refine (HAW.out _).mono ?_
                rintro e w9' ⟨rfl, hb⟩
                have HT9 := Lib.hid ((HT6.out nq).keep hb)
                clear hb p0 p1 p2 p3 p4 q0 q1 q2 q3 q4
                obtain ⟨p0, p1, p2, p3, p4⟩ := HT9.out.x.cs
                obtain ⟨q0, q1, q2, q3, q4⟩ := HT9.out.y.cs
                rw [HKD.out.1] at p0
                rw [HKD.out.2] at q0
                go_wp2
                go_ret
                exact ⟨rfl, HT9.out.b⟩
            · have e2 : ¬ kd = 1 := fun h => e1 (.inl h)
              have e3 : ¬ kd = 2 := fun h => e1 (.inr (.inl h))
              have e4 : ¬ kd = 3 := fun h => e1 (.inr (.inr h))
              clear e1 HLE
              go_wp2_with fail
              refine (HAW.out _).mono ?_
              rintro e w9' ⟨rfl, hb⟩
              have HT9 := Lib.hid ((HT6.out nq).keep hb)
              clear hb p0 p1 p2 p3 p4 q0 q1 q2 q3 q4
              obtain ⟨p0, p1, p2, p3, p4⟩ := HT9.out.x.cs
              obtain ⟨q0, q1, q2, q3, q4⟩ := HT9.out.y.cs
              rw [HKD.out.1] at p0
              rw [HKD.out.2] at q0
              go_wp2
              go_ret
              exact ⟨rfl, HT9.out.b⟩
          · have hne : ((A0.toNat : Int) == (A1.toNat : Int)) = false := by
              rw [beq_eq_false_iff_ne]
              intro h
              exact hkk (HINJ.out (by rw [HA.out.1, HA.out.2]; exact UInt8.toNat_inj.1 (by omega)))
            have HT6 : Hid (∀ c, K2 g k0 k1 w (w4'.drewN c)) := fun c => HT4.out.keep (below_drewN (Below.refl _ _) c)
            clear HINJ HLE
            go_wp2
            go_quiet (fail)
            by_cases e1 : k0.kind = 1
            · have e9 : ¬ k1.kind = 1 := fun h => hkk (e1.trans h.symm)
              go_wp2_with fail
              refine (HAW.out _).mono ?_
              rintro e w9' ⟨rfl, hb⟩
              have HT9 := Lib.hid ((HT6.out nq).keep hb)
              clear hb p0 p1 p2 p3 p4 q0 q1 q2 q3 q4
              obtain ⟨p0, p1, p2, p3, p4⟩ := HT9.out.x.cs
              obtain ⟨q0, q1, q2, q3, q4⟩ := HT9.out.y.cs
              go_wp2
              go_ret
              exact ⟨rfl, HT9.out.b⟩
            by_cases e2 : k0.kind = 2
            · have e9 : ¬ k1.kind = 2 := fun h => hkk (e2.trans h.symm)
              go_wp2_with fail
              refine (HAW.out _).mono ?_
              rintro e w9' ⟨rfl, hb⟩
              have HT9 := Lib.hid ((HT6.out nq).keep hb)
              clear hb p0 p1 p2 p3 p4 q0 q1 q2 q3 q4
              obtain ⟨p0, p1, p2, p3, p4⟩ := HT9.out.x.cs
              obtain ⟨q0, q1, q2, q3, q4⟩ := HT9.out.y.cs
              go_wp2
              go_ret
              exact ⟨rfl, HT9.out.b⟩
            by_cases e3 : k0.kind = 3
            · have e9 : ¬ k1.kind = 3 := fun h => hkk (e3.trans h.symm)
              go_wp2_with fail
              refine (HAW.out _).mono ?_
              rintro e w9' ⟨rfl, hb⟩
              have HT9 := Lib.hid ((HT6.out nq).keep hb)
              clear hb p0 p1 p2 p3 p4 q0 q1 q2 q3 q4
              obtain ⟨p0, p1, p2, p3, p4⟩ := HT9.out.x.cs
              obtain ⟨q0, q1, q2, q3, q4⟩ := HT9.out.y.cs
              go_wp2
              go_ret
              exact ⟨rfl, HT9.out.b⟩
            go_wp2_with fail
            refine (HAW.out _).mono ?_
            rintro e w9' ⟨rfl, hb⟩
            have HT9 := Lib.hid ((HT6.out nq).keep hb)
            clear hb p0 p1 p2 p3 p4 q0 q1 q2 q3 q4
            obtain ⟨p0, p1, p2, p3, p4⟩ := HT9.out.x.cs
            obtain ⟨q0, q1, q2, q3, q4⟩ := HT9.out.y.cs
            go_wp2
            go_ret
            exact ⟨rfl, HT9.out.b⟩
set_option maxRecDepth 100000 in
theorem lifted (os : Os) (started : os.Started) (H : Type) (enc : TypeId × Value → H) :
    ReturnsInHanded {} Try.checked os 8 .any (Rows.keysLettersSpec.pre6 enc Try.prog Try.f8 Rows.keysLettersRow.domain false) (Rows.keysLettersSpec.post enc Try.prog Try.f8 false true false false) := by
  refine returnsInHanded_of_change_sized (C := Try.checked) own started (by kernel_rfl) Try.func8
    (ChangeSpec.witness6 (enc := enc) (C := Try.checked) false ⟨#[], #[.agg #[.int .i64 0, .string ByteArray.empty, .string ByteArray.empty, .int .i64 0, .int .i64 0], .agg #[.int .i64 0, .string ByteArray.empty, .string ByteArray.empty, .int .i64 0, .int .i64 0]], []⟩ 8 (by kernel_rfl) (by kernel_rfl) (by kernel_rfl) (by kernel_rfl)) ?_
  intro W base args ds gs before hval0 hW hcnd hsz0 _
  have hval : ∀ (j : Nat) t v, Try.f8.params[j]? = some t → args[j]? = some v → Value.okWide Try.prog W .any base t v := hval0
  have hsz : (DataW.weightsEach Try.prog (Try.f8.params.toList ++ Rows.keysLettersSpec.plain.varTypes Try.prog) (ds ++ gs)).all (· ≤ reachBytes) = true := hsz0
  have hW' := hW
  obtain ⟨p, q, hA0, hV, rfl, hfz, hnd⟩ := hW
  have hA : DataW.TrodAll enc Try.prog W 0 (fun _ => true) true Try.f8.params.toList args.toList ds p := hA0
  rw [Try.params8] at hA hval hsz
  obtain ⟨v0, vs0, d0, ds0, p0, q0, hargs, rfl, rfl, t0, r0⟩ := trodAll_cons hA
  obtain ⟨v1, vs1, d1, ds1, p1, q1, rfl, rfl, rfl, t1, r1⟩ := trodAll_cons r0
  obtain ⟨rfl, rfl, rfl⟩ := trodAll_nil r1
  obtain rfl : args = #[v0, v1] := by cases args; simp_all
  obtain ⟨rfl, rfl⟩ := trodVars_none hV
  have c0 := t0
  have lt0 : ∀ x ∈ p0, x.block < W.heap.size := by obtain ⟨m, hm⟩ := c0; exact DataW.trod_lt m _ _ _ hm
  obtain ⟨k0, rfl, w0⟩ := (IsK.of (hval 0 23 v0 rfl rfl) c0 (fun n hn => by
    have := List.all_eq_true.1 hsz n (DataW.weights_mem_each (j := 0) (t := 23) rfl rfl n hn)
    simpa using this)).ex
  have c1 := t1
  have lt1 : ∀ x ∈ p1, x.block < W.heap.size := by obtain ⟨m, hm⟩ := c1; exact DataW.trod_lt m _ _ _ hm
  obtain ⟨k1, rfl, w1⟩ := (IsK.of (hval 1 23 v1 rfl rfl) c1 (fun n hn => by
    have := List.all_eq_true.1 hsz n (DataW.weights_mem_each (j := 1) (t := 23) rfl rfl n hn)
    simpa using this)).ex
  clear hA0 hval0
  refine (walk (k0) (k1) W w0 w1).mono fun e W' ⟨he, bel⟩ => ?_
  subst he
  exact ⟨_, rfl, _, _, _, [], _, [], hW', trodAll_mk1 (shut_bool Try.underlying4 _), (trodAll_cons_mk (Below.trod laidOut (by kernel_rfl) (of_decide_eq_true (by kernel_rfl)) c0 bel lt0) (trodAll_cons_mk (Below.trod laidOut (by kernel_rfl) (of_decide_eq_true (by kernel_rfl)) c1 bel lt1) trodAll_mk0)), rfl, bel.frame _, fun h => by cases h⟩

theorem over : Rows.keysLettersRow.holds Try.pinned (OpenSpec.ofChange Rows.keysLettersSpec) :=
  OpenClaim.holds_of_wide 8 Try.f8 rfl rfl rfl rfl rfl rfl rfl ⟨rfl, rfl, rfl, rfl, rfl⟩ rfl rfl rfl rfl rfl (by kernel_rfl) Try.func8 (by kernel_rfl)
    (of_decide_eq_true (by kernel_rfl)) (by unfold Func.isWrapper; first | (rw [if_pos (by decide +kernel)]; kernel_rfl) | (rw [if_neg (by decide +kernel)]; exact ⟨rfl, rfl⟩))
    (fun os started H enc _ => lifted os started H enc)

/-- the statement. -/
theorem proved : Rows.KeysLettersSaid := over
#print axioms proved
end Go.Proofs.Ytlnghdldecnmgaa.keysLetters
