/-
  The statement 'KeysPrefix' (chandlerylaw11) holds at every input: the call returns true and leaves its arguments as they were. Conditions: none beyond the row's own.
-/
import Derived.Test.YtlnghdldecnmgaaRows
import Derived.Test.YtlnghdldecnmgaaArgK
import Derived.Test.YtlnghdldecnmgaaKU
import Derived.Deep.RegionHeld3
import Derived.WalkKit
import Derived.ProofKit
import Derived.OpenShut
import Derived.ChangeOld
import Derived.Below
set_option linter.unusedSimpArgs false
set_option linter.unusedVariables false
namespace Go.Proofs.Ytlnghdldecnmgaa.keysPrefix
open Go.ChangeShapes Go.WideShapes Go.ChangeAt Go.RowKit Go.Bs Go.Kx
open Go.ChangeMaps (open_string shut_string)

theorem own : ownKnob Try.prog.godebug = none := by kernel_rfl
theorem laidOut : laidOutB Try.prog = true := by kernel_rfl


set_option maxRecDepth 100000 in
set_option maxHeartbeats 8000000 in
theorem walk (k0 : Ky) (k1 : Ky) (w : World) (w0 : KyA k0) (w1 : KyA k1) :
    Calls Try.prog 6 #[k0.val, k1.val] w fun e w' => e = .returned (.bool true) ∧ Below w.heap.size w w' := by
  obtain ⟨g, hg⟩ : ∃ g, w.heap.size = g := ⟨_, rfl⟩
  rw [hg]
  have HT0 := Lib.hid (K2.new w g hg k0 k1)
  obtain ⟨W2, hW2⟩ : ∃ W2, (w.alloc (.cells k0.cells 23)).alloc (.cells k1.cells 23) = W2 := ⟨_, rfl⟩
  rw [hW2] at HT0
  have HS0 := Lib.hid (fun W => small_any k0 W w0.a w0.b)
  have HS1 := Lib.hid (fun W => small_any k1 W w1.a w1.b)
  obtain ⟨s0, hs0⟩ : ∃ s0, decide (k0.a.length + k0.b.length ≤ 1000) = s0 := ⟨_, rfl⟩
  obtain ⟨s1, hs1⟩ : ∃ s1, decide (k1.a.length + k1.b.length ≤ 1000) = s1 := ⟨_, rfl⟩
  rw [hs0] at HS0
  rw [hs1] at HS1
  have HB0 : Hid (s0 = true → ∀ W, Calls Try.prog 11 #[k0.val] W fun e w' => BytesE k0 e ∧ Below W.heap.size W w') := fun h W => Bytes_any k0 W (bd_of (of_decide_eq_true (hs0.trans h)) w0.n w0.m)
  have HB1 : Hid (s1 = true → ∀ W, Calls Try.prog 11 #[k1.val] W fun e w' => BytesE k1 e ∧ Below W.heap.size W w') := fun h W => Bytes_any k1 W (bd_of (of_decide_eq_true (hs1.trans h)) w1.n w1.m)
  have HBD1 : Hid (s1 = true → Bd k1) := fun h => bd_of (of_decide_eq_true (hs1.trans h)) w1.n w1.m
  have HAW := Lib.hid (fun W => awake_any W)
  unfold Ky.cells st at hW2
  unfold Ky.val st at HS0 HS1 HB0 HB1 ⊢
  have HW2 := Lib.hid hW2
  clear hs0 hs1 hW2
  go_enter Try.func6, Try.ntmps6
  go_wp2_with fail
  rw [HW2.out]
  refine (HS0.out _).mono ?_
  rintro e w1' ⟨rfl, hb⟩
  have HT1 := Lib.hid (HT0.out.keep hb)
  clear hb
  obtain ⟨p0, p1, p2, p3, p4⟩ := HT1.out.x.cs
  obtain ⟨q0, q1, q2, q3, q4⟩ := HT1.out.y.cs
  cases s0 with
  | false =>
    go_wp2
    go_ret
    exact ⟨rfl, HT1.out.b⟩
  | true =>
    go_wp2_with fail
    refine (HS1.out _).mono ?_
    rintro e w2' ⟨rfl, hb⟩
    have HT2 := Lib.hid (HT1.out.keep hb)
    clear hb
    clear p0 p1 p2 p3 p4 q0 q1 q2 q3 q4
    obtain ⟨p0, p1, p2, p3, p4⟩ := HT2.out.x.cs
    obtain ⟨q0, q1, q2, q3, q4⟩ := HT2.out.y.cs
    cases s1 with
    | false =>
      go_wp2
      go_ret
      exact ⟨rfl, HT2.out.b⟩
    | true =>
      have HB0' := Lib.hid (HB0.out (by trivial))
      have HPX : Hid (∀ W, Calls Try.prog 12 #[k1.val] W fun e w' => PrefixE k1 e ∧ Below W.heap.size W w') := fun W => Prefix_any k1 W (HBD1.out (by trivial))
      have HHA := Lib.hid (fun W => rHas_any k0 k1 W)
      unfold Ky.val st at HPX HHA
      clear HB0 HB1 HBD1
      go_wp2_with fail
      refine (HB0'.out _).mono ?_
      rintro e w3' ⟨he0, hb⟩
      have HT3 := Lib.hid (HT2.out.keep hb)
      clear hb
      clear p0 p1 p2 p3 p4 q0 q1 q2 q3 q4
      obtain ⟨p0, p1, p2, p3, p4⟩ := HT3.out.x.cs
      obtain ⟨q0, q1, q2, q3, q4⟩ := HT3.out.y.cs
      unfold BytesE at he0
      obtain ⟨r0, hr0⟩ : ∃ r, bytesF k0 = r := ⟨_, rfl⟩
      rw [hr0] at he0
      have HR0 := Lib.hid hr0
      clear hr0
      cases r0 with
      | none =>
        obtain rfl := he0
        unfold st
        go_wp2_with fail
        refine (HPX.out _).mono ?_
        rintro e w4' ⟨he1, hb⟩
        have HT4 := Lib.hid (HT3.out.keep hb)
        clear hb
        clear p0 p1 p2 p3 p4 q0 q1 q2 q3 q4
        obtain ⟨p0, p1, p2, p3, p4⟩ := HT4.out.x.cs
        obtain ⟨q0, q1, q2, q3, q4⟩ := HT4.out.y.cs
        unfold PrefixE at he1
        obtain ⟨r1, hr1⟩ : ∃ r, prefixF k1 = r := ⟨_, rfl⟩
        rw [hr1] at he1
        have HR1 := Lib.hid hr1
        clear hr1
        cases r1 with
        | none =>
          obtain rfl := he1
          go_wp2_with fail
          refine (HAW.out _).mono ?_
          rintro e w9' ⟨rfl, hb⟩
          have HT9 := Lib.hid (HT4.out.keep hb)
          clear hb
          go_wp2
          go_ret
          exact ⟨rfl, HT9.out.b⟩
        | some t =>
          obtain rfl := he1
          go_wp2_with fail
          refine (HAW.out _).mono ?_
          rintro e w9' ⟨rfl, hb⟩
          have HT9 := Lib.hid (HT4.out.keep hb)
          clear hb
          go_wp2
          go_ret
          exact ⟨rfl, HT9.out.b⟩
      | some s =>
        obtain rfl := he0
        go_wp2_with fail
        refine (HPX.out _).mono ?_
        rintro e w4' ⟨he1, hb⟩
        have HT4 := Lib.hid (HT3.out.keep hb)
        clear hb
        clear p0 p1 p2 p3 p4 q0 q1 q2 q3 q4
        obtain ⟨p0, p1, p2, p3, p4⟩ := HT4.out.x.cs
        obtain ⟨q0, q1, q2, q3, q4⟩ := HT4.out.y.cs
        unfold PrefixE at he1
        obtain ⟨r1, hr1⟩ : ∃ r, prefixF k1 = r := ⟨_, rfl⟩
        rw [hr1] at he1
        have HR1 := Lib.hid hr1
        clear hr1
        cases r1 with
        | none =>
          obtain rfl := he1
          unfold st
          go_wp2_with fail
          refine (HAW.out _).mono ?_
          rintro e w9' ⟨rfl, hb⟩
          have HT9 := Lib.hid (HT4.out.keep hb)
          clear hb
          go_wp2
          go_ret
          exact ⟨rfl, HT9.out.b⟩
        | some t =>
          obtain rfl := he1
          have l0 := (bytesF_is HR0.out).len.2
          obtain ⟨q, hq⟩ := (prefix_head HR1.out).2
          have HBE := Lib.hid (begins_has (bytesF_is HR0.out) HR1.out)
          obtain ⟨hf, hhf⟩ : ∃ x, hasF k0 k1 = x := ⟨_, rfl⟩
          rw [hhf] at HHA HBE
          have HT5 : Hid (K2 g k0 k1 w w4'.drew) := HT4.out.keep (Below.refl _ _).drew
          obtain ⟨n, hn⟩ : ∃ n, s.length = n := ⟨_, rfl⟩
          obtain ⟨m, hm⟩ : ∃ m, t.length = m := ⟨_, rfl⟩
          have hl0 : ∀ W, (Builtin.len_ #[9] 3 #[.string ⟨s.toArray⟩]).run Try.prog W = .ok (.int .i64 (n : Int)) W := len_st s n hn
          have hl1 : ∀ W, (Builtin.len_ #[9] 3 #[.string ⟨t.toArray⟩]).run Try.prog W = .ok (.int .i64 (m : Int)) W := len_st t m hm
          have sz0 : (⟨s.toArray⟩ : ByteArray).size = n := by rw [size_list, hn]
          have sz1 : (⟨t.toArray⟩ : ByteArray).size = m := by rw [size_list, hm]
          clear hhf hq p0 p1 p2 p3 p4 q0 q1 q2 q3 q4
          unfold st
          by_cases hmn : m ≤ n
          · have hsl : ∀ W, (Instr.slice 9 (.string ⟨s.toArray⟩) none (some (.int .i64 (m : Int))) none).run Try.prog W = .ok (.string ⟨(s.take m).toArray⟩) W := slice_to s m (by omega)
            have HEQ : Hid ((s.take m == t) = hf) := by
              have h := HBE.out
              unfold begins at h
              rw [hm, hn, decide_eq_true hmn, Bool.true_and] at h
              exact h
            obtain ⟨u, hu⟩ : ∃ u, s.take m = u := ⟨_, rfl⟩
            rw [hu] at hsl HEQ
            have HNM := Lib.hid (And.intro hn hm)
            clear HBE hu hn hm
            go_wp2_with fail
            refine wp_region_held_drew (S := fun W : World => (W.cell? ⟨g, 0, none⟩ = some (.int .i64 k0.kind) ∧ W.cell? ⟨g, 1, none⟩ = some (.string ⟨k0.a.toArray⟩) ∧ W.cell? ⟨g, 2, none⟩ = some (.string ⟨k0.b.toArray⟩) ∧ W.cell? ⟨g, 3, none⟩ = some (.int .i64 k0.n) ∧ W.cell? ⟨g, 4, none⟩ = some (.int .i64 k0.m)) ∧ (W.cell? ⟨g + 1, 0, none⟩ = some (.int .i64 k1.kind) ∧ W.cell? ⟨g + 1, 1, none⟩ = some (.string ⟨k1.a.toArray⟩) ∧ W.cell? ⟨g + 1, 2, none⟩ = some (.string ⟨k1.b.toArray⟩) ∧ W.cell? ⟨g + 1, 3, none⟩ = some (.int .i64 k1.n) ∧ W.cell? ⟨g + 1, 4, none⟩ = some (.int .i64 k1.m))) (by kernel_rfl) (⟨HT5.out.x.cs, HT5.out.y.cs⟩) (fun hHeld => ?_)
            refine wpAnyH_ready (rs := [0]) (by kernel_rfl) (by simp) ?_
            refine AllReadyH.cons (o := { dst := some 34, op := Go.Op.call { callee := Go.Callee.value (Go.Operand.func 15), args := #[], argTypes := #[] }, type := 4, pos := "law.go:83", after := #[], guard := none }) rfl (fun K hK => ?_) AllReadyH.nil
            go_simp
            refine (HAW.out _).mono ?_
            rintro e w6' ⟨rfl, hb⟩
            have HT6 := Lib.hid (HT5.out.keep hb)
            clear hb
            go_wp2_with fail
            refine hK.out _ _ (⟨HT6.out.x.cs, HT6.out.y.cs⟩) (fun hHeld => ?_)
            clear hK K
            try simp only [Act.put, List.setIfInBounds_toArray, List.set_cons_zero, List.set_cons_succ]
            refine wpAnyH_take (i := 1) (oi := { dst := some 35, op := Go.Op.move (Go.Operand.tmp 34), type := 4, pos := "law.go:83", after := #[{ on := 0, ground := Go.Ground.data }, { on := 0, ground := Go.Ground.chain }], guard := none }) (v := ?va1) rfl (by kernel_rfl) (by kernel_rfl) (by kernel_rfl) (fun _ _ _ h => h) (Or.inl ⟨by rfl, ?hya1⟩) hHeld ?_
            case hya1 => (intro w hSw; (try dsimp only at hSw); go_simp; first | done | with_reducible rfl)
            try simp only [Act.put, List.setIfInBounds_toArray, List.set_cons_zero, List.set_cons_succ]
            refine wpAnyH_take (i := 2) (oi := { dst := some 36, op := Go.Op.move (Go.Operand.tmp 5), type := 9, pos := "law.go:83", after := #[{ on := 1, ground := Go.Ground.guard }], guard := some (1, true) }) (v := ?va2) rfl (by kernel_rfl) (by kernel_rfl) (by kernel_rfl) (fun _ _ _ h => h) (Or.inl ⟨by rfl, ?hya2⟩) hHeld ?_
            case hya2 => (intro w hSw; (try dsimp only at hSw); go_simp; first | done | with_reducible rfl)
            try simp only [Act.put, List.setIfInBounds_toArray, List.set_cons_zero, List.set_cons_succ]
            refine wpAnyH_take (i := 3) (oi := { dst := some 37, op := Go.Op.call { callee := Go.Callee.builtin Go.Builtin.len, args := #[Go.Operand.tmp 36], argTypes := #[9] }, type := 3, pos := "law.go:83", after := #[{ on := 2, ground := Go.Ground.data }, { on := 1, ground := Go.Ground.guard }], guard := some (1, true) }) (v := ?va3) rfl (by kernel_rfl) (by kernel_rfl) (by kernel_rfl) (fun _ _ _ h => h) (Or.inl ⟨by rfl, ?hya3⟩) hHeld ?_
            case hya3 => (intro w hSw; (try dsimp only at hSw); go_simp; first | done | with_reducible rfl)
            try simp only [Act.put, List.setIfInBounds_toArray, List.set_cons_zero, List.set_cons_succ]
            refine wpAnyH_take (i := 4) (oi := { dst := some 38, op := Go.Op.move (Go.Operand.tmp 7), type := 9, pos := "law.go:83", after := #[{ on := 1, ground := Go.Ground.guard }], guard := some (1, true) }) (v := ?va4) rfl (by kernel_rfl) (by kernel_rfl) (by kernel_rfl) (fun _ _ _ h => h) (Or.inl ⟨by rfl, ?hya4⟩) hHeld ?_
            case hya4 => (intro w hSw; (try dsimp only at hSw); go_simp; first | done | with_reducible rfl)
            try simp only [Act.put, List.setIfInBounds_toArray, List.set_cons_zero, List.set_cons_succ]
            refine wpAnyH_take (i := 5) (oi := { dst := some 39, op := Go.Op.call { callee := Go.Callee.builtin Go.Builtin.len, args := #[Go.Operand.tmp 38], argTypes := #[9] }, type := 3, pos := "law.go:83", after := #[{ on := 4, ground := Go.Ground.data }, { on := 1, ground := Go.Ground.guard }], guard := some (1, true) }) (v := ?va5) rfl (by kernel_rfl) (by kernel_rfl) (by kernel_rfl) (fun _ _ _ h => h) (Or.inl ⟨by rfl, ?hya5⟩) hHeld ?_
            case hya5 => (intro w hSw; (try dsimp only at hSw); go_simp; first | done | with_reducible rfl)
            try simp only [Act.put, List.setIfInBounds_toArray, List.set_cons_zero, List.set_cons_succ]
            refine wpAnyH_take (i := 6) (oi := { dst := some 40, op := Go.Op.binOp Go.BinOp.geq 3 (Go.Operand.tmp 37) (Go.Operand.tmp 39) 3, type := 4, pos := "law.go:83", after := #[{ on := 3, ground := Go.Ground.data }, { on := 5, ground := Go.Ground.data }, { on := 1, ground := Go.Ground.guard }], guard := some (1, true) }) (v := ?va6) rfl (by kernel_rfl) (by kernel_rfl) (by kernel_rfl) (fun _ _ _ h => h) (Or.inl ⟨by rfl, ?hya6⟩) hHeld ?_
            case hya6 => (intro w hSw; (try dsimp only at hSw); go_simp; first | done | with_reducible rfl)
            try simp only [Act.put, List.setIfInBounds_toArray, List.set_cons_zero, List.set_cons_succ]
            refine wpAnyH_take (i := 7) (oi := { dst := some 41, op := Go.Op.move (Go.Operand.tmp 40), type := 4, pos := "law.go:83", after := #[{ on := 6, ground := Go.Ground.data }, { on := 1, ground := Go.Ground.chain }, { on := 1, ground := Go.Ground.guard }], guard := some (1, true) }) (v := ?va7) rfl (by kernel_rfl) (by kernel_rfl) (by kernel_rfl) (fun _ _ _ h => h) (Or.inl ⟨by rfl, ?hya7⟩) hHeld ?_
            case hya7 => (intro w hSw; (try dsimp only at hSw); go_simp; first | done | with_reducible rfl)
            try simp only [Act.put, List.setIfInBounds_toArray, List.set_cons_zero, List.set_cons_succ]
            refine wpAnyH_take (i := 8) (oi := { dst := some 42, op := Go.Op.move (Go.Operand.tmp 5), type := 9, pos := "law.go:83", after := #[{ on := 7, ground := Go.Ground.guard }], guard := some (7, true) }) (v := ?va8) rfl (by kernel_rfl) (by kernel_rfl) (by kernel_rfl) (fun _ _ _ h => h) (Or.inl ⟨by rfl, ?hya8⟩) hHeld ?_
            case hya8 => (intro w hSw; (try dsimp only at hSw); go_simp; first | done | with_reducible rfl)
            try simp only [Act.put, List.setIfInBounds_toArray, List.set_cons_zero, List.set_cons_succ]
            refine wpAnyH_take (i := 9) (oi := { dst := some 43, op := Go.Op.move (Go.Operand.tmp 7), type := 9, pos := "law.go:83", after := #[{ on := 7, ground := Go.Ground.guard }], guard := some (7, true) }) (v := ?va9) rfl (by kernel_rfl) (by kernel_rfl) (by kernel_rfl) (fun _ _ _ h => h) (Or.inl ⟨by rfl, ?hya9⟩) hHeld ?_
            case hya9 => (intro w hSw; (try dsimp only at hSw); go_simp; first | done | with_reducible rfl)
            try simp only [Act.put, List.setIfInBounds_toArray, List.set_cons_zero, List.set_cons_succ]
            refine wpAnyH_take (i := 10) (oi := { dst := some 44, op := Go.Op.call { callee := Go.Callee.builtin Go.Builtin.len, args := #[Go.Operand.tmp 43], argTypes := #[9] }, type := 3, pos := "law.go:83", after := #[{ on := 9, ground := Go.Ground.data }, { on := 7, ground := Go.Ground.guard }], guard := some (7, true) }) (v := ?va10) rfl (by kernel_rfl) (by kernel_rfl) (by kernel_rfl) (fun _ _ _ h => h) (Or.inl ⟨by rfl, ?hya10⟩) hHeld ?_
            case hya10 => (intro w hSw; (try dsimp only at hSw); go_simp; first | done | with_reducible rfl)
            try simp only [Act.put, List.setIfInBounds_toArray, List.set_cons_zero, List.set_cons_succ]
            refine wpAnyH_take (i := 11) (oi := { dst := some 45, op := Go.Op.slice 9 (Go.Operand.tmp 42) none (some (Go.Operand.tmp 44)) none, type := 9, pos := "law.go:83", after := #[{ on := 8, ground := Go.Ground.data }, { on := 10, ground := Go.Ground.data }, { on := 7, ground := Go.Ground.guard }], guard := some (7, true) }) (v := ?va11) rfl (by kernel_rfl) (by kernel_rfl) (by kernel_rfl) (fun _ _ _ h => h) (Or.inl ⟨by rfl, ?hya11⟩) hHeld ?_
            case hya11 => (intro w hSw; (try dsimp only at hSw); go_simp; first | done | with_reducible rfl)
            try simp only [Act.put, List.setIfInBounds_toArray, List.set_cons_zero, List.set_cons_succ]
            refine wpAnyH_take (i := 12) (oi := { dst := some 46, op := Go.Op.move (Go.Operand.tmp 7), type := 9, pos := "law.go:83", after := #[{ on := 7, ground := Go.Ground.guard }], guard := some (7, true) }) (v := ?va12) rfl (by kernel_rfl) (by kernel_rfl) (by kernel_rfl) (fun _ _ _ h => h) (Or.inl ⟨by rfl, ?hya12⟩) hHeld ?_
            case hya12 => (intro w hSw; (try dsimp only at hSw); go_simp; first | done | with_reducible rfl)
            try simp only [Act.put, List.setIfInBounds_toArray, List.set_cons_zero, List.set_cons_succ]
            refine wpAnyH_take (i := 13) (oi := { dst := some 47, op := Go.Op.binOp Go.BinOp.eql 9 (Go.Operand.tmp 45) (Go.Operand.tmp 46) 9, type := 4, pos := "law.go:83", after := #[{ on := 11, ground := Go.Ground.data }, { on := 12, ground := Go.Ground.data }, { on := 7, ground := Go.Ground.guard }], guard := some (7, true) }) (v := ?va13) rfl (by kernel_rfl) (by kernel_rfl) (by kernel_rfl) (fun _ _ _ h => h) (Or.inl ⟨by rfl, ?hya13⟩) hHeld ?_
            case hya13 => (intro w hSw; (try dsimp only at hSw); go_simp; first | done | with_reducible rfl)
            try simp only [Act.put, List.setIfInBounds_toArray, List.set_cons_zero, List.set_cons_succ]
            refine wpAnyH_take (i := 14) (oi := { dst := some 48, op := Go.Op.pick (Go.Operand.tmp 41) (Go.Operand.tmp 47) (Go.Operand.const (Go.Value.bool false)), type := 4, pos := "law.go:83", after := #[{ on := 7, ground := Go.Ground.data }, { on := 13, ground := Go.Ground.data }, { on := 1, ground := Go.Ground.guard }], guard := some (1, true) }) (v := ?va14) rfl (by kernel_rfl) (by kernel_rfl) (by kernel_rfl) (fun _ _ _ h => h) (Or.inl ⟨by rfl, ?hya14⟩) hHeld ?_
            case hya14 => (intro w hSw; (try dsimp only at hSw); go_simp; first | done | with_reducible rfl)
            try simp only [Act.put, List.setIfInBounds_toArray, List.set_cons_zero, List.set_cons_succ]
            refine wpAnyH_take (i := 15) (oi := { dst := some 49, op := Go.Op.load 23 (Go.Operand.tmp 2), type := 23, pos := "law.go:83", after := #[{ on := 1, ground := Go.Ground.guard }], guard := some (1, true) }) (v := ?va15) rfl (by kernel_rfl) (by kernel_rfl) (by kernel_rfl) (fun _ _ _ h => h) (Or.inl ⟨by rfl, ?hya15⟩) hHeld ?_
            case hya15 => (intro w hSw; (try dsimp only at hSw); go_simp; first | done | with_reducible rfl)
            try simp only [Act.put, List.setIfInBounds_toArray, List.set_cons_zero, List.set_cons_succ]
            refine wpAnyH_take (i := 16) (oi := { dst := some 50, op := Go.Op.load 23 (Go.Operand.tmp 3), type := 23, pos := "law.go:83", after := #[{ on := 1, ground := Go.Ground.guard }], guard := some (1, true) }) (v := ?va16) rfl (by kernel_rfl) (by kernel_rfl) (by kernel_rfl) (fun _ _ _ h => h) (Or.inl ⟨by rfl, ?hya16⟩) hHeld ?_
            case hya16 => (intro w hSw; (try dsimp only at hSw); go_simp; first | done | with_reducible rfl)
            try simp only [Act.put, List.setIfInBounds_toArray, List.set_cons_zero, List.set_cons_succ]
            refine wpAnyH_ready (rs := [17]) (by kernel_rfl) (by simp) ?_
            refine AllReadyH.cons (o := { dst := some 51, op := Go.Op.call { callee := Go.Callee.value (Go.Operand.func 19), args := #[Go.Operand.tmp 49, Go.Operand.tmp 50], argTypes := #[23, 23] }, type := 4, pos := "law.go:83", after := #[{ on := 15, ground := Go.Ground.data }, { on := 16, ground := Go.Ground.data }, { on := 7, ground := Go.Ground.chain }, { on := 1, ground := Go.Ground.guard }], guard := some (1, true) }) rfl (fun K hK => ?_) AllReadyH.nil
            go_simp
            refine (HHA.out _).mono ?_
            rintro e w7' ⟨rfl, hb⟩
            have HT7 := Lib.hid (HT6.out.keep hb)
            clear hb
            go_wp2_with fail
            refine hK.out _ _ (⟨HT7.out.x.cs, HT7.out.y.cs⟩) (fun hHeld => ?_)
            clear hK K
            try simp only [Act.put, List.setIfInBounds_toArray, List.set_cons_zero, List.set_cons_succ]
            refine wpAnyH_take (i := 18) (oi := { dst := some 52, op := Go.Op.binOp Go.BinOp.eql 4 (Go.Operand.tmp 48) (Go.Operand.tmp 51) 4, type := 4, pos := "law.go:83", after := #[{ on := 14, ground := Go.Ground.data }, { on := 17, ground := Go.Ground.data }, { on := 1, ground := Go.Ground.guard }], guard := some (1, true) }) (v := ?va18) rfl (by kernel_rfl) (by kernel_rfl) (by kernel_rfl) (fun _ _ _ h => h) (Or.inl ⟨by rfl, ?hya18⟩) hHeld ?_
            case hya18 => (intro w hSw; (try dsimp only at hSw); go_simp; first | done | with_reducible rfl)
            try simp only [Act.put, List.setIfInBounds_toArray, List.set_cons_zero, List.set_cons_succ]
            refine wpAnyH_take (i := 19) (oi := { dst := some 53, op := Go.Op.pick (Go.Operand.tmp 35) (Go.Operand.tmp 52) (Go.Operand.const (Go.Value.bool false)), type := 4, pos := "law.go:83", after := #[{ on := 1, ground := Go.Ground.data }, { on := 18, ground := Go.Ground.data }], guard := none }) (v := ?va19) rfl (by kernel_rfl) (by kernel_rfl) (by kernel_rfl) (fun _ _ _ h => h) (Or.inl ⟨by rfl, ?hya19⟩) hHeld ?_
            case hya19 => (intro w hSw; (try dsimp only at hSw); go_simp; first | done | with_reducible rfl)
            try simp only [Act.put, List.setIfInBounds_toArray, List.set_cons_zero, List.set_cons_succ]
            refine wpAnyH_take (i := 20) (oi := { dst := some 4, op := Go.Op.assign (Go.Operand.tmp 53), type := 4, pos := "law.go:83", after := #[{ on := 19, ground := Go.Ground.data }, { on := 17, ground := Go.Ground.chain }, { on := 0, ground := Go.Ground.phase }, { on := 1, ground := Go.Ground.phase }, { on := 2, ground := Go.Ground.phase }, { on := 3, ground := Go.Ground.phase }, { on := 4, ground := Go.Ground.phase }, { on := 5, ground := Go.Ground.phase }, { on := 6, ground := Go.Ground.phase }, { on := 7, ground := Go.Ground.phase }, { on := 8, ground := Go.Ground.phase }, { on := 9, ground := Go.Ground.phase }, { on := 10, ground := Go.Ground.phase }, { on := 11, ground := Go.Ground.phase }, { on := 12, ground := Go.Ground.phase }, { on := 13, ground := Go.Ground.phase }, { on := 14, ground := Go.Ground.phase }, { on := 15, ground := Go.Ground.phase }, { on := 16, ground := Go.Ground.phase }, { on := 17, ground := Go.Ground.phase }, { on := 18, ground := Go.Ground.phase }, { on := 19, ground := Go.Ground.phase }], guard := none }) (v := ?va20) rfl (by kernel_rfl) (by kernel_rfl) (by kernel_rfl) (fun _ _ _ h => h) (Or.inl ⟨by rfl, ?hya20⟩) hHeld ?_
            case hya20 => (intro w hSw; (try dsimp only at hSw); go_simp; first | done | with_reducible rfl)
            try simp only [Act.put, List.setIfInBounds_toArray, List.set_cons_zero, List.set_cons_succ]
            refine wpAnyH_done (by kernel_rfl) ?_ _
            clear hHeld
            have hEQ := HEQ.out
            go_wp2
            go_ret
            refine ⟨?_, HT7.out.b⟩
            simp [hmn, hEQ]
          · have HF : Hid (hf = false) := by
              have h := HBE.out
              unfold begins at h
              rw [hm, hn, decide_eq_false hmn, Bool.false_and] at h
              exact h.symm
            have hgt : n < m := by omega
            clear HBE hn hm
            go_wp2_with fail
            refine wp_region_held_drew (S := fun W : World => (W.cell? ⟨g, 0, none⟩ = some (.int .i64 k0.kind) ∧ W.cell? ⟨g, 1, none⟩ = some (.string ⟨k0.a.toArray⟩) ∧ W.cell? ⟨g, 2, none⟩ = some (.string ⟨k0.b.toArray⟩) ∧ W.cell? ⟨g, 3, none⟩ = some (.int .i64 k0.n) ∧ W.cell? ⟨g, 4, none⟩ = some (.int .i64 k0.m)) ∧ (W.cell? ⟨g + 1, 0, none⟩ = some (.int .i64 k1.kind) ∧ W.cell? ⟨g + 1, 1, none⟩ = some (.string ⟨k1.a.toArray⟩) ∧ W.cell? ⟨g + 1, 2, none⟩ = some (.string ⟨k1.b.toArray⟩) ∧ W.cell? ⟨g + 1, 3, none⟩ = some (.int .i64 k1.n) ∧ W.cell? ⟨g + 1, 4, none⟩ = some (.int .i64 k1.m))) (by kernel_rfl) (⟨HT5.out.x.cs, HT5.out.y.cs⟩) (fun hHeld => ?_)
            refine wpAnyH_ready (rs := [0]) (by kernel_rfl) (by simp) ?_
            refine AllReadyH.cons (o := { dst := some 34, op := Go.Op.call { callee := Go.Callee.value (Go.Operand.func 15), args := #[], argTypes := #[] }, type := 4, pos := "law.go:83", after := #[], guard := none }) rfl (fun K hK => ?_) AllReadyH.nil
            go_simp
            refine (HAW.out _).mono ?_
            rintro e w6' ⟨rfl, hb⟩
            have HT6 := Lib.hid (HT5.out.keep hb)
            clear hb
            go_wp2_with fail
            refine hK.out _ _ (⟨HT6.out.x.cs, HT6.out.y.cs⟩) (fun hHeld => ?_)
            clear hK K
            try simp only [Act.put, List.setIfInBounds_toArray, List.set_cons_zero, List.set_cons_succ]
            refine wpAnyH_take (i := 1) (oi := { dst := some 35, op := Go.Op.move (Go.Operand.tmp 34), type := 4, pos := "law.go:83", after := #[{ on := 0, ground := Go.Ground.data }, { on := 0, ground := Go.Ground.chain }], guard := none }) (v := ?vb1) rfl (by kernel_rfl) (by kernel_rfl) (by kernel_rfl) (fun _ _ _ h => h) (Or.inl ⟨by rfl, ?hyb1⟩) hHeld ?_
            case hyb1 => (intro w hSw; (try dsimp only at hSw); go_simp; first | done | with_reducible rfl)
            try simp only [Act.put, List.setIfInBounds_toArray, List.set_cons_zero, List.set_cons_succ]
            refine wpAnyH_take (i := 2) (oi := { dst := some 36, op := Go.Op.move (Go.Operand.tmp 5), type := 9, pos := "law.go:83", after := #[{ on := 1, ground := Go.Ground.guard }], guard := some (1, true) }) (v := ?vb2) rfl (by kernel_rfl) (by kernel_rfl) (by kernel_rfl) (fun _ _ _ h => h) (Or.inl ⟨by rfl, ?hyb2⟩) hHeld ?_
            case hyb2 => (intro w hSw; (try dsimp only at hSw); go_simp; first | done | with_reducible rfl)
            try simp only [Act.put, List.setIfInBounds_toArray, List.set_cons_zero, List.set_cons_succ]
            refine wpAnyH_take (i := 3) (oi := { dst := some 37, op := Go.Op.call { callee := Go.Callee.builtin Go.Builtin.len, args := #[Go.Operand.tmp 36], argTypes := #[9] }, type := 3, pos := "law.go:83", after := #[{ on := 2, ground := Go.Ground.data }, { on := 1, ground := Go.Ground.guard }], guard := some (1, true) }) (v := ?vb3) rfl (by kernel_rfl) (by kernel_rfl) (by kernel_rfl) (fun _ _ _ h => h) (Or.inl ⟨by rfl, ?hyb3⟩) hHeld ?_
            case hyb3 => (intro w hSw; (try dsimp only at hSw); go_simp; first | done | with_reducible rfl)
            try simp only [Act.put, List.setIfInBounds_toArray, List.set_cons_zero, List.set_cons_succ]
            refine wpAnyH_take (i := 4) (oi := { dst := some 38, op := Go.Op.move (Go.Operand.tmp 7), type := 9, pos := "law.go:83", after := #[{ on := 1, ground := Go.Ground.guard }], guard := some (1, true) }) (v := ?vb4) rfl (by kernel_rfl) (by kernel_rfl) (by kernel_rfl) (fun _ _ _ h => h) (Or.inl ⟨by rfl, ?hyb4⟩) hHeld ?_
            case hyb4 => (intro w hSw; (try dsimp only at hSw); go_simp; first | done | with_reducible rfl)
            try simp only [Act.put, List.setIfInBounds_toArray, List.set_cons_zero, List.set_cons_succ]
            refine wpAnyH_take (i := 5) (oi := { dst := some 39, op := Go.Op.call { callee := Go.Callee.builtin Go.Builtin.len, args := #[Go.Operand.tmp 38], argTypes := #[9] }, type := 3, pos := "law.go:83", after := #[{ on := 4, ground := Go.Ground.data }, { on := 1, ground := Go.Ground.guard }], guard := some (1, true) }) (v := ?vb5) rfl (by kernel_rfl) (by kernel_rfl) (by kernel_rfl) (fun _ _ _ h => h) (Or.inl ⟨by rfl, ?hyb5⟩) hHeld ?_
            case hyb5 => (intro w hSw; (try dsimp only at hSw); go_simp; first | done | with_reducible rfl)
            try simp only [Act.put, List.setIfInBounds_toArray, List.set_cons_zero, List.set_cons_succ]
            refine wpAnyH_take (i := 6) (oi := { dst := some 40, op := Go.Op.binOp Go.BinOp.geq 3 (Go.Operand.tmp 37) (Go.Operand.tmp 39) 3, type := 4, pos := "law.go:83", after := #[{ on := 3, ground := Go.Ground.data }, { on := 5, ground := Go.Ground.data }, { on := 1, ground := Go.Ground.guard }], guard := some (1, true) }) (v := ?vb6) rfl (by kernel_rfl) (by kernel_rfl) (by kernel_rfl) (fun _ _ _ h => h) (Or.inl ⟨by rfl, ?hyb6⟩) hHeld ?_
            case hyb6 => (intro w hSw; (try dsimp only at hSw); go_simp; first | done | with_reducible rfl)
            try simp only [Act.put, List.setIfInBounds_toArray, List.set_cons_zero, List.set_cons_succ]
            refine wpAnyH_take (i := 7) (oi := { dst := some 41, op := Go.Op.move (Go.Operand.tmp 40), type := 4, pos := "law.go:83", after := #[{ on := 6, ground := Go.Ground.data }, { on := 1, ground := Go.Ground.chain }, { on := 1, ground := Go.Ground.guard }], guard := some (1, true) }) (v := ?vb7) rfl (by kernel_rfl) (by kernel_rfl) (by kernel_rfl) (fun _ _ _ h => h) (Or.inl ⟨by rfl, ?hyb7⟩) hHeld ?_
            case hyb7 => (intro w hSw; (try dsimp only at hSw); go_simp; first | done | with_reducible rfl)
            try simp only [Act.put, List.setIfInBounds_toArray, List.set_cons_zero, List.set_cons_succ]
            refine wpAnyH_take (i := 8) (oi := { dst := some 42, op := Go.Op.move (Go.Operand.tmp 5), type := 9, pos := "law.go:83", after := #[{ on := 7, ground := Go.Ground.guard }], guard := some (7, true) }) (v := undef) rfl (by kernel_rfl) (by kernel_rfl) (by kernel_rfl) (fun _ _ _ h => h) (Or.inr ⟨by rfl, rfl⟩) hHeld ?_
            try simp only [Act.put, List.setIfInBounds_toArray, List.set_cons_zero, List.set_cons_succ]
            refine wpAnyH_take (i := 9) (oi := { dst := some 43, op := Go.Op.move (Go.Operand.tmp 7), type := 9, pos := "law.go:83", after := #[{ on := 7, ground := Go.Ground.guard }], guard := some (7, true) }) (v := undef) rfl (by kernel_rfl) (by kernel_rfl) (by kernel_rfl) (fun _ _ _ h => h) (Or.inr ⟨by rfl, rfl⟩) hHeld ?_
            try simp only [Act.put, List.setIfInBounds_toArray, List.set_cons_zero, List.set_cons_succ]
            refine wpAnyH_take (i := 10) (oi := { dst := some 44, op := Go.Op.call { callee := Go.Callee.builtin Go.Builtin.len, args := #[Go.Operand.tmp 43], argTypes := #[9] }, type := 3, pos := "law.go:83", after := #[{ on := 9, ground := Go.Ground.data }, { on := 7, ground := Go.Ground.guard }], guard := some (7, true) }) (v := undef) rfl (by kernel_rfl) (by kernel_rfl) (by kernel_rfl) (fun _ _ _ h => h) (Or.inr ⟨by rfl, rfl⟩) hHeld ?_
            try simp only [Act.put, List.setIfInBounds_toArray, List.set_cons_zero, List.set_cons_succ]
            refine wpAnyH_take (i := 11) (oi := { dst := some 45, op := Go.Op.slice 9 (Go.Operand.tmp 42) none (some (Go.Operand.tmp 44)) none, type := 9, pos := "law.go:83", after := #[{ on := 8, ground := Go.Ground.data }, { on := 10, ground := Go.Ground.data }, { on := 7, ground := Go.Ground.guard }], guard := some (7, true) }) (v := undef) rfl (by kernel_rfl) (by kernel_rfl) (by kernel_rfl) (fun _ _ _ h => h) (Or.inr ⟨by rfl, rfl⟩) hHeld ?_
            try simp only [Act.put, List.setIfInBounds_toArray, List.set_cons_zero, List.set_cons_succ]
            refine wpAnyH_take (i := 12) (oi := { dst := some 46, op := Go.Op.move (Go.Operand.tmp 7), type := 9, pos := "law.go:83", after := #[{ on := 7, ground := Go.Ground.guard }], guard := some (7, true) }) (v := undef) rfl (by kernel_rfl) (by kernel_rfl) (by kernel_rfl) (fun _ _ _ h => h) (Or.inr ⟨by rfl, rfl⟩) hHeld ?_
            try simp only [Act.put, List.setIfInBounds_toArray, List.set_cons_zero, List.set_cons_succ]
            refine wpAnyH_take (i := 13) (oi := { dst := some 47, op := Go.Op.binOp Go.BinOp.eql 9 (Go.Operand.tmp 45) (Go.Operand.tmp 46) 9, type := 4, pos := "law.go:83", after := #[{ on := 11, ground := Go.Ground.data }, { on := 12, ground := Go.Ground.data }, { on := 7, ground := Go.Ground.guard }], guard := some (7, true) }) (v := undef) rfl (by kernel_rfl) (by kernel_rfl) (by kernel_rfl) (fun _ _ _ h => h) (Or.inr ⟨by rfl, rfl⟩) hHeld ?_
            try simp only [Act.put, List.setIfInBounds_toArray, List.set_cons_zero, List.set_cons_succ]
            refine wpAnyH_take (i := 14) (oi := { dst := some 48, op := Go.Op.pick (Go.Operand.tmp 41) (Go.Operand.tmp 47) (Go.Operand.const (Go.Value.bool false)), type := 4, pos := "law.go:83", after := #[{ on := 7, ground := Go.Ground.data }, { on := 13, ground := Go.Ground.data }, { on := 1, ground := Go.Ground.guard }], guard := some (1, true) }) (v := ?vb14) rfl (by kernel_rfl) (by kernel_rfl) (by kernel_rfl) (fun _ _ _ h => h) (Or.inl ⟨by rfl, ?hyb14⟩) hHeld ?_
            case hyb14 => (intro w hSw; (try dsimp only at hSw); go_simp; first | done | with_reducible rfl)
            try simp only [Act.put, List.setIfInBounds_toArray, List.set_cons_zero, List.set_cons_succ]
            refine wpAnyH_take (i := 15) (oi := { dst := some 49, op := Go.Op.load 23 (Go.Operand.tmp 2), type := 23, pos := "law.go:83", after := #[{ on := 1, ground := Go.Ground.guard }], guard := some (1, true) }) (v := ?vb15) rfl (by kernel_rfl) (by kernel_rfl) (by kernel_rfl) (fun _ _ _ h => h) (Or.inl ⟨by rfl, ?hyb15⟩) hHeld ?_
            case hyb15 => (intro w hSw; (try dsimp only at hSw); go_simp; first | done | with_reducible rfl)
            try simp only [Act.put, List.setIfInBounds_toArray, List.set_cons_zero, List.set_cons_succ]
            refine wpAnyH_take (i := 16) (oi := { dst := some 50, op := Go.Op.load 23 (Go.Operand.tmp 3), type := 23, pos := "law.go:83", after := #[{ on := 1, ground := Go.Ground.guard }], guard := some (1, true) }) (v := ?vb16) rfl (by kernel_rfl) (by kernel_rfl) (by kernel_rfl) (fun _ _ _ h => h) (Or.inl ⟨by rfl, ?hyb16⟩) hHeld ?_
            case hyb16 => (intro w hSw; (try dsimp only at hSw); go_simp; first | done | with_reducible rfl)
            try simp only [Act.put, List.setIfInBounds_toArray, List.set_cons_zero, List.set_cons_succ]
            refine wpAnyH_ready (rs := [17]) (by kernel_rfl) (by simp) ?_
            refine AllReadyH.cons (o := { dst := some 51, op := Go.Op.call { callee := Go.Callee.value (Go.Operand.func 19), args := #[Go.Operand.tmp 49, Go.Operand.tmp 50], argTypes := #[23, 23] }, type := 4, pos := "law.go:83", after := #[{ on := 15, ground := Go.Ground.data }, { on := 16, ground := Go.Ground.data }, { on := 7, ground := Go.Ground.chain }, { on := 1, ground := Go.Ground.guard }], guard := some (1, true) }) rfl (fun K hK => ?_) AllReadyH.nil
            go_simp
            refine (HHA.out _).mono ?_
            rintro e w7' ⟨rfl, hb⟩
            have HT7 := Lib.hid (HT6.out.keep hb)
            clear hb
            go_wp2_with fail
            refine hK.out _ _ (⟨HT7.out.x.cs, HT7.out.y.cs⟩) (fun hHeld => ?_)
            clear hK K
            try simp only [Act.put, List.setIfInBounds_toArray, List.set_cons_zero, List.set_cons_succ]
            refine wpAnyH_take (i := 18) (oi := { dst := some 52, op := Go.Op.binOp Go.BinOp.eql 4 (Go.Operand.tmp 48) (Go.Operand.tmp 51) 4, type := 4, pos := "law.go:83", after := #[{ on := 14, ground := Go.Ground.data }, { on := 17, ground := Go.Ground.data }, { on := 1, ground := Go.Ground.guard }], guard := some (1, true) }) (v := ?vb18) rfl (by kernel_rfl) (by kernel_rfl) (by kernel_rfl) (fun _ _ _ h => h) (Or.inl ⟨by rfl, ?hyb18⟩) hHeld ?_
            case hyb18 => (intro w hSw; (try dsimp only at hSw); go_simp; first | done | with_reducible rfl)
            try simp only [Act.put, List.setIfInBounds_toArray, List.set_cons_zero, List.set_cons_succ]
            refine wpAnyH_take (i := 19) (oi := { dst := some 53, op := Go.Op.pick (Go.Operand.tmp 35) (Go.Operand.tmp 52) (Go.Operand.const (Go.Value.bool false)), type := 4, pos := "law.go:83", after := #[{ on := 1, ground := Go.Ground.data }, { on := 18, ground := Go.Ground.data }], guard := none }) (v := ?vb19) rfl (by kernel_rfl) (by kernel_rfl) (by kernel_rfl) (fun _ _ _ h => h) (Or.inl ⟨by rfl, ?hyb19⟩) hHeld ?_
            case hyb19 => (intro w hSw; (try dsimp only at hSw); go_simp; first | done | with_reducible rfl)
            try simp only [Act.put, List.setIfInBounds_toArray, List.set_cons_zero, List.set_cons_succ]
            refine wpAnyH_take (i := 20) (oi := { dst := some 4, op := Go.Op.assign (Go.Operand.tmp 53), type := 4, pos := "law.go:83", after := #[{ on := 19, ground := Go.Ground.data }, { on := 17, ground := Go.Ground.chain }, { on := 0, ground := Go.Ground.phase }, { on := 1, ground := Go.Ground.phase }, { on := 2, ground := Go.Ground.phase }, { on := 3, ground := Go.Ground.phase }, { on := 4, ground := Go.Ground.phase }, { on := 5, ground := Go.Ground.phase }, { on := 6, ground := Go.Ground.phase }, { on := 7, ground := Go.Ground.phase }, { on := 8, ground := Go.Ground.phase }, { on := 9, ground := Go.Ground.phase }, { on := 10, ground := Go.Ground.phase }, { on := 11, ground := Go.Ground.phase }, { on := 12, ground := Go.Ground.phase }, { on := 13, ground := Go.Ground.phase }, { on := 14, ground := Go.Ground.phase }, { on := 15, ground := Go.Ground.phase }, { on := 16, ground := Go.Ground.phase }, { on := 17, ground := Go.Ground.phase }, { on := 18, ground := Go.Ground.phase }, { on := 19, ground := Go.Ground.phase }], guard := none }) (v := ?vb20) rfl (by kernel_rfl) (by kernel_rfl) (by kernel_rfl) (fun _ _ _ h => h) (Or.inl ⟨by rfl, ?hyb20⟩) hHeld ?_
            case hyb20 => (intro w hSw; (try dsimp only at hSw); go_simp; first | done | with_reducible rfl)
            try simp only [Act.put, List.setIfInBounds_toArray, List.set_cons_zero, List.set_cons_succ]
            refine wpAnyH_done (by kernel_rfl) ?_ _
            clear hHeld
            go_wp2
            go_ret
            refine ⟨?_, HT7.out.b⟩
            simp [HF.out, hmn]
set_option maxRecDepth 100000 in
theorem lifted (os : Os) (started : os.Started) (H : Type) (enc : TypeId × Value → H) :
    ReturnsInHanded {} Try.checked os 6 .any (Rows.keysPrefixSpec.pre6 enc Try.prog Try.f6 Rows.keysPrefixRow.domain false) (Rows.keysPrefixSpec.post enc Try.prog Try.f6 false true false false) := by
  refine returnsInHanded_of_change_sized (C := Try.checked) own started (by kernel_rfl) Try.func6
    (ChangeSpec.witness6 (enc := enc) (C := Try.checked) false ⟨#[], #[.agg #[.int .i64 0, .string ByteArray.empty, .string ByteArray.empty, .int .i64 0, .int .i64 0], .agg #[.int .i64 0, .string ByteArray.empty, .string ByteArray.empty, .int .i64 0, .int .i64 0]], []⟩ 8 (by kernel_rfl) (by kernel_rfl) (by kernel_rfl) (by kernel_rfl)) ?_
  intro W base args ds gs before hval0 hW hcnd hsz0 _
  have hval : ∀ (j : Nat) t v, Try.f6.params[j]? = some t → args[j]? = some v → Value.okWide Try.prog W .any base t v := hval0
  have hsz : (DataW.weightsEach Try.prog (Try.f6.params.toList ++ Rows.keysPrefixSpec.plain.varTypes Try.prog) (ds ++ gs)).all (· ≤ reachBytes) = true := hsz0
  have hW' := hW
  obtain ⟨p, q, hA0, hV, rfl, hfz, hnd⟩ := hW
  have hA : DataW.TrodAll enc Try.prog W 0 (fun _ => true) true Try.f6.params.toList args.toList ds p := hA0
  rw [Try.params6] at hA hval hsz
  obtain ⟨v0, vs0, d0, ds0, p0, q0, hargs, rfl, rfl, t0, r0⟩ := trodAll_cons hA
  obtain ⟨v1, vs1, d1, ds1, p1, q1, rfl, rfl, rfl, t1, r1⟩ := trodAll_cons r0
  obtain ⟨rfl, rfl, rfl⟩ := trodAll_nil r1
  obtain rfl : args = #[v0, v1] := by cases args; simp_all
  obtain ⟨rfl, rfl⟩ := trodVars_none hV
  have c0 := t0
  have lt0 : ∀ x ∈ p0, x.block < W.heap.size := by obtain ⟨m, hm⟩ := c0; exact DataW.trod_lt m _ _ _ hm
  obtain ⟨k0, rfl, w0⟩ := (IsK.of (hval 0 23 v0 rfl rfl) c0 (fun n hn => by
    have := List.all_eq_true.1 hsz n (DataW.weights_mem_each (j := 0) (t := 23) rfl rfl n hn)
    simpa using this)).ex
  have c1 := t1
  have lt1 : ∀ x ∈ p1, x.block < W.heap.size := by obtain ⟨m, hm⟩ := c1; exact DataW.trod_lt m _ _ _ hm
  obtain ⟨k1, rfl, w1⟩ := (IsK.of (hval 1 23 v1 rfl rfl) c1 (fun n hn => by
    have := List.all_eq_true.1 hsz n (DataW.weights_mem_each (j := 1) (t := 23) rfl rfl n hn)
    simpa using this)).ex
  clear hA0 hval0
  refine (walk (k0) (k1) W w0 w1).mono fun e W' ⟨he, bel⟩ => ?_
  subst he
  exact ⟨_, rfl, _, _, _, [], _, [], hW', trodAll_mk1 (shut_bool Try.underlying4 _), (trodAll_cons_mk (Below.trod laidOut (by kernel_rfl) (of_decide_eq_true (by kernel_rfl)) c0 bel lt0) (trodAll_cons_mk (Below.trod laidOut (by kernel_rfl) (of_decide_eq_true (by kernel_rfl)) c1 bel lt1) trodAll_mk0)), rfl, bel.frame _, fun h => by cases h⟩

theorem over : Rows.keysPrefixRow.holds Try.pinned (OpenSpec.ofChange Rows.keysPrefixSpec) :=
  OpenClaim.holds_of_wide 6 Try.f6 rfl rfl rfl rfl rfl rfl rfl ⟨rfl, rfl, rfl, rfl, rfl⟩ rfl rfl rfl rfl rfl (by kernel_rfl) Try.func6 (by kernel_rfl)
    (of_decide_eq_true (by kernel_rfl)) (by unfold Func.isWrapper; first | (rw [if_pos (by decide +kernel)]; kernel_rfl) | (rw [if_neg (by decide +kernel)]; exact ⟨rfl, rfl⟩))
    (fun os started H enc _ => lifted os started H enc)

/-- the statement. -/
theorem proved : Rows.KeysPrefixSaid := over
#print axioms proved
end Go.Proofs.Ytlnghdldecnmgaa.keysPrefix
