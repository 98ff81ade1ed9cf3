/-
  The statement 'KeysLay' (chandlerylaw11) holds at every input: the call returns true and leaves its arguments as they were. Conditions: none beyond the row's own.
-/
import Derived.Test.YtlnghdldecnmgaaRows
import Derived.Test.YtlnghdldecnmgaaArgK
import Derived.Test.YtlnghdldecnmgaaKO
import Derived.Test.YtlnghdldecnmgaaKT
import Derived.Test.YtlnghdldecnmgaaKI
import Derived.WalkKit
import Derived.ProofKit
import Derived.OpenShut
import Derived.ChangeOld
import Derived.Below
set_option linter.unusedSimpArgs false
set_option linter.unusedVariables false
namespace Go.Proofs.Ytlnghdldecnmgaa.keysLay
open Go.ChangeShapes Go.WideShapes Go.ChangeAt Go.RowKit Go.Bs Go.Kx
open Go.ChangeMaps (open_string shut_string)

theorem own : ownKnob Try.prog.godebug = none := by kernel_rfl
theorem laidOut : laidOutB Try.prog = true := by kernel_rfl

structure K1 (g : Nat) (k0 : Ky) (w W : World) : Prop where
  x : KyAt W g k0
  b : Below g w W
  s : g + 1 ≤ W.heap.size
theorem K1.keep {g : Nat} {k0 : Ky} {w W W' : World} (h : K1 g k0 w W) (hb : Below W.heap.size W W') : K1 g k0 w W' :=
  ⟨h.x.keep hb, h.b.trans (hb.mono (by have := h.s; omega)), Nat.le_trans h.s hb.size⟩
theorem K1.new (w : World) (g : Nat) (hg : w.heap.size = g) (k0 : Ky) : K1 g k0 w (w.alloc (.cells k0.cells 23)) := by
  subst hg
  exact ⟨KyAt.new w _, (Below.refl _ _).alloc (Nat.le_refl _) _, by simp⟩

set_option maxRecDepth 100000 in
set_option maxHeartbeats 1000000 in
theorem walk (k0 : Ky) (w : World) (w0 : KyA k0) :
    Calls Try.prog 3 #[k0.val] w fun e w' => e = .returned (.bool true) ∧ Below w.heap.size w w' := by
  obtain ⟨g, hg⟩ : ∃ g, w.heap.size = g := ⟨_, rfl⟩
  rw [hg]
  have HT0 := Lib.hid (K1.new w g hg k0)
  obtain ⟨W2, hW2⟩ : ∃ W2, w.alloc (.cells k0.cells 23) = W2 := ⟨_, rfl⟩
  rw [hW2] at HT0
  have HS0 := Lib.hid (fun W => small_any k0 W w0.a w0.b)
  obtain ⟨s0, hs0⟩ : ∃ s0, decide (k0.a.length + k0.b.length ≤ 1000) = s0 := ⟨_, rfl⟩
  rw [hs0] at HS0
  have HBD : Hid (s0 = true → Bd k0) := fun h => bd_of (of_decide_eq_true (hs0.trans h)) w0.n w0.m
  have HAW := Lib.hid (fun W => awake_any W)
  have HV : Hid (k0.val = .agg #[.int .i64 k0.kind, .string ⟨k0.a.toArray⟩, .string ⟨k0.b.toArray⟩, .int .i64 k0.n, .int .i64 k0.m]) := rfl
  unfold Ky.cells st at hW2
  rw [HV.out] at HS0 ⊢
  have HW2 := Lib.hid hW2
  clear hs0 hW2
  go_enter Try.func3, Try.ntmps3
  go_wp2_with fail
  rw [HW2.out]
  refine (HS0.out _).mono ?_
  rintro e w1' ⟨rfl, hb⟩
  have HT1 := Lib.hid (HT0.out.keep hb)
  clear hb
  obtain ⟨p0, p1, p2, p3, p4⟩ := HT1.out.x.cs
  cases s0 with
  | false =>
    go_wp2
    go_ret
    exact ⟨rfl, HT1.out.b⟩
  | true =>
    have hbd := HBD.out (by trivial)
    have HC := Lib.hid (fun W => Check_any k0 W hbd)
    have HBY := Lib.hid (fun W => Bytes_any k0 W hbd)
    have HPX := Lib.hid (fun W => Prefix_any k0 W hbd)
    have HRP := Lib.hid (fun W => rPrefix_any k0 W hbd)
    have HRM := Lib.hid (fun W => rMay_any k0 W hbd)
    have HRB : Hid (∀ s, bytesF k0 = some s → ∀ W, Calls Try.prog 16 #[k0.val] W fun e w' => e = .returned (st s) ∧ Below W.heap.size W w') := fun s h W => rBytes_any k0 s (bytesF_is h) W
    rw [mayR_isSome] at HRM
    unfold BytesE at HBY
    unfold PrefixE at HPX
    rw [HV.out] at HC HBY HPX HRP HRM HRB
    obtain ⟨rb, hrb⟩ : ∃ r, bytesF k0 = r := ⟨_, rfl⟩
    obtain ⟨rp, hrp⟩ : ∃ r, prefixF k0 = r := ⟨_, rfl⟩
    have HPF := Lib.hid hrp
    rw [hrb] at HC HBY HRM HRB
    rw [hrp] at HPX
    clear hbd hrb hrp HBD
    go_wp2_with fail
    refine (HC.out _).mono ?_
    rintro e w2' ⟨rfl, hb⟩
    have HT2 := Lib.hid (HT1.out.keep hb)
    clear hb
    clear p0 p1 p2 p3 p4
    obtain ⟨p0, p1, p2, p3, p4⟩ := HT2.out.x.cs
    cases rb with
    | none =>
      cases rp with
      | none =>
        go_wp2_with fail
        refine (HBY.out _).mono ?_
        rintro e w3' ⟨rfl, hb⟩
        have HT3 := Lib.hid (HT2.out.keep hb)
        clear hb
        clear p0 p1 p2 p3 p4
        obtain ⟨p0, p1, p2, p3, p4⟩ := HT3.out.x.cs
        unfold st
        go_wp2_with fail
        refine (HPX.out _).mono ?_
        rintro e w4' ⟨rfl, hb⟩
        have HT4 := Lib.hid (HT3.out.keep hb)
        clear hb
        clear p0 p1 p2 p3 p4
        obtain ⟨p0, p1, p2, p3, p4⟩ := HT4.out.x.cs
        unfold st
        go_wp2_with fail
        refine (HRP.out _).mono ?_
        rintro e w5' ⟨hpr, hb⟩
        have HT5 := Lib.hid (HT4.out.keep hb)
        clear hb
        clear p0 p1 p2 p3 p4
        obtain ⟨p0, p1, p2, p3, p4⟩ := HT5.out.x.cs
        obtain ⟨q, ok, rfl, hy, hn⟩ := hpr
        have hok : ok = false := by
          cases ok with
          | false => rfl
          | true => have := hy rfl; rw [HPF.out] at this; cases this
        subst hok
        clear hy hn
        unfold st
        go_wp2_with fail
        refine (HRM.out _).mono ?_
        rintro e w6' ⟨rfl, hb⟩
        have HT6 := Lib.hid (HT5.out.keep hb)
        clear hb
        clear p0 p1 p2 p3 p4
        obtain ⟨p0, p1, p2, p3, p4⟩ := HT6.out.x.cs
        go_wp2_with fail
        refine (HAW.out _).mono ?_
        rintro e w7' ⟨rfl, hb⟩
        have HT7 := Lib.hid (HT6.out.keep hb)
        clear hb
        clear p0 p1 p2 p3 p4
        obtain ⟨p0, p1, p2, p3, p4⟩ := HT7.out.x.cs
        go_wp2
        go_ret
        exact ⟨rfl, HT7.out.b⟩
      | some p =>
        go_wp2_with fail
        refine (HBY.out _).mono ?_
        rintro e w3' ⟨rfl, hb⟩
        have HT3 := Lib.hid (HT2.out.keep hb)
        clear hb
        clear p0 p1 p2 p3 p4
        obtain ⟨p0, p1, p2, p3, p4⟩ := HT3.out.x.cs
        unfold st
        go_wp2_with fail
        refine (HPX.out _).mono ?_
        rintro e w4' ⟨rfl, hb⟩
        have HT4 := Lib.hid (HT3.out.keep hb)
        clear hb
        clear p0 p1 p2 p3 p4
        obtain ⟨p0, p1, p2, p3, p4⟩ := HT4.out.x.cs
        unfold st
        go_wp2_with fail
        refine (HRP.out _).mono ?_
        rintro e w5' ⟨hpr, hb⟩
        have HT5 := Lib.hid (HT4.out.keep hb)
        clear hb
        clear p0 p1 p2 p3 p4
        obtain ⟨p0, p1, p2, p3, p4⟩ := HT5.out.x.cs
        obtain ⟨q, ok, rfl, hy, hn⟩ := hpr
        have hok : ok = true := by
          cases ok with
          | true => rfl
          | false => have := hn rfl; rw [HPF.out] at this; cases this
        subst hok
        have hq : q = p := by
          have := hy rfl
          rw [HPF.out] at this
          exact (Option.some.inj this).symm
        subst hq
        clear hy hn
        unfold st
        go_wp2_with fail
        refine (HRM.out _).mono ?_
        rintro e w6' ⟨rfl, hb⟩
        have HT6 := Lib.hid (HT5.out.keep hb)
        clear hb
        clear p0 p1 p2 p3 p4
        obtain ⟨p0, p1, p2, p3, p4⟩ := HT6.out.x.cs
        go_wp2_with fail
        refine (HAW.out _).mono ?_
        rintro e w7' ⟨rfl, hb⟩
        have HT7 := Lib.hid (HT6.out.keep hb)
        clear hb
        clear p0 p1 p2 p3 p4
        obtain ⟨p0, p1, p2, p3, p4⟩ := HT7.out.x.cs
        go_wp2
        go_ret
        exact ⟨rfl, HT7.out.b⟩
    | some s =>
      have HRB' := Lib.hid (HRB.out s rfl)
      cases rp with
      | none =>
        go_wp2_with fail
        refine (HBY.out _).mono ?_
        rintro e w3' ⟨rfl, hb⟩
        have HT3 := Lib.hid (HT2.out.keep hb)
        clear hb
        clear p0 p1 p2 p3 p4
        obtain ⟨p0, p1, p2, p3, p4⟩ := HT3.out.x.cs
        unfold st
        go_wp2_with fail
        refine (HPX.out _).mono ?_
        rintro e w4' ⟨rfl, hb⟩
        have HT4 := Lib.hid (HT3.out.keep hb)
        clear hb
        clear p0 p1 p2 p3 p4
        obtain ⟨p0, p1, p2, p3, p4⟩ := HT4.out.x.cs
        unfold st
        go_wp2_with fail
        refine (HRP.out _).mono ?_
        rintro e w5' ⟨hpr, hb⟩
        have HT5 := Lib.hid (HT4.out.keep hb)
        clear hb
        clear p0 p1 p2 p3 p4
        obtain ⟨p0, p1, p2, p3, p4⟩ := HT5.out.x.cs
        obtain ⟨q, ok, rfl, hy, hn⟩ := hpr
        have hok : ok = false := by
          cases ok with
          | false => rfl
          | true => have := hy rfl; rw [HPF.out] at this; cases this
        subst hok
        clear hy hn
        unfold st
        go_wp2_with fail
        refine (HRM.out _).mono ?_
        rintro e w6' ⟨rfl, hb⟩
        have HT6 := Lib.hid (HT5.out.keep hb)
        clear hb
        clear p0 p1 p2 p3 p4
        obtain ⟨p0, p1, p2, p3, p4⟩ := HT6.out.x.cs
        go_wp2_with fail
        refine (HAW.out _).mono ?_
        rintro e w7' ⟨rfl, hb⟩
        have HT7 := Lib.hid (HT6.out.keep hb)
        clear hb
        clear p0 p1 p2 p3 p4
        obtain ⟨p0, p1, p2, p3, p4⟩ := HT7.out.x.cs
        go_wp2_with fail
        refine (HRB'.out _).mono ?_
        rintro e w8' ⟨rfl, hb⟩
        have HT8 := Lib.hid (HT7.out.keep hb)
        clear hb
        clear p0 p1 p2 p3 p4
        obtain ⟨p0, p1, p2, p3, p4⟩ := HT8.out.x.cs
        unfold st
        go_wp2
        go_ret
        exact ⟨rfl, HT8.out.b⟩
      | some p =>
        go_wp2_with fail
        refine (HBY.out _).mono ?_
        rintro e w3' ⟨rfl, hb⟩
        have HT3 := Lib.hid (HT2.out.keep hb)
        clear hb
        clear p0 p1 p2 p3 p4
        obtain ⟨p0, p1, p2, p3, p4⟩ := HT3.out.x.cs
        unfold st
        go_wp2_with fail
        refine (HPX.out _).mono ?_
        rintro e w4' ⟨rfl, hb⟩
        have HT4 := Lib.hid (HT3.out.keep hb)
        clear hb
        clear p0 p1 p2 p3 p4
        obtain ⟨p0, p1, p2, p3, p4⟩ := HT4.out.x.cs
        unfold st
        go_wp2_with fail
        refine (HRP.out _).mono ?_
        rintro e w5' ⟨hpr, hb⟩
        have HT5 := Lib.hid (HT4.out.keep hb)
        clear hb
        clear p0 p1 p2 p3 p4
        obtain ⟨p0, p1, p2, p3, p4⟩ := HT5.out.x.cs
        obtain ⟨q, ok, rfl, hy, hn⟩ := hpr
        have hok : ok = true := by
          cases ok with
          | true => rfl
          | false => have := hn rfl; rw [HPF.out] at this; cases this
        subst hok
        have hq : q = p := by
          have := hy rfl
          rw [HPF.out] at this
          exact (Option.some.inj this).symm
        subst hq
        clear hy hn
        unfold st
        go_wp2_with fail
        refine (HRM.out _).mono ?_
        rintro e w6' ⟨rfl, hb⟩
        have HT6 := Lib.hid (HT5.out.keep hb)
        clear hb
        clear p0 p1 p2 p3 p4
        obtain ⟨p0, p1, p2, p3, p4⟩ := HT6.out.x.cs
        go_wp2_with fail
        refine (HAW.out _).mono ?_
        rintro e w7' ⟨rfl, hb⟩
        have HT7 := Lib.hid (HT6.out.keep hb)
        clear hb
        clear p0 p1 p2 p3 p4
        obtain ⟨p0, p1, p2, p3, p4⟩ := HT7.out.x.cs
        go_wp2_with fail
        refine (HRB'.out _).mono ?_
        rintro e w8' ⟨rfl, hb⟩
        have HT8 := Lib.hid (HT7.out.keep hb)
        clear hb
        clear p0 p1 p2 p3 p4
        obtain ⟨p0, p1, p2, p3, p4⟩ := HT8.out.x.cs
        unfold st
        go_wp2
        go_ret
        exact ⟨rfl, HT8.out.b⟩
set_option maxRecDepth 100000 in
theorem lifted (os : Os) (started : os.Started) (H : Type) (enc : TypeId × Value → H) :
    ReturnsInHanded {} Try.checked os 3 .any (Rows.keysLaySpec.pre6 enc Try.prog Try.f3 Rows.keysLayRow.domain false) (Rows.keysLaySpec.post enc Try.prog Try.f3 false true false false) := by
  refine returnsInHanded_of_change_sized (C := Try.checked) own started (by kernel_rfl) Try.func3
    (ChangeSpec.witness6 (enc := enc) (C := Try.checked) false ⟨#[], #[.agg #[.int .i64 0, .string ByteArray.empty, .string ByteArray.empty, .int .i64 0, .int .i64 0]], []⟩ 8 (by kernel_rfl) (by kernel_rfl) (by kernel_rfl) (by kernel_rfl)) ?_
  intro W base args ds gs before hval0 hW hcnd hsz0 _
  have hval : ∀ (j : Nat) t v, Try.f3.params[j]? = some t → args[j]? = some v → Value.okWide Try.prog W .any base t v := hval0
  have hsz : (DataW.weightsEach Try.prog (Try.f3.params.toList ++ Rows.keysLaySpec.plain.varTypes Try.prog) (ds ++ gs)).all (· ≤ reachBytes) = true := hsz0
  have hW' := hW
  obtain ⟨p, q, hA0, hV, rfl, hfz, hnd⟩ := hW
  have hA : DataW.TrodAll enc Try.prog W 0 (fun _ => true) true Try.f3.params.toList args.toList ds p := hA0
  rw [Try.params3] at hA hval hsz
  obtain ⟨v0, vs0, d0, ds0, p0, q0, hargs, rfl, rfl, t0, r0⟩ := trodAll_cons hA
  obtain ⟨rfl, rfl, rfl⟩ := trodAll_nil r0
  obtain rfl : args = #[v0] := by cases args; simp_all
  obtain ⟨rfl, rfl⟩ := trodVars_none hV
  have c0 := t0
  have lt0 : ∀ x ∈ p0, x.block < W.heap.size := by obtain ⟨m, hm⟩ := c0; exact DataW.trod_lt m _ _ _ hm
  obtain ⟨k0, rfl, w0⟩ := (IsK.of (hval 0 23 v0 rfl rfl) c0 (fun n hn => by
    have := List.all_eq_true.1 hsz n (DataW.weights_mem_each (j := 0) (t := 23) rfl rfl n hn)
    simpa using this)).ex
  clear hA0 hval0
  refine (walk (k0) W w0).mono fun e W' ⟨he, bel⟩ => ?_
  subst he
  exact ⟨_, rfl, _, _, _, [], _, [], hW', trodAll_mk1 (shut_bool Try.underlying4 _), (trodAll_cons_mk (Below.trod laidOut (by kernel_rfl) (of_decide_eq_true (by kernel_rfl)) c0 bel lt0) trodAll_mk0), rfl, bel.frame _, fun h => by cases h⟩

theorem over : Rows.keysLayRow.holds Try.pinned (OpenSpec.ofChange Rows.keysLaySpec) :=
  OpenClaim.holds_of_wide 3 Try.f3 rfl rfl rfl rfl rfl rfl rfl ⟨rfl, rfl, rfl, rfl, rfl⟩ rfl rfl rfl rfl rfl (by kernel_rfl) Try.func3 (by kernel_rfl)
    (of_decide_eq_true (by kernel_rfl)) (by unfold Func.isWrapper; first | (rw [if_pos (by decide +kernel)]; kernel_rfl) | (rw [if_neg (by decide +kernel)]; exact ⟨rfl, rfl⟩))
    (fun os started H enc _ => lifted os started H enc)

/-- the statement. -/
theorem proved : Rows.KeysLaySaid := over
#print axioms proved
end Go.Proofs.Ytlnghdldecnmgaa.keysLay
