/-
  The statement 'BaseEncodes' (chandlerylaw02) holds at every input: the call returns true and leaves its arguments as they were. Conditions: none beyond the row's own.
-/
import Derived.Test.YtkkanhbcmdokcaaRows
import Derived.Test.YtkkanhbcmdokcaaT8
import Derived.WalkKit
import Derived.ProofKit
import Derived.OpenShut
import Derived.ShutString
import Derived.ChangeOld
import Derived.Below
namespace Go.Proofs.Ytkkanhbcmdokcaa.baseEncodes
open Go.ChangeShapes Go.WideShapes Go.ChangeAt Go.RowKit
open Go.ChangeMaps (open_string shut_string)
set_option linter.unusedVariables false

theorem own : ownKnob Try.prog.godebug = none := by kernel_rfl
theorem laidOut : laidOutB Try.prog = true := by kernel_rfl

/-- WHAT THE WALK IS TOLD OF A SLICE OF INTEGERS THAT CAME IN: it is nil; or it leads to a row of 'cap' cells, the numbers 'zs' (the first 'len' are its elements, the rest its spare room), each fitting its kind. -/
def IsRow (k : IntKind) (w : World) (a : Option Addr) (len cap : Nat) (zs : List Int) : Prop :=
  (a = none ∧ len = 0 ∧ cap = 0 ∧ zs = []) ∨
  ∃ x, a = some x ∧ len ≤ cap ∧ cap ≤ maxLen ∧ zs.length = cap ∧ (∀ i, i < zs.length → w.cell? (x.add i) = some (.int k (zs.getD i 0))) ∧ ∀ n ∈ zs, (Lit.int k n).wf = true

/-! ### STEP 1: THE WALK: the Go text returns true, AND WRITES NOTHING THAT WAS THERE: 'Below w.heap.size w w'' (Derived/Below.lean: '.refl', '.alloc', '.drew', '.setCell' at a new block, '.trans'). Open each 'IsRow' by 'rcases' AHEAD of 'go_enter'; part every test ahead of the walk. -/
set_option maxHeartbeats 1000000 in
theorem walk (a0 : Option Addr) (len0 cap0 : Nat) (z0 : List Int) (a1 : Int) (w : World) (w0 : IsRow .u8 w a0 len0 cap0 z0) (w1 : (Lit.int .i64 a1).wf = true) :
    Calls Try.prog 4 #[.slice a0 len0 cap0, .int .i64 a1] w fun e w' => e = .returned (.bool true) ∧ Below w.heap.size w w' := by
  obtain ⟨hm, bs, hr⟩ := Bs.rd_of_row w0
  clear w0
  have hb := bounds_i64 w1
  by_cases h0 : len0 ≤ 1000
  · have HL := Lib.hid hr.len
    obtain ⟨S, hS⟩ : ∃ S : ByteArray, ⟨(Bs.encL bs).toArray⟩ = S := ⟨_, rfl⟩
    obtain ⟨m, hmm⟩ : ∃ m, Bs.nDig len0 = m := ⟨_, rfl⟩
    have hm1 : m ≤ 2000 := by rw [← hmm]; unfold Bs.nDig; omega
    have hSs : S.size = m := by
      rw [← hS, Lib.size_eq]
      show (Bs.encL bs).length = m
      rw [Bs.encL_length, HL.out, hmm]
    have HE : Hid (∀ w A c, Bs.Rd w A len0 c bs → Calls Try.prog 14 #[.slice A len0 c] w fun e w' => e = .returned (.string S) ∧ Below w.heap.size w w') := fun w A c h => by
      rw [← hS]; exact Encode_any A len0 c bs w h (by omega)
    have HRE : Hid (∀ w A c, Bs.Rd w A len0 c bs → Calls Try.prog 16 #[.slice A len0 c] w fun e w' => e = .returned (.string S) ∧ w = w') := fun w A c h => by
      rw [← hS]; exact rEncode_any A len0 c bs w h (by omega)
    have HSZ : Hid (∀ w, Calls Try.prog 15 #[.int .i64 len0] w fun e w' => e = .returned (.tuple #[.int .i64 m, .int .i64 0]) ∧ w = w') := fun w => by
      have := Size_yes len0 w (by omega)
      rwa [hmm] at this
    clear hS hmm
    by_cases hn : a1 < 0 ∨ 1000000000 < a1
    · have HZ : Hid (∀ w, Calls Try.prog 15 #[.int .i64 a1] w fun e w' => e = .returned (.tuple #[.int .i64 0, .int .i64 1]) ∧ w = w') := fun w => Size_no a1 w hn
      rcases hn with hn | hn
      · go_enter Try.func4, Try.ntmps4
        go_wp2_with (at_builtin; refine Bs.wpList_app _ rfl (.tmp 14) (.tmp 15) _ rfl w.heap.size 5 Try.underlying22 u8_info (.slice (some ⟨w.heap.size, 0, none⟩) 0 0) [] rfl (Bs.Own.empty _ _) a0 len0 cap0 bs rfl (hr.alloc _) (by simp only [List.length_nil]; omega) (by simp) ?_; intro v1 w1' ho1 hb1)
        rw [List.nil_append] at ho1
        obtain ⟨A1, c1, rfl, hr1⟩ := ho1.slice len0 HL.out
        have HB1 : Hid (Below w.heap.size w w1') := ((Below.refl _ w).alloc (Nat.le_refl _) _).trans hb1
        clear ho1 hb1
        go_wp2_with fail
        refine (HE.out w1' A1 c1 hr1).mono ?_
        rintro e w2 ⟨rfl, hb2⟩
        have HB2 := Lib.hid (Bs.below_step HB1.out hb2)
        have hs1 := string_rd w2 _ _ _ _ (hr1.keep hb2)
        have hs2 := string_rd w2 _ _ _ _ (hr.keep HB2.out)
        clear hb2 hr1
        go_wp2_with fail
        refine (HSZ.out w2).mono ?_
        rintro e w' ⟨rfl, rfl⟩
        go_wp2_with fail
        refine (HZ.out w2).mono ?_
        rintro e w' ⟨rfl, rfl⟩
        go_wp2_with fail
        refine (HRE.out w2 _ _ (hr.keep HB2.out)).mono ?_
        rintro e w' ⟨rfl, rfl⟩
        go_wp2_with fail
        refine (awake_any w2).mono ?_
        rintro e w3 ⟨rfl, hb3⟩
        go_wp2
        go_ret
        exact ⟨rfl, Bs.below_step HB2.out hb3⟩
      · have h00 : 0 ≤ a1 := by omega
        go_enter Try.func4, Try.ntmps4
        go_wp2_with (at_builtin; refine Bs.wpList_app _ rfl (.tmp 14) (.tmp 15) _ rfl w.heap.size 5 Try.underlying22 u8_info (.slice (some ⟨w.heap.size, 0, none⟩) 0 0) [] rfl (Bs.Own.empty _ _) a0 len0 cap0 bs rfl (hr.alloc _) (by simp only [List.length_nil]; omega) (by simp) ?_; intro v1 w1' ho1 hb1)
        rw [List.nil_append] at ho1
        obtain ⟨A1, c1, rfl, hr1⟩ := ho1.slice len0 HL.out
        have HB1 : Hid (Below w.heap.size w w1') := ((Below.refl _ w).alloc (Nat.le_refl _) _).trans hb1
        clear ho1 hb1
        go_wp2_with fail
        refine (HE.out w1' A1 c1 hr1).mono ?_
        rintro e w2 ⟨rfl, hb2⟩
        have HB2 := Lib.hid (Bs.below_step HB1.out hb2)
        have hs1 := string_rd w2 _ _ _ _ (hr1.keep hb2)
        have hs2 := string_rd w2 _ _ _ _ (hr.keep HB2.out)
        clear hb2 hr1
        go_wp2_with fail
        refine (HSZ.out w2).mono ?_
        rintro e w' ⟨rfl, rfl⟩
        go_wp2_with fail
        refine (HZ.out w2).mono ?_
        rintro e w' ⟨rfl, rfl⟩
        go_wp2_with fail
        refine (HRE.out w2 _ _ (hr.keep HB2.out)).mono ?_
        rintro e w' ⟨rfl, rfl⟩
        go_wp2_with fail
        refine (awake_any w2).mono ?_
        rintro e w3 ⟨rfl, hb3⟩
        go_wp2
        go_ret
        exact ⟨rfl, Bs.below_step HB2.out hb3⟩
    · obtain ⟨n, rfl⟩ := Int.eq_ofNat_of_zero_le (show 0 ≤ a1 by omega)
      have hn9 : n ≤ 1000000000 := by omega
      obtain ⟨k, hk⟩ : ∃ k, Bs.nDig n = k := ⟨_, rfl⟩
      have HZ : Hid (∀ w, Calls Try.prog 15 #[.int .i64 n] w fun e w' => e = .returned (.tuple #[.int .i64 k, .int .i64 0]) ∧ w = w') := fun w => by
        have := Size_yes n w hn9
        rwa [hk] at this
      have HRZ : Hid (∀ w, Calls Try.prog 17 #[.int .i64 n] w fun e w' => e = .returned (.int .i64 k) ∧ w = w') := fun w => by
        have := rSize_any n w (by omega)
        rwa [hk] at this
      clear hk hn
      go_enter Try.func4, Try.ntmps4
      go_wp2_with (at_builtin; refine Bs.wpList_app _ rfl (.tmp 14) (.tmp 15) _ rfl w.heap.size 5 Try.underlying22 u8_info (.slice (some ⟨w.heap.size, 0, none⟩) 0 0) [] rfl (Bs.Own.empty _ _) a0 len0 cap0 bs rfl (hr.alloc _) (by simp only [List.length_nil]; omega) (by simp) ?_; intro v1 w1' ho1 hb1)
      rw [List.nil_append] at ho1
      obtain ⟨A1, c1, rfl, hr1⟩ := ho1.slice len0 HL.out
      have HB1 : Hid (Below w.heap.size w w1') := ((Below.refl _ w).alloc (Nat.le_refl _) _).trans hb1
      clear ho1 hb1
      go_wp2_with fail
      refine (HE.out w1' A1 c1 hr1).mono ?_
      rintro e w2 ⟨rfl, hb2⟩
      have HB2 := Lib.hid (Bs.below_step HB1.out hb2)
      have hs1 := string_rd w2 _ _ _ _ (hr1.keep hb2)
      have hs2 := string_rd w2 _ _ _ _ (hr.keep HB2.out)
      clear hb2 hr1
      go_wp2_with fail
      refine (HSZ.out w2).mono ?_
      rintro e w' ⟨rfl, rfl⟩
      go_wp2_with fail
      refine (HZ.out w2).mono ?_
      rintro e w' ⟨rfl, rfl⟩
      go_wp2_with fail
      refine (HRE.out w2 _ _ (hr.keep HB2.out)).mono ?_
      rintro e w' ⟨rfl, rfl⟩
      go_wp2_with fail
      refine (awake_any w2).mono ?_
      rintro e w3 ⟨rfl, hb3⟩
      go_wp2_with fail
      refine (HRZ.out w3).mono ?_
      rintro e w' ⟨rfl, rfl⟩
      go_wp2
      go_ret
      exact ⟨rfl, Bs.below_step HB2.out hb3⟩
  · go_enter Try.func4, Try.ntmps4
    go_wp2
    go_ret
    exact ⟨rfl, Below.refl _ _⟩

/-! ### THE ROW's STEP: WRITTEN OUT: LEAVE IT -/
set_option maxRecDepth 100000 in
theorem lifted (os : Os) (started : os.Started) (H : Type) (enc : TypeId × Value → H) :
    ReturnsInHanded {} Try.checked os 4 .any (Rows.baseEncodesSpec.pre6 enc Try.prog Try.f4 Rows.baseEncodesRow.domain false) (Rows.baseEncodesSpec.post enc Try.prog Try.f4 false true false false) := by
  refine returnsInHanded_of_change (C := Try.checked) own started (by kernel_rfl) Try.func4
    (ChangeSpec.witness6 (enc := enc) (C := Try.checked) false ⟨#[], #[.slice none 0 0, .int .i64 0], []⟩ 8 (by kernel_rfl) (by kernel_rfl) (by kernel_rfl) (by kernel_rfl)) ?_
  intro W base args ds gs before hval0 hW hcnd _
  have hval : ∀ (j : Nat) t v, Try.f4.params[j]? = some t → args[j]? = some v → Value.okWide Try.prog W .any base t v := hval0
  have hW' := hW
  obtain ⟨p, q, hA0, hV, rfl, hfz, hnd⟩ := hW
  have hA : DataW.TrodAll enc Try.prog W 0 (fun _ => true) true Try.f4.params.toList args.toList ds p := hA0
  rw [Try.params4] at hA hval
  obtain ⟨v0, vs0, d0, ds0, p0, q0, hargs, rfl, rfl, h0, r0⟩ := trodAll_cons hA
  obtain ⟨v1, vs1, d1, ds1, p1, q1, rfl, rfl, rfl, h1, r1⟩ := trodAll_cons r0
  obtain ⟨rfl, rfl, rfl⟩ := trodAll_nil r1
  obtain rfl : args = #[v0, v1] := by cases args; simp_all
  obtain ⟨rfl, rfl⟩ := trodVars_none hV
  obtain ⟨a0, len0, cap0, rfl⟩ := okWide_slice Try.underlying22 (hval 0 22 v0 rfl rfl)
  have k0 := h0
  have lt0 : ∀ x ∈ p0, x.block < W.heap.size := by obtain ⟨m, hm⟩ := k0; exact DataW.trod_lt m _ _ _ hm
  obtain ⟨z0, w0⟩ : ∃ zs, IsRow .u8 W a0 len0 cap0 zs := by
    obtain ⟨fuel, hf⟩ := h0
    rcases open_ints Try.underlying22 Try.underlying5 (by kernel_rfl) hf with ⟨hcs, _⟩ | ⟨x, l, c, zs, hcs, _, hl, hm, hz, _, hcell, hwz⟩
    · simp [Value.cells] at hcs
      obtain ⟨rfl, rfl, rfl⟩ := hcs
      exact ⟨[], .inl ⟨rfl, rfl, rfl, rfl⟩⟩
    · simp [Value.cells] at hcs
      obtain ⟨rfl, rfl, rfl⟩ := hcs
      exact ⟨zs, .inr ⟨_, rfl, hl, hm, by simpa using hz, hcell, hwz⟩⟩
  obtain ⟨a1, rfl, rfl, rfl, w1⟩ := open_int Try.underlying3 (hval 1 3 v1 rfl rfl) h1
  clear hA0 hval0
  refine (walk a0 len0 cap0 z0 a1 W w0 w1).mono fun e W' ⟨he, bel⟩ => ?_
  subst he
  exact ⟨_, rfl, _, _, _, [], _, [], hW', trodAll_mk1 (shut_bool Try.underlying4 _), (trodAll_cons_mk (Below.trod laidOut (by kernel_rfl) (of_decide_eq_true (by kernel_rfl)) k0 bel lt0) (trodAll_cons_mk (shut_int Try.underlying3 w1) trodAll_mk0)), rfl, bel.frame _, fun h => by cases h⟩

theorem over : Rows.baseEncodesRow.holds Try.pinned (OpenSpec.ofChange Rows.baseEncodesSpec) :=
  OpenClaim.holds_of_wide 4 Try.f4 rfl rfl rfl rfl rfl rfl rfl ⟨rfl, rfl, rfl, rfl, rfl⟩ rfl rfl rfl rfl rfl (by kernel_rfl) Try.func4 (by kernel_rfl)
    (of_decide_eq_true (by kernel_rfl)) (by unfold Func.isWrapper; first | (rw [if_pos (by decide +kernel)]; kernel_rfl) | (rw [if_neg (by decide +kernel)]; exact ⟨rfl, rfl⟩))
    (fun os started H enc _ => lifted os started H enc)

/-- ████ THE STATEMENT ████ -/
theorem proved : Rows.BaseEncodesSaid := over
#print axioms proved
end Go.Proofs.Ytkkanhbcmdokcaa.baseEncodes
