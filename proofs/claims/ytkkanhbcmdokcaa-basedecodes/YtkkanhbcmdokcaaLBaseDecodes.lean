/-
  The statement 'BaseDecodes' (chandlerylaw02) holds at every input: the call returns true and leaves its arguments as they were. Conditions: none beyond the row's own.
-/
import Derived.Test.YtkkanhbcmdokcaaRows
import Derived.Test.YtkkanhbcmdokcaaT8
import Derived.WalkKit
import Derived.ProofKit
import Derived.OpenShut
import Derived.ShutString
import Derived.ChangeOld
import Derived.Below
namespace Go.Proofs.Ytkkanhbcmdokcaa.baseDecodes
open Go.ChangeShapes Go.WideShapes Go.ChangeAt Go.RowKit
open Go.ChangeMaps (open_string shut_string)
set_option linter.unusedVariables false      -- a walk need not use every 'w<i>' (that an integer argument fits its kind)

theorem own : ownKnob Try.prog.godebug = none := by kernel_rfl

/-! ### STEP 1: THE WALK: the Go text returns true. 'Grown w w'': the world has at most new blocks (Derived/RowKit3.lean). Part the cases AHEAD of 'go_enter' where a test parts the walk; take each callee by a contract of your own. -/
set_option maxHeartbeats 400000 in
theorem rDecode_yes (s : ByteArray) (l : List UInt8) (n : Nat) (w : World) (hsl : s.data.toList = l) (hs : s.size ≤ 1099511627776) (hn : Bs.nByt s.size = n) (hg : Bs.encL (Bs.decL l) = l) :
    Calls Try.prog 19 #[.string s] w fun e w' => e = .returned (.tuple #[.slice (some ⟨w.heap.size, 0, none⟩) n n, .bool true]) ∧ Bs.Rd w' (some ⟨w.heap.size, 0, none⟩) n n (Bs.decL l) ∧ Below w.heap.size w w' := by
  refine (rDecode_any s l w hsl hs).mono ?_
  rintro e w' ⟨hb, ⟨_, rfl, hB⟩ | ⟨h, _⟩⟩
  · subst hn
    exact ⟨rfl, hB.all' _ _ (by rw [Bs.decL_length, ← hsl]; simp) (Nat.le_refl _), hb⟩
  · exact absurd hg h
theorem rDecode_no (s : ByteArray) (l : List UInt8) (w : World) (hsl : s.data.toList = l) (hs : s.size ≤ 1099511627776) (hg : Bs.encL (Bs.decL l) ≠ l) :
    Calls Try.prog 19 #[.string s] w fun e w' => (∃ A n c, e = .returned (.tuple #[.slice A n c, .bool false])) ∧ Below w.heap.size w w' := by
  refine (rDecode_any s l w hsl hs).mono ?_
  rintro e w' ⟨hb, ⟨h, rfl, hB⟩ | ⟨h, A, n, c, rfl⟩⟩
  · exact absurd h hg
  · exact ⟨⟨A, n, c, rfl⟩, hb⟩

set_option maxHeartbeats 1000000 in
theorem walk (a0 : ByteArray) (w0 : a0.size ≤ maxLen) (w : World) :
    Calls Try.prog 5 #[.string a0] w fun e w' => e = .returned (.bool true) ∧ Below w.heap.size w w' := by
  obtain ⟨l, hl⟩ : ∃ l, a0.data.toList = l := ⟨_, rfl⟩
  by_cases hs : a0.size ≤ 1000
  · obtain ⟨n, hn⟩ : ∃ n, Bs.nByt a0.size = n := ⟨_, rfl⟩
    by_cases hg : Bs.encL (Bs.decL l) = l
    · have HD := Lib.hid (Decode_yes a0 l n w hl (by omega) hn hg)
      have HRD : Hid (∀ w, Calls Try.prog 19 #[.string a0] w fun e w' => e = .returned (.tuple #[.slice (some ⟨w.heap.size, 0, none⟩) n n, .bool true]) ∧ Bs.Rd w' (some ⟨w.heap.size, 0, none⟩) n n (Bs.decL l) ∧ Below w.heap.size w w') := fun w => rDecode_yes a0 l n w hl (by omega) hn hg
      clear hn hg hl
      go_enter Try.func5, Try.ntmps5
      go_wp2_with fail
      refine HD.out.mono ?_
      rintro e w1 ⟨rfl, hr1, hb1⟩
      obtain ⟨g1, hg1⟩ : ∃ g, w.heap.size = g := ⟨_, rfl⟩
      rw [hg1] at hr1 ⊢
      go_wp2_with fail
      refine (HRD.out w1).mono ?_
      rintro e w2 ⟨rfl, hr2, hb2⟩
      have hr1 := hr1.keep hb2
      have HB2 := Lib.hid (Bs.below_step hb1 hb2)
      obtain ⟨g2, hg2⟩ : ∃ g, w1.heap.size = g := ⟨_, rfl⟩
      rw [hg2] at hr2 ⊢
      clear hb1 hb2
      go_wp2_with fail
      refine (awake_any w2).mono ?_
      rintro e w3 ⟨rfl, hb3⟩
      have hs1 := string_rd w3 _ _ _ _ (hr1.keep hb3)
      have hs2 := string_rd w3 _ _ _ _ (hr2.keep hb3)
      have HB3 := Lib.hid (Bs.below_step HB2.out hb3)
      clear hb3
      go_wp2
      go_ret
      rw [hg1]
      exact ⟨rfl, by have := HB3.out; rwa [hg1] at this⟩
    · have HD := Lib.hid (Decode_no a0 l w hl (by omega) hg)
      have HRD : Hid (∀ w, Calls Try.prog 19 #[.string a0] w fun e w' => (∃ A n c, e = .returned (.tuple #[.slice A n c, .bool false])) ∧ Below w.heap.size w w') := fun w => rDecode_no a0 l w hl (by omega) hg
      clear hn hg hl
      go_enter Try.func5, Try.ntmps5
      go_wp2_with fail
      refine HD.out.mono ?_
      rintro e w1 ⟨rfl, hb1⟩
      go_wp2_with fail
      refine (HRD.out w1).mono ?_
      rintro e w2 ⟨⟨A2, n2, c2, rfl⟩, hb2⟩
      have HB2 := Lib.hid (Bs.below_step hb1 hb2)
      clear hb1 hb2
      go_wp2_with fail
      refine (awake_any w2).mono ?_
      rintro e w3 ⟨rfl, hb3⟩
      have HB3 := Lib.hid (Bs.below_step HB2.out hb3)
      clear hb3
      go_wp2
      go_ret
      exact ⟨rfl, HB3.out⟩
  · clear hl
    go_enter Try.func5, Try.ntmps5
    go_wp2
    go_ret
    exact ⟨rfl, Below.refl _ _⟩

/-! ### THE ROW's STEP: WRITTEN OUT: LEAVE IT -/
set_option maxRecDepth 100000 in
theorem lifted (os : Os) (started : os.Started) (H : Type) (enc : TypeId × Value → H) :
    ReturnsInHanded {} Try.checked os 5 .any (Rows.baseDecodesSpec.pre6 enc Try.prog Try.f5 Rows.baseDecodesRow.domain false) (Rows.baseDecodesSpec.post enc Try.prog Try.f5 false true false false) := by
  refine returnsInHanded_of_change (C := Try.checked) own started (by kernel_rfl) Try.func5
    (ChangeSpec.witness6 (enc := enc) (C := Try.checked) false ⟨#[], #[.string ByteArray.empty], []⟩ 8 (by kernel_rfl) (by kernel_rfl) (by kernel_rfl) (by kernel_rfl)) ?_
  intro W base args ds gs before hval0 hW hcnd _
  have hval : ∀ (j : Nat) t v, Try.f5.params[j]? = some t → args[j]? = some v → Value.okWide Try.prog W .any base t v := hval0
  have hW' := hW
  obtain ⟨p, q, hA0, hV, rfl, hfz, hnd⟩ := hW
  have hA : DataW.TrodAll enc Try.prog W 0 (fun _ => true) true Try.f5.params.toList args.toList ds p := hA0
  rw [Try.params5] at hA hval
  obtain ⟨v0, vs0, d0, ds0, p0, q0, hargs, rfl, rfl, h0, r0⟩ := trodAll_cons hA
  obtain ⟨rfl, rfl, rfl⟩ := trodAll_nil r0
  obtain rfl : args = #[v0] := by cases args; simp_all
  obtain ⟨rfl, rfl⟩ := trodVars_none hV
  obtain ⟨a0, rfl, rfl, rfl, w0⟩ := open_string Try.underlying9 (hval 0 9 v0 rfl rfl) h0
  clear hA0 hval0
  refine (walk a0 w0 W).mono fun e W' ⟨he, bel⟩ => ?_
  subst he
  exact ⟨_, rfl, _, _, _, [], _, [], hW', trodAll_mk1 (shut_bool Try.underlying4 _), (trodAll_cons_mk (shut_string Try.underlying9 w0) trodAll_mk0), rfl, bel.frame _, fun h => by cases h⟩

theorem over : Rows.baseDecodesRow.holds Try.pinned (OpenSpec.ofChange Rows.baseDecodesSpec) :=
  OpenClaim.holds_of_wide 5 Try.f5 rfl rfl rfl rfl rfl rfl rfl ⟨rfl, rfl, rfl, rfl, rfl⟩ rfl rfl rfl rfl rfl (by kernel_rfl) Try.func5 (by kernel_rfl)
    (of_decide_eq_true (by kernel_rfl)) (by unfold Func.isWrapper; first | (rw [if_pos (by decide +kernel)]; kernel_rfl) | (rw [if_neg (by decide +kernel)]; exact ⟨rfl, rfl⟩))
    (fun os started H enc _ => lifted os started H enc)

/-- ████ THE STATEMENT ████ -/
theorem proved : Rows.BaseDecodesSaid :=
  over
#print axioms proved
end Go.Proofs.Ytkkanhbcmdokcaa.baseDecodes
