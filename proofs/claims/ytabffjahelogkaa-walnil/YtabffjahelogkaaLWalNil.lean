/-
  The statement 'WalNil' (chandlerylaw06) holds at every input: the call returns true and leaves its arguments as they were. Conditions: none beyond the row's own.
-/
import Derived.Test.YtabffjahelogkaaRows
import Derived.Test.YtabffjahelogkaaW17
import Derived.WalkKit
import Derived.ProofKit
import Derived.OpenShut
import Derived.ChangeOld
import Derived.Below
namespace Go.Proofs.Ytabffjahelogkaa.walNil
open Go.ChangeShapes Go.WideShapes Go.ChangeAt Go.RowKit Go.Bs Go.Dk
set_option linter.unusedVariables false

theorem own : ownKnob Try.prog.godebug = none := by kernel_rfl
theorem laidOut : laidOutB Try.prog = true := by kernel_rfl

def IsAny (_w : World) (_a : Option Addr) (_len _cap : Nat) : Prop := True
theorem IsAny.of {α : Prop} {w : World} {a : Option Addr} {len cap : Nat} (_h : α) : IsAny w a len cap := trivial
theorem Commit_nil (w : World) (A : Option Addr) (n c : Nat) : Calls Try.prog 11 #[.pointer none, .slice A n c] w fun e w' => e = .returned (.int .i64 3) ∧ Below w.heap.size w w' := by
  obtain ⟨W1, hW1⟩ : ∃ W1, w.alloc (.cells #[.pointer none] 23) = W1 := ⟨_, rfl⟩
  obtain ⟨z, hz⟩ : ∃ z, w.heap.size = z := ⟨_, rfl⟩
  have hs1 : W1.heap.size = z + 1 := by rw [← hW1, World.size_alloc, hz]
  have hb1 : Below w.heap.size w W1 := by rw [← hW1]; exact (Below.refl _ _).alloc (Nat.le_refl _) _
  have hn1 : W1.heap[z]? = some (.cells #[.pointer none] 23 (0, 0)) := by rw [← hW1, ← hz]; exact heap_alloc_new w _
  obtain ⟨W2, hW2⟩ : ∃ W2, W1.alloc (.cells #[.slice A n c] 22) = W2 := ⟨_, rfl⟩
  have hb12 : Below W1.heap.size W1 W2 := by rw [← hW2]; exact (Below.refl _ _).alloc (Nat.le_refl _) _
  have hb2 : Below w.heap.size w W2 := bstep hb1 hb12
  have hn2' : W2.heap[z]? = some (.cells #[.pointer none] 23 (0, 0)) := (hb12.block z (by omega)).trans hn1
  have x0 : W2.cell? ⟨z, 0, none⟩ = some (.pointer none) := by rw [cell_of_row W2 z _ _ 23 (0, 0) hn2']; rfl
  have HB2 := Lib.hid hb2
  have HR := Lib.hid (wready_nil W2)
  clear hb1 hn1 hb12 hb2 hn2'
  go_enter Try.func11, Try.ntmps11
  go_wp2_with fail
  refine HR.out.mono ?_
  rintro e w1 ⟨rfl, rfl⟩
  go_wp2
  go_ret
  exact ⟨rfl, HB2.out⟩

set_option maxRecDepth 100000 in
set_option maxHeartbeats 4000000 in
theorem walk (a0 : Int) (a1 : Option Addr) (len1 cap1 : Nat) (w : World) (w0 : (Lit.int .i64 a0).wf = true) (w1 : IsAny w a1 len1 cap1) :
    Calls Try.prog 3 #[.int .i64 a0, .slice a1 len1 cap1] w fun e w' => e = .returned (.bool true) ∧ Below w.heap.size w w' := by
  clear w0 w1
  have HN := Lib.hid (New_any 8 16 (by omega) (by omega) (by omega) (by omega) w)
  go_enter Try.func3, Try.ntmps3
  go_wp2_with fail
  refine (wRead_nil w a0).mono ?_
  rintro e w1 ⟨rfl, rfl⟩
  go_wp2_with fail
  refine (wSize_nil w).mono ?_
  rintro e w1 ⟨rfl, rfl⟩
  go_wp2_with fail
  refine (Open_nil w 1).mono ?_
  rintro e w1 ⟨rfl, rfl⟩
  go_wp2_with fail
  refine HN.out.mono ?_
  rintro e w1 ⟨g, D1, rfl, hd1, hk1, hb1⟩
  have HC := Lib.hid (Crash_any w1 g (S.new 8 16) D1 hd1 (by decide) none 0 0 [] (RdQ.nil _ _ _))
  have HK1 := Lib.hid hk1
  have HB1 := Lib.hid hb1
  clear hd1 hk1 hb1 HN
  go_wp2_with fail
  refine HC.out.mono ?_
  rintro e w2 ⟨⟨v2, rfl⟩, D2, hd2, hk2, hf2⟩
  have HO := Lib.hid (Open_yes w2 g ((S.new 8 16).crash []) D2 hd2 1 rfl ((S.new 8 16).crash [], 50) (fun W p h => redo_dn W p g _ 1 false D2 h rfl))
  have HK2 : Hid (∀ k, D2 k → w.heap.size ≤ k) := fun k hk => (hk2 k hk).elim (HK1.out k) (fun h => Nat.le_trans HB1.out.size h)
  have HB2 : Hid (Below w.heap.size w w2) := HB1.out.trans (hf2.below HK1.out HB1.out.size)
  clear hd2 hk2 hf2 HC HK1 HB1
  go_wp2_with fail
  refine HO.out.mono ?_
  rintro e w3 ⟨v3, rfl, ⟨hno, _⟩ | ⟨_, rfl, D3, hd3, hk3, hf3⟩⟩
  · exact absurd hno (by decide)
  have HB3 : Hid (Below w.heap.size w w3) := HB2.out.trans (hf3.below HK2.out HB2.out.size)
  clear hd3 hk3 hf3 HO HK2 HB2
  go_wp2_with fail
  refine (awake_any w3).mono ?_
  rintro e w5 ⟨rfl, hb5⟩
  have HB5 := Lib.hid (bstep HB3.out hb5)
  clear hb5 HB3
  go_wp2_with fail
  refine (wLog_nil w5).mono ?_
  rintro e w6 ⟨rfl, rfl⟩
  go_wp2_with fail
  refine (Commit_nil w5 a1 len1 cap1).mono ?_
  rintro e w6 ⟨rfl, hb6⟩
  have HB6 := Lib.hid (bstep HB5.out hb6)
  clear hb6
  go_wp2
  go_ret
  exact ⟨rfl, HB6.out⟩

set_option maxRecDepth 100000 in
theorem lifted (os : Os) (started : os.Started) (H : Type) (enc : TypeId × Value → H) :
    ReturnsInHanded {} Try.checked os 3 .any (Rows.walNilSpec.pre6 enc Try.prog Try.f3 Rows.walNilRow.domain false) (Rows.walNilSpec.post enc Try.prog Try.f3 false true false false) := by
  refine returnsInHanded_of_change (C := Try.checked) own started (by kernel_rfl) Try.func3
    (ChangeSpec.witness6 (enc := enc) (C := Try.checked) false ⟨#[], #[.int .i64 0, .slice none 0 0], []⟩ 8 (by kernel_rfl) (by kernel_rfl) (by kernel_rfl) (by kernel_rfl)) ?_
  intro W base args ds gs before hval0 hW hcnd _
  have hval : ∀ (j : Nat) t v, Try.f3.params[j]? = some t → args[j]? = some v → Value.okWide Try.prog W .any base t v := hval0
  have hW' := hW
  obtain ⟨p, q, hA0, hV, rfl, hfz, hnd⟩ := hW
  have hA : DataW.TrodAll enc Try.prog W 0 (fun _ => true) true Try.f3.params.toList args.toList ds p := hA0
  rw [Try.params3] at hA hval
  obtain ⟨v0, vs0, d0, ds0, p0, q0, hargs, rfl, rfl, h0, r0⟩ := trodAll_cons hA
  obtain ⟨v1, vs1, d1, ds1, p1, q1, rfl, rfl, rfl, h1, r1⟩ := trodAll_cons r0
  obtain ⟨rfl, rfl, rfl⟩ := trodAll_nil r1
  obtain rfl : args = #[v0, v1] := by cases args; simp_all
  obtain ⟨rfl, rfl⟩ := trodVars_none hV
  obtain ⟨a0, rfl, rfl, rfl, w0⟩ := open_int Try.underlying3 (hval 0 3 v0 rfl rfl) h0
  obtain ⟨a1, len1, cap1, rfl⟩ := okWide_slice Try.underlying22 (hval 1 22 v1 rfl rfl)
  have k1 := h1
  have lt1 : ∀ x ∈ p1, x.block < W.heap.size := by obtain ⟨m, hm⟩ := k1; exact DataW.trod_lt m _ _ _ hm
  have w1 : IsAny W a1 len1 cap1 := by
    obtain ⟨fuel, hf⟩ := h1
    exact IsAny.of hf
  clear hA0 hval0
  refine (walk a0 a1 len1 cap1 W w0 w1).mono fun e W' ⟨he, bel⟩ => ?_
  subst he
  exact ⟨_, rfl, _, _, _, [], _, [], hW', trodAll_mk1 (shut_bool Try.underlying4 _), (trodAll_cons_mk (shut_int Try.underlying3 w0) (trodAll_cons_mk (Below.trod laidOut (by kernel_rfl) (of_decide_eq_true (by kernel_rfl)) k1 bel lt1) trodAll_mk0)), rfl, bel.frame _, fun h => by cases h⟩

theorem over : Rows.walNilRow.holds Try.pinned (OpenSpec.ofChange Rows.walNilSpec) :=
  OpenClaim.holds_of_wide 3 Try.f3 rfl rfl rfl rfl rfl rfl rfl ⟨rfl, rfl, rfl, rfl, rfl⟩ rfl rfl rfl rfl rfl (by kernel_rfl) Try.func3 (by kernel_rfl)
    (of_decide_eq_true (by kernel_rfl)) (by unfold Func.isWrapper; first | (rw [if_pos (by decide +kernel)]; kernel_rfl) | (rw [if_neg (by decide +kernel)]; exact ⟨rfl, rfl⟩))
    (fun os started H enc _ => lifted os started H enc)

/-- the statement. -/
theorem proved : Rows.WalNilSaid := over
#print axioms proved
end Go.Proofs.Ytabffjahelogkaa.walNil
