/-
  The statement 'BaseOrder' (chandlerylaw02) holds at every input: the call returns true and leaves its arguments as they were. Conditions: none beyond the row's own.
-/
import Derived.Test.YtkkanhbcmdokcaaRows
import Derived.Test.YtkkanhbcmdokcaaT8
import Derived.Test.YtkkanhbcmdokcaaOrd
import Derived.WalkSmall
import Derived.Deep.QuietTactic
import Derived.BigQuiet
import Derived.WalkKit
import Derived.ProofKit
import Derived.OpenShut
import Derived.ShutString
import Derived.ChangeOld
import Derived.Below
namespace Go.Proofs.Ytkkanhbcmdokcaa.baseOrder
open Go.ChangeShapes Go.WideShapes Go.ChangeAt Go.RowKit
open Go.ChangeMaps (open_string shut_string)
set_option linter.unusedVariables false

theorem own : ownKnob Try.prog.godebug = none := by kernel_rfl
theorem laidOut : laidOutB Try.prog = true := by kernel_rfl

/-- WHAT THE WALK IS TOLD OF A SLICE OF INTEGERS THAT CAME IN: it is nil; or it leads to a row of 'cap' cells, the numbers 'zs' (the first 'len' are its elements, the rest its spare room), each fitting its kind. -/
def IsRow (k : IntKind) (w : World) (a : Option Addr) (len cap : Nat) (zs : List Int) : Prop :=
  (a = none ∧ len = 0 ∧ cap = 0 ∧ zs = []) ∨
  ∃ x, a = some x ∧ len ≤ cap ∧ cap ≤ maxLen ∧ zs.length = cap ∧ (∀ i, i < zs.length → w.cell? (x.add i) = some (.int k (zs.getD i 0))) ∧ ∀ n ∈ zs, (Lit.int k n).wf = true

/-! ### STEP 1: THE WALK: the Go text returns true, AND WRITES NOTHING THAT WAS THERE: 'Below w.heap.size w w'' (Derived/Below.lean: '.refl', '.alloc', '.drew', '.setCell' at a new block, '.trans'). Open each 'IsRow' by 'rcases' AHEAD of 'go_enter'; part every test ahead of the walk. -/
set_option maxHeartbeats 1000000 in
theorem walk (a0 : Option Addr) (len0 cap0 : Nat) (z0 : List Int) (a1 : Option Addr) (len1 cap1 : Nat) (z1 : List Int) (w : World) (w0 : IsRow .u8 w a0 len0 cap0 z0) (w1 : IsRow .u8 w a1 len1 cap1 z1) :
    Calls Try.prog 7 #[.slice a0 len0 cap0, .slice a1 len1 cap1] w fun e w' => e = .returned (.bool true) ∧ Below w.heap.size w w' := by
  obtain ⟨hm0, xs, hr0⟩ := Bs.rd_of_row w0
  obtain ⟨hm1, ys, hr1⟩ := Bs.rd_of_row w1
  clear w0 w1
  by_cases h0 : len0 ≤ 1000
  · by_cases h1 : len0 = len1
    · subst h1
      have HR0 := Lib.hid hr0
      have HR1 := Lib.hid hr1
      have hcap0 := hr0.cap
      have hcap1 := hr1.cap
      obtain ⟨S, hS⟩ : ∃ S : ByteArray, ⟨(Bs.encL xs).toArray⟩ = S := ⟨_, rfl⟩
      obtain ⟨T, hT⟩ : ∃ S : ByteArray, ⟨(Bs.encL ys).toArray⟩ = S := ⟨_, rfl⟩
      have HEA : Hid (∀ w, Bs.Rd w a0 len0 cap0 xs → Calls Try.prog 14 #[.slice a0 len0 cap0] w fun e w' => e = .returned (.string S) ∧ Below w.heap.size w w') := fun w h => by
        rw [← hS]; exact Encode_any _ _ _ xs w h (by omega)
      have HEB : Hid (∀ w, Bs.Rd w a1 len0 cap1 ys → Calls Try.prog 14 #[.slice a1 len0 cap1] w fun e w' => e = .returned (.string T) ∧ Below w.heap.size w w') := fun w h => by
        rw [← hT]; exact Encode_any _ _ _ ys w h (by omega)
      have hSl : S.toList = Bs.encL xs := by rw [← hS]; simp
      have hTl : T.toList = Bs.encL ys := by rw [← hT]; simp
      have HLESS : Hid (Op.bytesLess S.toList T.toList = decide (Bs.leN xs < Bs.leN ys)) := by
        show Op.bytesLess S.toList T.toList = _
        rw [hSl, hTl, Bs.less_encL xs ys (by rw [hr0.len, hr1.len])]
      have HEQ : Hid ((S.toList == T.toList) = decide (xs = ys)) := by
        show (S.toList == T.toList) = _
        rw [hSl, hTl, Bs.beq_encL]
      have HINJ : Hid (xs = ys → Bs.leN xs = Bs.leN ys) := fun h => by rw [h]
      clear hS hT hSl hTl hr0 hr1
      go_enter Try.func7, Try.ntmps7
      go_wp2
      go_loopw [5, 6, 7] (fun l s i wr => Below w.heap.size w wr ∧ ∃ t : Nat, t ≤ len0 ∧ i = .int .i64 ((len0 : Int) - 1 - t) ∧ ((s = .bool true ∧ l = .bool false ∧ xs.drop (len0 - t) = ys.drop (len0 - t)) ∨ (s = .bool false ∧ l = .bool (decide (Bs.leN xs < Bs.leN ys)) ∧ Bs.leN xs ≠ Bs.leN ys))) (fun _ _ i _ => (intOf i + 1).toNat)
      case atStart =>
        refine ⟨Below.refl _ _, 0, Nat.zero_le _, by simp, .inl ⟨rfl, rfl, ?_⟩⟩
        rw [List.drop_eq_nil_of_le (by rw [HR0.out.len]; exact Nat.le_refl _), List.drop_eq_nil_of_le (by rw [HR1.out.len]; exact Nat.le_refl _)]
      case round =>
        obtain ⟨hbel, t, ht, rfl, hcase⟩ := hrel
        rcases hcase with ⟨rfl, rfl, hdr⟩ | ⟨rfl, rfl, hne⟩
        · by_cases hlt : t < len0
          · obtain ⟨i, hi⟩ : ∃ i, len0 = i + t + 1 := ⟨len0 - 1 - t, by omega⟩
            have ei : ((len0 : Int) - 1 - t) = (i : Int) := by omega
            rw [ei]
            have hil : i < len0 := by omega
            obtain ⟨g, o, rfl, hg, hc⟩ := (HR0.out.keep hbel).cells (by omega)
            obtain ⟨g', o', rfl, hg', hc'⟩ := (HR1.out.keep hbel).cells (by omega)
            obtain ⟨x, hx⟩ : ∃ x, xs.getD i 0 = x := ⟨_, rfl⟩
            obtain ⟨y, hy⟩ : ∃ y, ys.getD i 0 = y := ⟨_, rfl⟩
            have hcx := hc i hil
            have hcy := hc' i hil
            rw [hx] at hcx
            rw [hy] at hcy
            have q1 : (0 : Int) ≤ (i : Int) ∧ (i : Int) < (len0 : Int) := by omega
            have HX := Lib.hid hx
            have HY := Lib.hid hy
            have HDR := Lib.hid hdr
            have HBB := Lib.hid hbel
            have HI := Lib.hid hi
            have HEI := Lib.hid ei
            have hi0 : i ≤ 1000 := by omega
            clear hc hc' hx hy hdr hbel hg hg' hi ei
            by_cases hxy : x = y
            · subst hxy
              have hne : ((x.toNat : Int) != (x.toNat : Int)) = false := by simp
              go_wp2
              go_quiet (fail)
              go_wp2
              go_roundw
              case rel =>
                refine ⟨below_drewN HBB.out _, t + 1, by omega, by congr 1; have := HI.out; omega, .inl ⟨rfl, rfl, ?_⟩⟩
                have e : len0 - (t + 1) = i := by have := HI.out; omega
                have e2 : len0 - t = i + 1 := by have := HI.out; omega
                have hd := HDR.out
                rw [e2] at hd
                rw [e, List.drop_eq_getElem_cons (show i < xs.length by rw [HR0.out.len]; exact hil), List.drop_eq_getElem_cons (show i < ys.length by rw [HR1.out.len]; exact hil), hd, ← Bs.getD_get _ _ _, ← Bs.getD_get _ _ _, HX.out, HY.out]
              case measure => simp [intOf]
            · have hne : ((x.toNat : Int) != (y.toNat : Int)) = true := by
                have : x.toNat ≠ y.toNat := fun e => hxy (UInt8.toNat_inj.1 e)
                rw [bne_iff_ne]; omega
              go_wp2
              go_quiet (fail)
              go_wp2
              go_quiet (fail)
              go_wp2
              go_roundw
              case rel =>
                have e2 : len0 - t = i + 1 := by have := HI.out; omega
                have hd := HDR.out
                rw [e2] at hd
                obtain ⟨k1, k2⟩ := Bs.leN_first xs ys len0 i HR0.out.len HR1.out.len hil x y HX.out HY.out hd hxy
                refine ⟨below_drewN HBB.out _, t + 1, by omega, by congr 1; have := HI.out; omega, .inr ⟨rfl, ?_, k2⟩⟩
                rw [k1]
              case measure => simp [intOf]
          · obtain rfl : t = len0 := by omega
            rw [Nat.sub_self, List.drop_zero, List.drop_zero] at hdr
            have hl := HLESS.out
            have hq := HEQ.out
            rw [hdr, decide_eq_false (Nat.lt_irrefl _)] at hl
            rw [decide_eq_true hdr] at hq
            clear hdr
            have HBB := Lib.hid hbel
            clear hbel
            go_wp2_with fail
            refine (HEA.out wr (HR0.out.keep HBB.out)).mono ?_
            rintro e w1' ⟨rfl, hb1⟩
            have HB1 := Lib.hid (Bs.below_step HBB.out hb1)
            clear hb1
            go_wp2_with fail
            refine (HEB.out w1' (HR1.out.keep HB1.out)).mono ?_
            rintro e w2 ⟨rfl, hb2⟩
            have HB2 := Lib.hid (Bs.below_step HB1.out hb2)
            clear hb2
            go_wp2_with fail
            refine (awake_any w2).mono ?_
            rintro e w3 ⟨rfl, hb3⟩
            go_wp2
            go_ret
            exact ⟨rfl, Bs.below_step HB2.out hb3⟩
        · have hl := HLESS.out
          have hq := HEQ.out
          rw [decide_eq_false (fun h => hne (HINJ.out h))] at hq
          obtain ⟨lb, hlb⟩ : ∃ lb, decide (Bs.leN xs < Bs.leN ys) = lb := ⟨_, rfl⟩
          rw [hlb] at hl ⊢
          clear hne hlb
          by_cases hlt : t < len0
          · have HBB := Lib.hid hbel
            clear hbel
            go_wp2_with fail
            refine (HEA.out wr (HR0.out.keep HBB.out)).mono ?_
            rintro e w1' ⟨rfl, hb1⟩
            have HB1 := Lib.hid (Bs.below_step HBB.out hb1)
            clear hb1
            go_wp2_with fail
            refine (HEB.out w1' (HR1.out.keep HB1.out)).mono ?_
            rintro e w2 ⟨rfl, hb2⟩
            have HB2 := Lib.hid (Bs.below_step HB1.out hb2)
            clear hb2
            go_wp2_with fail
            refine (awake_any w2).mono ?_
            rintro e w3 ⟨rfl, hb3⟩
            go_wp2
            go_ret
            exact ⟨rfl, Bs.below_step HB2.out hb3⟩
          · obtain rfl : t = len0 := by omega
            have HBB := Lib.hid hbel
            clear hbel
            go_wp2_with fail
            refine (HEA.out wr (HR0.out.keep HBB.out)).mono ?_
            rintro e w1' ⟨rfl, hb1⟩
            have HB1 := Lib.hid (Bs.below_step HBB.out hb1)
            clear hb1
            go_wp2_with fail
            refine (HEB.out w1' (HR1.out.keep HB1.out)).mono ?_
            rintro e w2 ⟨rfl, hb2⟩
            have HB2 := Lib.hid (Bs.below_step HB1.out hb2)
            clear hb2
            go_wp2_with fail
            refine (awake_any w2).mono ?_
            rintro e w3 ⟨rfl, hb3⟩
            go_wp2
            go_ret
            exact ⟨rfl, Bs.below_step HB2.out hb3⟩
    · have hne : ((len0 : Int) != (len1 : Int)) = true := by rw [bne_iff_ne]; omega
      go_enter Try.func7, Try.ntmps7
      go_wp2
      go_ret
      exact ⟨rfl, Below.refl _ _⟩
  · go_enter Try.func7, Try.ntmps7
    go_wp2
    go_ret
    exact ⟨rfl, Below.refl _ _⟩

/-! ### THE ROW's STEP: WRITTEN OUT: LEAVE IT -/
set_option maxRecDepth 100000 in
theorem lifted (os : Os) (started : os.Started) (H : Type) (enc : TypeId × Value → H) :
    ReturnsInHanded {} Try.checked os 7 .any (Rows.baseOrderSpec.pre6 enc Try.prog Try.f7 Rows.baseOrderRow.domain false) (Rows.baseOrderSpec.post enc Try.prog Try.f7 false true false false) := by
  refine returnsInHanded_of_change (C := Try.checked) own started (by kernel_rfl) Try.func7
    (ChangeSpec.witness6 (enc := enc) (C := Try.checked) false ⟨#[], #[.slice none 0 0, .slice none 0 0], []⟩ 8 (by kernel_rfl) (by kernel_rfl) (by kernel_rfl) (by kernel_rfl)) ?_
  intro W base args ds gs before hval0 hW hcnd _
  have hval : ∀ (j : Nat) t v, Try.f7.params[j]? = some t → args[j]? = some v → Value.okWide Try.prog W .any base t v := hval0
  have hW' := hW
  obtain ⟨p, q, hA0, hV, rfl, hfz, hnd⟩ := hW
  have hA : DataW.TrodAll enc Try.prog W 0 (fun _ => true) true Try.f7.params.toList args.toList ds p := hA0
  rw [Try.params7] at hA hval
  obtain ⟨v0, vs0, d0, ds0, p0, q0, hargs, rfl, rfl, h0, r0⟩ := trodAll_cons hA
  obtain ⟨v1, vs1, d1, ds1, p1, q1, rfl, rfl, rfl, h1, r1⟩ := trodAll_cons r0
  obtain ⟨rfl, rfl, rfl⟩ := trodAll_nil r1
  obtain rfl : args = #[v0, v1] := by cases args; simp_all
  obtain ⟨rfl, rfl⟩ := trodVars_none hV
  obtain ⟨a0, len0, cap0, rfl⟩ := okWide_slice Try.underlying22 (hval 0 22 v0 rfl rfl)
  have k0 := h0
  have lt0 : ∀ x ∈ p0, x.block < W.heap.size := by obtain ⟨m, hm⟩ := k0; exact DataW.trod_lt m _ _ _ hm
  obtain ⟨z0, w0⟩ : ∃ zs, IsRow .u8 W a0 len0 cap0 zs := by
    obtain ⟨fuel, hf⟩ := h0
    rcases open_ints Try.underlying22 Try.underlying5 (by kernel_rfl) hf with ⟨hcs, _⟩ | ⟨x, l, c, zs, hcs, _, hl, hm, hz, _, hcell, hwz⟩
    · simp [Value.cells] at hcs
      obtain ⟨rfl, rfl, rfl⟩ := hcs
      exact ⟨[], .inl ⟨rfl, rfl, rfl, rfl⟩⟩
    · simp [Value.cells] at hcs
      obtain ⟨rfl, rfl, rfl⟩ := hcs
      exact ⟨zs, .inr ⟨_, rfl, hl, hm, by simpa using hz, hcell, hwz⟩⟩
  obtain ⟨a1, len1, cap1, rfl⟩ := okWide_slice Try.underlying22 (hval 1 22 v1 rfl rfl)
  have k1 := h1
  have lt1 : ∀ x ∈ p1, x.block < W.heap.size := by obtain ⟨m, hm⟩ := k1; exact DataW.trod_lt m _ _ _ hm
  obtain ⟨z1, w1⟩ : ∃ zs, IsRow .u8 W a1 len1 cap1 zs := by
    obtain ⟨fuel, hf⟩ := h1
    rcases open_ints Try.underlying22 Try.underlying5 (by kernel_rfl) hf with ⟨hcs, _⟩ | ⟨x, l, c, zs, hcs, _, hl, hm, hz, _, hcell, hwz⟩
    · simp [Value.cells] at hcs
      obtain ⟨rfl, rfl, rfl⟩ := hcs
      exact ⟨[], .inl ⟨rfl, rfl, rfl, rfl⟩⟩
    · simp [Value.cells] at hcs
      obtain ⟨rfl, rfl, rfl⟩ := hcs
      exact ⟨zs, .inr ⟨_, rfl, hl, hm, by simpa using hz, hcell, hwz⟩⟩
  clear hA0 hval0
  refine (walk a0 len0 cap0 z0 a1 len1 cap1 z1 W w0 w1).mono fun e W' ⟨he, bel⟩ => ?_
  subst he
  exact ⟨_, rfl, _, _, _, [], _, [], hW', trodAll_mk1 (shut_bool Try.underlying4 _), (trodAll_cons_mk (Below.trod laidOut (by kernel_rfl) (of_decide_eq_true (by kernel_rfl)) k0 bel lt0) (trodAll_cons_mk (Below.trod laidOut (by kernel_rfl) (of_decide_eq_true (by kernel_rfl)) k1 bel lt1) trodAll_mk0)), rfl, bel.frame _, fun h => by cases h⟩

theorem over : Rows.baseOrderRow.holds Try.pinned (OpenSpec.ofChange Rows.baseOrderSpec) :=
  OpenClaim.holds_of_wide 7 Try.f7 rfl rfl rfl rfl rfl rfl rfl ⟨rfl, rfl, rfl, rfl, rfl⟩ rfl rfl rfl rfl rfl (by kernel_rfl) Try.func7 (by kernel_rfl)
    (of_decide_eq_true (by kernel_rfl)) (by unfold Func.isWrapper; first | (rw [if_pos (by decide +kernel)]; kernel_rfl) | (rw [if_neg (by decide +kernel)]; exact ⟨rfl, rfl⟩))
    (fun os started H enc _ => lifted os started H enc)

/-- ████ THE STATEMENT ████ -/
theorem proved : Rows.BaseOrderSaid := over
#print axioms proved
end Go.Proofs.Ytkkanhbcmdokcaa.baseOrder
