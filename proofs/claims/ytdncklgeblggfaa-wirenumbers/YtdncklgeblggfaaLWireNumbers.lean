/-
  The statement 'WireNumbers' (chandlerylaw01) holds at every input: the call returns true and leaves its arguments as they were. Conditions: none beyond the row's own.
-/
import Derived.Test.YtdncklgeblggfaaRows
import Derived.Test.YtdncklgeblggfaaT4
import Derived.Test.YtdncklgeblggfaaB2
import Derived.WalkKit
import Derived.ProofKit
import Derived.OpenShut
import Derived.ShutString
import Derived.ChangeOld
import Derived.Below
namespace Go.Proofs.Ytdncklgeblggfaa.wireNumbers
open Go.ChangeShapes Go.WideShapes Go.ChangeAt Go.RowKit
open Go.ChangeMaps (open_string shut_string)
set_option linter.unusedVariables false

theorem own : ownKnob Try.prog.godebug = none := by kernel_rfl
theorem laidOut : laidOutB Try.prog = true := by kernel_rfl

/-- WHAT THE WALK IS TOLD OF A SLICE OF INTEGERS THAT CAME IN: it is nil; or it leads to a row of 'cap' cells, the numbers 'zs' (the first 'len' are its elements, the rest its spare room), each fitting its kind. -/
def IsRow (k : IntKind) (w : World) (a : Option Addr) (len cap : Nat) (zs : List Int) : Prop :=
  (a = none ∧ len = 0 ∧ cap = 0 ∧ zs = []) ∨
  ∃ x, a = some x ∧ len ≤ cap ∧ cap ≤ maxLen ∧ zs.length = cap ∧ (∀ i, i < zs.length → w.cell? (x.add i) = some (.int k (zs.getD i 0))) ∧ ∀ n ∈ zs, (Lit.int k n).wf = true

/-! ### STEP 1: THE WALK: the Go text returns true, AND WRITES NOTHING THAT WAS THERE: 'Below w.heap.size w w'' (Derived/Below.lean: '.refl', '.alloc', '.drew', '.setCell' at a new block, '.trans'). Open each 'IsRow' by 'rcases' AHEAD of 'go_enter'; part every test ahead of the walk. -/
def R1 (w : World) (zs : List Int) (n : Nat) (v i : Value) (wr : World) : Prop :=
  ∃ (k : Nat) (A : Option Addr) (c : Nat), k ≤ n ∧ i = .int .i64 k ∧ v = .slice A (8 * k) c ∧ Bs.Rd wr A (8 * k) c (Bs.rows (zs.take k)) ∧ Below w.heap.size w wr ∧ ∀ j, j < k → 0 ≤ zs.getD j 0 ∧ zs.getD j 0 ≤ 2147483647

set_option maxHeartbeats 1000000 in
theorem walk (a0 : Option Addr) (len0 cap0 : Nat) (z0 : List Int) (w : World) (w0 : IsRow .i64 w a0 len0 cap0 z0) :
    Calls Try.prog 8 #[.slice a0 len0 cap0] w fun e w' => e = .returned (.bool true) ∧ Below w.heap.size w w' := by
  obtain ⟨hm, zs, hr⟩ := Bs.rdI_of_row w0
  clear w0
  have HL := Lib.hid hr.len
  by_cases hs : len0 ≤ 200
  · go_enter Try.func8, Try.ntmps8
    go_wp2
    go_loopw [3, 4] (fun v i wr => R1 w zs len0 v i wr) (fun _ i _ => len0 - (intOf i).toNat)
    case atStart => exact ⟨0, none, 0, Nat.zero_le _, rfl, rfl, Bs.Rd.nil _ _ _, Below.refl _ _, fun j hj => absurd hj (by omega)⟩
    case round =>
      obtain ⟨k, A, c, hk, rfl, rfl, hR, hB, hz⟩ := hrel
      have HZ := Lib.hid hz
      clear hz
      by_cases hlt : k < len0
      · obtain ⟨g, o, rfl, hg, hc⟩ := hr.cells (by omega)
        obtain ⟨z, hzk⟩ : ∃ z, zs.getD k 0 = z := ⟨_, rfl⟩
        have hcell := (hB.cell (p := ⟨g, o + k, none⟩) hg).trans (hc k hlt)
        rw [hzk] at hcell
        have HZK := Lib.hid hzk
        clear hc hzk
        by_cases hin : 0 ≤ z ∧ z ≤ 2147483647
        · obtain ⟨x, rfl⟩ := Int.eq_ofNat_of_zero_le hin.1
          have hx : x ≤ 2147483647 := by omega
          clear hin
          go_wp2_with fail
          refine (Put_yes A (8 * k) c x _ wr hR (by omega) hx).mono ?_
          rintro e w1 ⟨rfl, hBk, hb1⟩
          have HBk := Lib.hid hBk
          clear hBk
          go_wp2
          go_roundw
          case rel =>
            refine ⟨k + 1, _, _, by omega, by go_num, rfl, ?_, Bs.below_step hB hb1, fun j hj => ?_⟩
            · rw [Bs.rows_take_succ zs k (by rw [HL.out]; exact hlt), HZK.out, Int.toNat_natCast]
              exact HBk.out.all' _ _ (by rw [List.length_append, Bs.numB_length, hR.len]; omega) (by omega)
            · by_cases hjk : j < k
              · exact HZ.out j hjk
              · obtain rfl : j = k := by omega
                rw [HZK.out]; omega
          case measure => simp [intOf]; omega
        · have hno : z < 0 ∨ 2147483647 < z := by omega
          have htest : (decide (z < 0) || decide (2147483647 < z)) = true := by simpa using hno
          rcases hno with hno | hno
          · go_wp2_with fail
            refine (Put_no A (8 * k) c z wr (by omega)).mono ?_
            rintro e w1 ⟨rfl, rfl⟩
            go_wp2_with fail
            refine (awake_any wr).mono ?_
            rintro e w2 ⟨rfl, hb2⟩
            have hcell2 := (hb2.cell (p := ⟨g, o + k, none⟩) (Nat.lt_of_lt_of_le hg hB.size)).trans hcell
            go_wp2
            go_ret
            exact ⟨rfl, Bs.below_step hB hb2⟩
          · have h0 : 0 ≤ z := by omega
            go_wp2_with fail
            refine (Put_no A (8 * k) c z wr (by omega)).mono ?_
            rintro e w1 ⟨rfl, rfl⟩
            go_wp2_with fail
            refine (awake_any wr).mono ?_
            rintro e w2 ⟨rfl, hb2⟩
            have hcell2 := (hb2.cell (p := ⟨g, o + k, none⟩) (Nat.lt_of_lt_of_le hg hB.size)).trans hcell
            go_wp2
            go_ret
            exact ⟨rfl, Bs.below_step hB hb2⟩
      · obtain rfl : k = len0 := by omega
        have hR' : Bs.Rd wr A (8 * k) c (Bs.rows zs) := by
          have e : zs.take k = zs := List.take_of_length_le (by rw [HL.out]; exact Nat.le_refl _)
          rw [e] at hR; exact hR
        have HR := Lib.hid hR'
        clear hR hR'
        go_wp2
        go_loop [7, 8] (fun a i => ∃ j : Nat, j ≤ k ∧ i = .int .i64 j ∧ a = .int .i64 ((8 * j : Nat) : Int)) (fun _ i => k - (intOf i).toNat)
        case atStart => exact ⟨0, Nat.zero_le _, rfl, rfl⟩
        case round =>
          obtain ⟨j, hj, rfl, rfl⟩ := hrel
          by_cases hjlt : j < k
          · obtain ⟨g, o, rfl, hg, hc⟩ := hr.cells (by omega)
            have hz := HZ.out j hjlt
            have ha := Bs.atF_rows zs j (by rw [HL.out]; exact hjlt) hz.1 hz.2
            obtain ⟨z, hzk⟩ : ∃ z, zs.getD j 0 = z := ⟨_, rfl⟩
            have hcell := (hB.cell (p := ⟨g, o + j, none⟩) hg).trans (hc j hjlt)
            rw [hzk] at hcell ha hz
            have HA := Lib.hid ha
            clear hc hzk ha
            go_wp2_with fail
            refine (At_any A (8 * k) c ((8 * j : Nat) : Int) _ wr HR.out (by omega) (by omega)).mono ?_
            rintro e w1 ⟨rfl, rfl⟩
            rw [HA.out]
            unfold at3
            go_wp2
            go_round
            case rel => exact ⟨j + 1, by omega, by go_num, by congr 1⟩
            case measure => simp [intOf]; omega
          · obtain rfl : j = k := by omega
            have HA := Lib.hid (Bs.atF_more (Bs.rows zs) ((8 * j : Nat) : Int) (by omega) (by rw [Bs.rows_length, HL.out]; omega))
            go_wp2_with fail
            refine (At_any A (8 * j) c ((8 * j : Nat) : Int) _ wr HR.out (by omega) (by omega)).mono ?_
            rintro e w1 ⟨rfl, rfl⟩
            rw [HA.out]
            unfold at3
            go_wp2_with fail
            refine (awake_any wr).mono ?_
            rintro e w2 ⟨rfl, hb2⟩
            go_wp2
            go_ret
            exact ⟨rfl, Bs.below_step hB hb2⟩
  · go_enter Try.func8, Try.ntmps8
    go_wp2
    go_ret
    exact ⟨rfl, Below.refl _ _⟩

/-! ### THE ROW's STEP: WRITTEN OUT: LEAVE IT -/
set_option maxRecDepth 100000 in
theorem lifted (os : Os) (started : os.Started) (H : Type) (enc : TypeId × Value → H) :
    ReturnsInHanded {} Try.checked os 8 .any (Rows.wireNumbersSpec.pre6 enc Try.prog Try.f8 Rows.wireNumbersRow.domain false) (Rows.wireNumbersSpec.post enc Try.prog Try.f8 false true false false) := by
  refine returnsInHanded_of_change (C := Try.checked) own started (by kernel_rfl) Try.func8
    (ChangeSpec.witness6 (enc := enc) (C := Try.checked) false ⟨#[], #[.slice none 0 0], []⟩ 8 (by kernel_rfl) (by kernel_rfl) (by kernel_rfl) (by kernel_rfl)) ?_
  intro W base args ds gs before hval0 hW hcnd _
  have hval : ∀ (j : Nat) t v, Try.f8.params[j]? = some t → args[j]? = some v → Value.okWide Try.prog W .any base t v := hval0
  have hW' := hW
  obtain ⟨p, q, hA0, hV, rfl, hfz, hnd⟩ := hW
  have hA : DataW.TrodAll enc Try.prog W 0 (fun _ => true) true Try.f8.params.toList args.toList ds p := hA0
  rw [Try.params8] at hA hval
  obtain ⟨v0, vs0, d0, ds0, p0, q0, hargs, rfl, rfl, h0, r0⟩ := trodAll_cons hA
  obtain ⟨rfl, rfl, rfl⟩ := trodAll_nil r0
  obtain rfl : args = #[v0] := by cases args; simp_all
  obtain ⟨rfl, rfl⟩ := trodVars_none hV
  obtain ⟨a0, len0, cap0, rfl⟩ := okWide_slice Try.underlying40 (hval 0 40 v0 rfl rfl)
  have k0 := h0
  have lt0 : ∀ x ∈ p0, x.block < W.heap.size := by obtain ⟨m, hm⟩ := k0; exact DataW.trod_lt m _ _ _ hm
  obtain ⟨z0, w0⟩ : ∃ zs, IsRow .i64 W a0 len0 cap0 zs := by
    obtain ⟨fuel, hf⟩ := h0
    rcases open_ints Try.underlying40 Try.underlying3 (by kernel_rfl) hf with ⟨hcs, _⟩ | ⟨x, l, c, zs, hcs, _, hl, hm, hz, _, hcell, hwz⟩
    · simp [Value.cells] at hcs
      obtain ⟨rfl, rfl, rfl⟩ := hcs
      exact ⟨[], .inl ⟨rfl, rfl, rfl, rfl⟩⟩
    · simp [Value.cells] at hcs
      obtain ⟨rfl, rfl, rfl⟩ := hcs
      exact ⟨zs, .inr ⟨_, rfl, hl, hm, by simpa using hz, hcell, hwz⟩⟩
  clear hA0 hval0
  refine (walk a0 len0 cap0 z0 W w0).mono fun e W' ⟨he, bel⟩ => ?_
  subst he
  exact ⟨_, rfl, _, _, _, [], _, [], hW', trodAll_mk1 (shut_bool Try.underlying4 _), (trodAll_cons_mk (Below.trod laidOut (by kernel_rfl) (of_decide_eq_true (by kernel_rfl)) k0 bel lt0) trodAll_mk0), rfl, bel.frame _, fun h => by cases h⟩

theorem over : Rows.wireNumbersRow.holds Try.pinned (OpenSpec.ofChange Rows.wireNumbersSpec) :=
  OpenClaim.holds_of_wide 8 Try.f8 rfl rfl rfl rfl rfl rfl rfl ⟨rfl, rfl, rfl, rfl, rfl⟩ rfl rfl rfl rfl rfl (by kernel_rfl) Try.func8 (by kernel_rfl)
    (of_decide_eq_true (by kernel_rfl)) (by unfold Func.isWrapper; first | (rw [if_pos (by decide +kernel)]; kernel_rfl) | (rw [if_neg (by decide +kernel)]; exact ⟨rfl, rfl⟩))
    (fun os started H enc _ => lifted os started H enc)

/-- ████ THE STATEMENT ████ -/
theorem proved : Rows.WireNumbersSaid := over
#print axioms proved
end Go.Proofs.Ytdncklgeblggfaa.wireNumbers
