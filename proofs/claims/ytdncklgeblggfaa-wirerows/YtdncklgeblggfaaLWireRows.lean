/-
  The statement 'WireRows' (chandlerylaw01) holds at every input: the call returns true and leaves its arguments as they were. Conditions: none beyond the row's own.
-/
import Derived.Test.YtdncklgeblggfaaRows
import Derived.Test.YtdncklgeblggfaaT4
import Derived.Test.YtdncklgeblggfaaB2
import Derived.WalkKit
import Derived.ProofKit
import Derived.OpenShut
import Derived.ShutString
import Derived.SliceStrings
import Derived.ChangeOld
import Derived.Below
namespace Go.Proofs.Ytdncklgeblggfaa.wireRows
open Go.ChangeShapes Go.WideShapes Go.ChangeAt Go.RowKit
open Go.ChangeMaps (open_string shut_string)
set_option linter.unusedVariables false

theorem own : ownKnob Try.prog.godebug = none := by kernel_rfl
theorem laidOut : laidOutB Try.prog = true := by kernel_rfl

/-- What the walk is told of a slice of strings that came in. -/
def IsRow (w : World) (a : Option Addr) (len cap : Nat) (zs : List ByteArray) : Prop :=
  (a = none ∧ len = 0 ∧ cap = 0 ∧ zs = []) ∨
  ∃ x, a = some x ∧ len ≤ cap ∧ cap ≤ maxLen ∧ zs.length = cap ∧ (∀ i, i < zs.length → w.cell? (x.add i) = some (.string (zs.getD i ByteArray.empty))) ∧ ∀ s ∈ zs, s.size ≤ maxLen

/-! ### STEP 1: THE WALK: the Go text returns true, AND WRITES NOTHING THAT WAS THERE: 'Below w.heap.size w w'' (Derived/Below.lean: '.refl', '.alloc', '.drew', '.setCell' at a new block, '.trans'). Open each 'IsRow' by 'rcases' AHEAD of 'go_enter'; part every test ahead of the walk. -/
def R1 (w : World) (ss : List ByteArray) (n : Nat) (v i : Value) (wr : World) : Prop :=
  ∃ (k m : Nat) (A : Option Addr) (c : Nat), k ≤ n ∧ i = .int .i64 k ∧ v = .slice A m c ∧ m ≤ 1000 * k ∧ Bs.Rd wr A m c (Bs.texts (ss.take k)) ∧ Below w.heap.size w wr ∧ ∀ j, j < k → (ss.getD j ByteArray.empty).size ≤ 300

set_option maxHeartbeats 1000000 in
theorem walk (a0 : Option Addr) (len0 cap0 : Nat) (z0 : List ByteArray) (w : World) (w0 : IsRow w a0 len0 cap0 z0) :
    Calls Try.prog 7 #[.slice a0 len0 cap0] w fun e w' => e = .returned (.bool true) ∧ Below w.heap.size w w' := by
  obtain ⟨hm, ss, hr⟩ := Bs.rdS_of_row w0
  clear w0
  have HL := Lib.hid hr.len
  by_cases hs : len0 ≤ 100
  · go_enter Try.func7, Try.ntmps7
    go_wp2
    go_loopw [3, 4] (fun v i wr => R1 w ss len0 v i wr) (fun _ i _ => len0 - (intOf i).toNat)
    case atStart => exact ⟨0, 0, none, 0, Nat.zero_le _, rfl, rfl, Nat.zero_le _, Bs.Rd.nil _ _ _, Below.refl _ _, fun j hj => absurd hj (by omega)⟩
    case round =>
      obtain ⟨k, m, A, c, hk, rfl, rfl, hmk, hR, hB, hz⟩ := hrel
      have HZ := Lib.hid hz
      clear hz
      by_cases hlt : k < len0
      · obtain ⟨g, o, rfl, hg, hc⟩ := hr.cells (by omega)
        obtain ⟨s, hzk⟩ : ∃ s, ss.getD k ByteArray.empty = s := ⟨_, rfl⟩
        have hcell := (hB.cell (p := ⟨g, o + k, none⟩) hg).trans (hc k hlt)
        rw [hzk] at hcell
        have HZK := Lib.hid hzk
        clear hc hzk
        by_cases hin : s.size ≤ 300
        · have hq := Bs.gapN_lt s.size
          go_wp2_with fail
          refine (PutText_any A m c s _ wr hR (by omega) (by omega)).mono ?_
          rintro e w1 ⟨rfl, hBk, hb1⟩
          have HBk := Lib.hid hBk
          clear hBk
          go_wp2
          go_roundw
          case rel =>
            refine ⟨k + 1, _, _, _, by omega, by go_num, rfl, by omega, ?_, Bs.below_step hB hb1, fun j hj => ?_⟩
            · rw [Bs.texts_take_succ ss k (by rw [HL.out]; exact hlt), HZK.out]
              exact HBk.out.all' _ _ (by rw [List.length_append, hR.len, Bs.textB_length]; simp; omega) (by omega)
            · by_cases hjk : j < k
              · exact HZ.out j hjk
              · obtain rfl : j = k := by omega
                rw [HZK.out]; exact hin
          case measure => simp [intOf]; omega
        · go_wp2
          go_ret
          exact ⟨rfl, hB⟩
      · obtain rfl : k = len0 := by omega
        have e : ss.take k = ss := List.take_of_length_le (by rw [HL.out]; exact Nat.le_refl _)
        rw [e] at hR
        have HR := Lib.hid hR
        clear hR e
        go_wp2
        go_loop [5, 6] (fun a i => ∃ j : Nat, j ≤ k ∧ i = .int .i64 j ∧ a = .int .i64 ((Bs.texts (ss.take j)).length : Int)) (fun _ i => k - (intOf i).toNat)
        case atStart => exact ⟨0, Nat.zero_le _, rfl, rfl⟩
        case round =>
          obtain ⟨j, hj, rfl, rfl⟩ := hrel
          by_cases hjlt : j < k
          · obtain ⟨g, o, rfl, hg, hc⟩ := hr.cells (by omega)
            have hz := HZ.out j hjlt
            have hjl : j < ss.length := by rw [HL.out]; exact hjlt
            have hsp := Bs.texts_split ss j hjl
            have hts := Bs.texts_take_succ ss j hjl
            obtain ⟨s, hzk⟩ : ∃ s, ss.getD j ByteArray.empty = s := ⟨_, rfl⟩
            have hcell := (hB.cell (p := ⟨g, o + j, none⟩) hg).trans (hc j hjlt)
            rw [hzk] at hcell hz hsp hts
            have ht := Bs.textF_mid (Bs.texts (ss.take j)) s.data.toList (Bs.texts (ss.drop (j + 1))) (by simp; omega)
            rw [← hsp] at ht
            have hts2 : (Bs.texts (ss.take (j + 1))).length = (Bs.texts (ss.take j)).length + (8 + (s.data.toList.length + Bs.gapN s.data.toList.length)) := by rw [hts, List.length_append, Bs.textB_length]
            obtain ⟨P, hP⟩ : ∃ P, (Bs.texts (ss.take j)).length = P := ⟨_, rfl⟩
            obtain ⟨N, hN⟩ : ∃ N, P + (8 + (s.data.toList.length + Bs.gapN s.data.toList.length)) = N := ⟨_, rfl⟩
            have hPN : P < N := by omega
            have hPm : P ≤ 100000 := by
              have h1 := HR.out.len
              rw [hsp, List.length_append, hP] at h1
              omega
            rw [hP] at hts2 ht ⊢
            rw [hN] at hts2 ht
            have HT := Lib.hid ht
            have HN := Lib.hid hts2
            clear hc hzk ht hts hsp hts2 hN hP hjl
            go_wp2_with fail
            refine (TextAt_any A m c (P : Int) _ wr HR.out (by omega) (by omega)).mono ?_
            rintro e w1 ⟨rfl, rfl⟩
            rw [HT.out]
            unfold tx3
            go_wp2
            go_round
            case rel => exact ⟨j + 1, by omega, by go_num, by rw [HN.out]⟩
            case measure => simp [intOf]; omega
          · obtain rfl : j = k := by omega
            have e : ss.take j = ss := List.take_of_length_le (by rw [HL.out]; exact Nat.le_refl _)
            rw [e, HR.out.len]
            clear e
            go_wp2_with fail
            refine (awake_any wr).mono ?_
            rintro e w2 ⟨rfl, hb2⟩
            go_wp2
            go_ret
            exact ⟨rfl, Bs.below_step hB hb2⟩
  · go_enter Try.func7, Try.ntmps7
    go_wp2
    go_ret
    exact ⟨rfl, Below.refl _ _⟩

/-! ### THE ROW's STEP: WRITTEN OUT: LEAVE IT -/
set_option maxRecDepth 100000 in
theorem lifted (os : Os) (started : os.Started) (H : Type) (enc : TypeId × Value → H) :
    ReturnsInHanded {} Try.checked os 7 .any (Rows.wireRowsSpec.pre6 enc Try.prog Try.f7 Rows.wireRowsRow.domain false) (Rows.wireRowsSpec.post enc Try.prog Try.f7 false true false false) := by
  refine returnsInHanded_of_change (C := Try.checked) own started (by kernel_rfl) Try.func7
    (ChangeSpec.witness6 (enc := enc) (C := Try.checked) false ⟨#[], #[.slice none 0 0], []⟩ 8 (by kernel_rfl) (by kernel_rfl) (by kernel_rfl) (by kernel_rfl)) ?_
  intro W base args ds gs before hval0 hW hcnd _
  have hval : ∀ (j : Nat) t v, Try.f7.params[j]? = some t → args[j]? = some v → Value.okWide Try.prog W .any base t v := hval0
  have hW' := hW
  obtain ⟨p, q, hA0, hV, rfl, hfz, hnd⟩ := hW
  have hA : DataW.TrodAll enc Try.prog W 0 (fun _ => true) true Try.f7.params.toList args.toList ds p := hA0
  rw [Try.params7] at hA hval
  obtain ⟨v0, vs0, d0, ds0, p0, q0, hargs, rfl, rfl, h0, r0⟩ := trodAll_cons hA
  obtain ⟨rfl, rfl, rfl⟩ := trodAll_nil r0
  obtain rfl : args = #[v0] := by cases args; simp_all
  obtain ⟨rfl, rfl⟩ := trodVars_none hV
  obtain ⟨a0, len0, cap0, rfl⟩ := okWide_slice Try.underlying38 (hval 0 38 v0 rfl rfl)
  have k0 := h0
  have lt0 : ∀ x ∈ p0, x.block < W.heap.size := by obtain ⟨m, hm⟩ := k0; exact DataW.trod_lt m _ _ _ hm
  obtain ⟨z0, w0⟩ : ∃ zs, IsRow W a0 len0 cap0 zs := by
    obtain ⟨fuel, hf⟩ := h0
    rcases open_strings Try.underlying38 Try.underlying9 (by kernel_rfl) hf with ⟨hcs, _⟩ | ⟨x, l, c, zs, hcs, _, hl, hm, hz, _, hcell, hwz⟩
    · simp [Value.cells] at hcs
      obtain ⟨rfl, rfl, rfl⟩ := hcs
      exact ⟨[], .inl ⟨rfl, rfl, rfl, rfl⟩⟩
    · simp [Value.cells] at hcs
      obtain ⟨rfl, rfl, rfl⟩ := hcs
      exact ⟨zs, .inr ⟨_, rfl, hl, hm, by simpa using hz, hcell, hwz⟩⟩
  clear hA0 hval0
  refine (walk a0 len0 cap0 z0 W w0).mono fun e W' ⟨he, bel⟩ => ?_
  subst he
  exact ⟨_, rfl, _, _, _, [], _, [], hW', trodAll_mk1 (shut_bool Try.underlying4 _), (trodAll_cons_mk (Below.trod laidOut (by kernel_rfl) (of_decide_eq_true (by kernel_rfl)) k0 bel lt0) trodAll_mk0), rfl, bel.frame _, fun h => by cases h⟩

theorem over : Rows.wireRowsRow.holds Try.pinned (OpenSpec.ofChange Rows.wireRowsSpec) :=
  OpenClaim.holds_of_wide 7 Try.f7 rfl rfl rfl rfl rfl rfl rfl ⟨rfl, rfl, rfl, rfl, rfl⟩ rfl rfl rfl rfl rfl (by kernel_rfl) Try.func7 (by kernel_rfl)
    (of_decide_eq_true (by kernel_rfl)) (by unfold Func.isWrapper; first | (rw [if_pos (by decide +kernel)]; kernel_rfl) | (rw [if_neg (by decide +kernel)]; exact ⟨rfl, rfl⟩))
    (fun os started H enc _ => lifted os started H enc)

/-- ████ THE STATEMENT ████ -/
theorem proved : Rows.WireRowsSaid := over
#print axioms proved
end Go.Proofs.Ytdncklgeblggfaa.wireRows
