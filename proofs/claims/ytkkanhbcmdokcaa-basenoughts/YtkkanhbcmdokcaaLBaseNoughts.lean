/-
  The statement 'BaseNoughts' (chandlerylaw02) holds at every input: the call returns true and leaves its arguments as they were. Conditions: none beyond the row's own.
-/
import Derived.Test.YtkkanhbcmdokcaaRows
import Derived.Test.YtkkanhbcmdokcaaT8
import Derived.Test.YtkkanhbcmdokcaaNou
import Derived.Test.YtkkanhbcmdokcaaApp0
import Derived.Deep.RegionHeld3
import Derived.IntWalk
import Derived.WalkKit
import Derived.ProofKit
import Derived.OpenShut
import Derived.ShutString
import Derived.ChangeOld
import Derived.Below
namespace Go.Proofs.Ytkkanhbcmdokcaa.baseNoughts
open Go.ChangeShapes Go.WideShapes Go.ChangeAt Go.RowKit
open Go.ChangeMaps (open_string shut_string)
set_option linter.unusedVariables false

theorem own : ownKnob Try.prog.godebug = none := by kernel_rfl
theorem laidOut : laidOutB Try.prog = true := by kernel_rfl

/-- WHAT THE WALK IS TOLD OF A SLICE OF INTEGERS THAT CAME IN: it is nil; or it leads to a row of 'cap' cells, the numbers 'zs' (the first 'len' are its elements, the rest its spare room), each fitting its kind. -/
def IsRow (k : IntKind) (w : World) (a : Option Addr) (len cap : Nat) (zs : List Int) : Prop :=
  (a = none ∧ len = 0 ∧ cap = 0 ∧ zs = []) ∨
  ∃ x, a = some x ∧ len ≤ cap ∧ cap ≤ maxLen ∧ zs.length = cap ∧ (∀ i, i < zs.length → w.cell? (x.add i) = some (.int k (zs.getD i 0))) ∧ ∀ n ∈ zs, (Lit.int k n).wf = true

/-! ### STEP 1: THE WALK: the Go text returns true, AND WRITES NOTHING THAT WAS THERE: 'Below w.heap.size w w'' (Derived/Below.lean: '.refl', '.alloc', '.drew', '.setCell' at a new block, '.trans'). Open each 'IsRow' by 'rcases' AHEAD of 'go_enter'; part every test ahead of the walk. -/
set_option maxHeartbeats 8000000 in
theorem walk_ok (a0 : Option Addr) (n cap0 k : Nat) (at' : Int) (c : UInt8) (xs : List UInt8) (w : World) (hr0 : Bs.Rd w a0 n cap0 xs) (h0 : n ≤ 300) (hk : k ≤ 20) (hat : -9223372036854775808 ≤ at' ∧ at' ≤ 9223372036854775807) :
    Calls Try.prog 8 #[.slice a0 n cap0, .int .i64 k, .int .i64 at', Bs.B c] w fun e w' => e = .returned (.bool true) ∧ Below w.heap.size w w' := by
  have HL := Lib.hid hr0.len
  obtain ⟨S, hS⟩ : ∃ S : ByteArray, ⟨(Bs.encL xs).toArray⟩ = S := ⟨_, rfl⟩
  obtain ⟨T, hT⟩ : ∃ S : ByteArray, ⟨(Bs.encL (xs ++ Bs.zeros (5 * k))).toArray⟩ = S := ⟨_, rfl⟩
  obtain ⟨m, hm⟩ : ∃ m, Bs.nDig n = m := ⟨_, rfl⟩
  have hm5 : m ≤ 600 := by rw [← hm]; unfold Bs.nDig; omega
  have hSd : S.data.toList = Bs.encL xs := by rw [← hS]
  have hTd : T.data.toList = List.replicate (8 * k) 48 ++ Bs.encL xs := by rw [← hT, Bs.encL_more]
  have hSs : S.size = m := by rw [Lib.size_eq, hSd, Bs.encL_length, HL.out, hm]
  have hTs : T.size = m + 8 * k := by rw [Lib.size_eq, hTd, List.length_append, List.length_replicate, Bs.encL_length, HL.out, hm, Nat.add_comm]
  have hTS : T.extract (8 * k) T.size = S := by
    rw [Lib.extract_eq, hTd, List.drop_left' (by simp), ← hS]
    congr 2
    apply List.take_of_length_le
    rw [Bs.encL_length, HL.out, hm, hTs]; omega
  have HT0 : Hid (∀ i, i < 8 * k → T.data.toList.getD i 0 = 48) := fun i hi => by
    rw [hTd]
    simp [List.getD, List.getElem?_append, hi]
  have HEA : Hid (∀ w, Bs.Rd w a0 n cap0 xs → Calls Try.prog 14 #[.slice a0 n cap0] w fun e w' => e = .returned (.string S) ∧ Below w.heap.size w w') := fun w h => by
    rw [← hS]; exact Encode_any _ _ _ xs w h (by omega)
  have HEB : Hid (∀ w A c, Bs.Rd w A (n + 5 * k) c (xs ++ Bs.zeros (5 * k)) → Calls Try.prog 14 #[.slice A (n + 5 * k) c] w fun e w' => e = .returned (.string T) ∧ Below w.heap.size w w') := fun w A c h => by
    rw [← hT]; exact Encode_any _ _ _ _ w h (by omega)
  have hsl : ∀ W, (Instr.slice 9 (.string T) (some (.int .i64 (8 * (k : Int)))) none none).run Try.prog W = .ok (.string S) W := fun W => by
    rw [run_slice_string_from_if W 9 T .i64 (8 * (k : Int)) Try.underlying9, if_pos (by rw [hTs]; omega), show (8 * (k : Int)).toNat = 8 * k by omega, hTS]
  have hR0 := Lib.hid hr0
  have HSD := Lib.hid hSd
  have hSc := Lib.hid (And.intro hS hT)
  clear hS hT hm hSd hTd hTS
  go_enter Try.func8, Try.ntmps8
  go_wp2_with (first
    | (at_builtin; refine Bs.wpList_app _ rfl (.tmp 26) (.tmp 27) _ rfl w.heap.size 5 Try.underlying22 u8_info (.slice (some ⟨w.heap.size, 0, none⟩) 0 0) [] rfl (Bs.Own.empty _ _) a0 n cap0 xs rfl (hr0.alloc _) (by simp only [List.length_nil]; omega) (by simp) ?_; intro v1 w1 ho1 hb1)
    | (at_builtin; refine Bs.wpList_app_zeros _ rfl (.tmp 28) (.tmp 30) _ _ rfl w.heap.size 5 .i64 Try.underlying22 Try.underlying3 u8_info v1 ([] ++ xs) rfl ho1 (5 * k) rfl (by rw [List.nil_append, HL.out]; omega) (by have := hb1.size; simp at this; omega) ?_; intro v2 w2 ho2 hb2))
  rw [List.nil_append] at ho1 ho2
  have HB2 : Hid (Below w.heap.size w w2) := (((Below.refl _ w).alloc (Nat.le_refl _) _).trans hb1).trans hb2
  obtain ⟨A2, c2, rfl, hr2⟩ := ho2.slice (n + 5 * k) (by rw [List.length_append, HL.out, Bs.zeros_length])
  clear ho1 hb1 ho2 hb2 hr0
  refine (HEA.out w2 (hR0.out.keep HB2.out)).mono ?_
  rintro e w3 ⟨rfl, hb3⟩
  have HB3 := Lib.hid (Bs.below_step HB2.out hb3)
  have hr3 := hr2.keep hb3
  clear hb3 hr2
  go_wp2_with fail
  refine (HEB.out w3 A2 c2 hr3).mono ?_
  rintro e w4 ⟨rfl, hb4⟩
  have HB4 := Lib.hid (Bs.below_step HB3.out hb4)
  have HT4 := Lib.hid (And.intro hSs hTs)
  have hne : (((m + 8 * k : Nat) : Int) != (m : Int) + 8 * (k : Int)) = false := by rw [bne_eq_false_iff_eq]; omega
  clear hb4 hr3
  go_wp2
  go_loop [12] (fun i => ∃ j : Nat, j ≤ 8 * k ∧ i = .int .i64 j) (fun i => 8 * k - (intOf i).toNat)
  case atStart => exact ⟨0, Nat.zero_le _, rfl⟩
  case round =>
    obtain ⟨j, hj, rfl⟩ := hrel
    by_cases hlt : j < 8 * k
    · have hjT : j < T.size := by rw [hTs]; omega
      have hsx : T[j] = 48 := by
        rw [← HT0.out j hlt, Bs.getD_get _ _ (by rw [← Lib.size_eq]; exact hjT)]
        rfl
      go_wp2
      go_round
      case rel => exact ⟨j + 1, by omega, by go_num⟩
      case measure => simp [intOf]; omega
    · obtain rfl : j = 8 * k := by omega
      clear hsl hne
      by_cases hin : 0 ≤ at' ∧ at' < m
      · obtain ⟨p, rfl⟩ := Int.eq_ofNat_of_zero_le hin.1
        have hpm : p < m := by omega
        have hel : (Bs.encL xs).length = m := by rw [← HSD.out, ← Lib.size_eq, hSs]
        obtain ⟨S1, hS1⟩ : ∃ S : ByteArray, ⟨((Bs.encL xs).take p).toArray⟩ = S := ⟨_, rfl⟩
        obtain ⟨S2, hS2⟩ : ∃ S : ByteArray, ⟨((Bs.encL xs).take p ++ [c]).toArray⟩ = S := ⟨_, rfl⟩
        obtain ⟨S3, hS3⟩ : ∃ S : ByteArray, ⟨((Bs.encL xs).drop (p + 1)).toArray⟩ = S := ⟨_, rfl⟩
        obtain ⟨R, hR⟩ : ∃ S : ByteArray, ⟨((Bs.encL xs).take p ++ [c] ++ (Bs.encL xs).drop (p + 1)).toArray⟩ = S := ⟨_, rfl⟩
        have hadd1 := add_str _ [c] S1 ⟨#[c]⟩ S2 hS1 rfl hS2 (by simp only [List.length_take, List.length_cons, List.length_nil]; omega)
        have hadd2 := add_str _ _ S2 S3 R hS2 hS3 hR (by simp only [List.length_append, List.length_take, List.length_drop, List.length_cons, List.length_nil]; omega)
        have hto : ∀ W, (Instr.slice 9 (.string S) none (some (.int .i64 (p : Int))) none).run Try.prog W = .ok (.string S1) W := fun W => by
          rw [run_slice_string_to_if W 9 S .i64 (p : Int) Try.underlying9, if_pos (by rw [hSs]; omega), Int.toNat_natCast, Lib.extract_eq, HSD.out, ← hS1]
          simp
        have hfrom : ∀ W, (Instr.slice 9 (.string S) (some (.int .i64 ((p : Int) + 1))) none none).run Try.prog W = .ok (.string S3) W := fun W => by
          rw [run_slice_string_from_if W 9 S .i64 ((p : Int) + 1) Try.underlying9, if_pos (by rw [hSs]; omega), show ((p : Int) + 1).toNat = p + 1 by omega, Lib.extract_eq, HSD.out, ← hS3, List.take_of_length_le (by rw [List.length_drop, hel, hSs]; omega)]
        have hwp : IntKind.i64.wrap ((p : Int) + 1) = (p : Int) + 1 := IntWalk.i64_in _ (by omega)
        have hconv : (convert 22 9 (.slice (some ⟨w4.heap.size, 0, none⟩) 1 1)).run Try.prog (w4.alloc (.cells #[Bs.B c] 5)).drew = .ok (.string ⟨#[c]⟩) (w4.alloc (.cells #[Bs.B c] 5)).drew :=
          string_rd _ _ 1 1 [c] (Bs.one_rd w4 5 c _ rfl).drew
        have HB5 : Hid (Below w.heap.size w (w4.alloc (.cells #[Bs.B c] 5)).drew) := Bs.below_step HB4.out (((Below.refl _ w4).alloc (Nat.le_refl _) _).drew)
        have hRs : R.size ≤ 17592186044416 := by
          rw [← hR, Lib.size_eq]
          simp only [List.length_append, List.length_take, List.length_drop, List.length_cons, List.length_nil]; omega
        have HDN0 : Hid (¬ 0 ≤ Bs.v32 c → ∀ w, Calls Try.prog 18 #[.string R] w fun e w' => e = .returned (.tuple #[.slice none 0 0, .int .i64 4]) ∧ Below w.heap.size w w') := fun hbad w =>
          Decode_no R _ w rfl hRs (by rw [← hR]; exact Bs.bad_digit _ c (by simp) hbad)
        clear hS1 hS2 hS3 hR hRs hel
        go_wp2_with fail
        all_goals first
        | refine (awake_any w4).mono ?_
          rintro e w5 ⟨rfl, hb5⟩
          go_wp2
          go_ret
          exact ⟨rfl, Bs.below_step HB4.out hb5⟩
        | have HDN := Lib.hid (HDN0.out (by have := Bs.digit_iff c; first | omega | (simp only [bne_eq_false_iff_eq] at *; omega)))
          refine wp_region_held_drew (S := fun _ => True) (by kernel_rfl) (trivial) (fun hHeld => ?_)
          refine wpAnyH_take (i := 0) (oi := { dst := some 104, op := Op.move (Operand.tmp 10), type := 9, pos := "more.go:27", after := #[], guard := none }) (v := ?v0) rfl (by kernel_rfl) (by kernel_rfl) (by kernel_rfl) (fun _ _ _ h => h) (Or.inl ⟨by rfl, ?hy0⟩) hHeld ?_
          case hy0 => (intro w hSw; (try dsimp only at hSw); go_simp; first | done | with_reducible rfl)
          try simp only [Act.put, List.setIfInBounds_toArray, List.set_cons_zero, List.set_cons_succ]
          refine wpAnyH_take (i := 1) (oi := { dst := some 105, op := Op.move (Operand.tmp 2), type := 3, pos := "more.go:27", after := #[], guard := none }) (v := ?v1) rfl (by kernel_rfl) (by kernel_rfl) (by kernel_rfl) (fun _ _ _ h => h) (Or.inl ⟨by rfl, ?hy1⟩) hHeld ?_
          case hy1 => (intro w hSw; (try dsimp only at hSw); go_simp; first | done | with_reducible rfl)
          try simp only [Act.put, List.setIfInBounds_toArray, List.set_cons_zero, List.set_cons_succ]
          refine wpAnyH_take (i := 2) (oi := { dst := some 106, op := Op.slice 9 (Operand.tmp 104) none (some (Operand.tmp 105)) none, type := 9, pos := "more.go:27", after := #[{ on := 0, ground := Ground.data }, { on := 1, ground := Ground.data }], guard := none }) (v := ?v2) rfl (by kernel_rfl) (by kernel_rfl) (by kernel_rfl) (fun _ _ _ h => h) (Or.inl ⟨by rfl, ?hy2⟩) hHeld ?_
          case hy2 => (intro w hSw; (try dsimp only at hSw); go_simp; first | done | with_reducible rfl)
          try simp only [Act.put, List.setIfInBounds_toArray, List.set_cons_zero, List.set_cons_succ]
          refine wpAnyH_take (i := 3) (oi := { dst := some 107, op := Op.move (Operand.tmp 3), type := 5, pos := "more.go:27", after := #[], guard := none }) (v := ?v3) rfl (by kernel_rfl) (by kernel_rfl) (by kernel_rfl) (fun _ _ _ h => h) (Or.inl ⟨by rfl, ?hy3⟩) hHeld ?_
          case hy3 => (intro w hSw; (try dsimp only at hSw); go_simp; first | done | with_reducible rfl)
          try simp only [Act.put, List.setIfInBounds_toArray, List.set_cons_zero, List.set_cons_succ]
          refine wpAnyH_take (i := 7) (oi := { dst := some 111, op := Op.move (Operand.tmp 10), type := 9, pos := "more.go:27", after := #[], guard := none }) (v := ?v7) rfl (by kernel_rfl) (by kernel_rfl) (by kernel_rfl) (fun _ _ _ h => h) (Or.inl ⟨by rfl, ?hy7⟩) hHeld ?_
          case hy7 => (intro w hSw; (try dsimp only at hSw); go_simp; first | done | with_reducible rfl)
          try simp only [Act.put, List.setIfInBounds_toArray, List.set_cons_zero, List.set_cons_succ]
          refine wpAnyH_take (i := 8) (oi := { dst := some 112, op := Op.move (Operand.tmp 2), type := 3, pos := "more.go:27", after := #[], guard := none }) (v := ?v8) rfl (by kernel_rfl) (by kernel_rfl) (by kernel_rfl) (fun _ _ _ h => h) (Or.inl ⟨by rfl, ?hy8⟩) hHeld ?_
          case hy8 => (intro w hSw; (try dsimp only at hSw); go_simp; first | done | with_reducible rfl)
          try simp only [Act.put, List.setIfInBounds_toArray, List.set_cons_zero, List.set_cons_succ]
          refine wpAnyH_take (i := 9) (oi := { dst := some 113, op := Op.binOp BinOp.add 3 (Operand.tmp 112) (Operand.const (Value.int IntKind.i64 1)) 3, type := 3, pos := "more.go:27", after := #[{ on := 8, ground := Ground.data }], guard := none }) (v := ?v9) rfl (by kernel_rfl) (by kernel_rfl) (by kernel_rfl) (fun _ _ _ h => h) (Or.inl ⟨by rfl, ?hy9⟩) hHeld ?_
          case hy9 => (intro w hSw; (try dsimp only at hSw); go_simp; first | done | with_reducible rfl)
          try simp only [Act.put, List.setIfInBounds_toArray, List.set_cons_zero, List.set_cons_succ]
          refine wpAnyH_take (i := 10) (oi := { dst := some 114, op := Op.slice 9 (Operand.tmp 111) (some (Operand.tmp 113)) none none, type := 9, pos := "more.go:27", after := #[{ on := 7, ground := Ground.data }, { on := 9, ground := Ground.data }], guard := none }) (v := ?v10) rfl (by kernel_rfl) (by kernel_rfl) (by kernel_rfl) (fun _ _ _ h => h) (Or.inl ⟨by rfl, ?hy10⟩) hHeld ?_
          case hy10 => (intro w hSw; (try dsimp only at hSw); go_simp; first | done | with_reducible rfl)
          try simp only [Act.put, List.setIfInBounds_toArray, List.set_cons_zero, List.set_cons_succ]
          refine wpAnyH_ready (rs := [4]) (by kernel_rfl) (by simp) ?_
          refine AllReadyH.cons (o := { dst := some 108, op := Op.buildSlice 22 1 #[(0, Operand.tmp 107)], type := 22, pos := "more.go:27", after := #[{ on := 3, ground := Ground.data }], guard := none }) rfl (fun K hK => ?_) AllReadyH.nil
          go_simp
          refine hK.out _ _ (hHeld) (fun hHeld => ?_)
          clear hK K
          try simp only [Act.put, List.setIfInBounds_toArray, List.set_cons_zero, List.set_cons_succ]
          refine wpAnyH_ready (rs := [5]) (by kernel_rfl) (by simp) ?_
          refine AllReadyH.cons (o := { dst := some 109, op := Op.convert 22 9 (Operand.tmp 108), type := 9, pos := "more.go:27", after := #[{ on := 4, ground := Ground.data }], guard := none }) rfl (fun K hK => ?_) AllReadyH.nil
          go_simp
          refine hK.out _ _ (hHeld) (fun hHeld => ?_)
          clear hK K
          try simp only [Act.put, List.setIfInBounds_toArray, List.set_cons_zero, List.set_cons_succ]
          refine wpAnyH_take (i := 6) (oi := { dst := some 110, op := Op.binOp BinOp.add 9 (Operand.tmp 106) (Operand.tmp 109) 9, type := 9, pos := "more.go:27", after := #[{ on := 2, ground := Ground.data }, { on := 5, ground := Ground.data }], guard := none }) (v := ?v6) rfl (by kernel_rfl) (by kernel_rfl) (by kernel_rfl) (fun _ _ _ h => h) (Or.inl ⟨by rfl, ?hy6⟩) hHeld ?_
          case hy6 => (intro w hSw; (try dsimp only at hSw); go_simp; first | done | with_reducible rfl)
          try simp only [Act.put, List.setIfInBounds_toArray, List.set_cons_zero, List.set_cons_succ]
          refine wpAnyH_take (i := 11) (oi := { dst := some 115, op := Op.binOp BinOp.add 9 (Operand.tmp 110) (Operand.tmp 114) 9, type := 9, pos := "more.go:27", after := #[{ on := 6, ground := Ground.data }, { on := 10, ground := Ground.data }], guard := none }) (v := ?v11) rfl (by kernel_rfl) (by kernel_rfl) (by kernel_rfl) (fun _ _ _ h => h) (Or.inl ⟨by rfl, ?hy11⟩) hHeld ?_
          case hy11 => (intro w hSw; (try dsimp only at hSw); go_simp; first | done | with_reducible rfl)
          try simp only [Act.put, List.setIfInBounds_toArray, List.set_cons_zero, List.set_cons_succ]
          refine wpAnyH_ready (rs := [12]) (by kernel_rfl) (by simp) ?_
          refine AllReadyH.cons (o := { dst := some 116, op := Op.call { callee := Callee.value (Operand.func 18), args := #[Operand.tmp 115], argTypes := #[9] }, type := 25, pos := "more.go:27", after := #[{ on := 11, ground := Ground.data }], guard := none }) rfl (fun K hK => ?_) AllReadyH.nil
          go_simp
          refine (HDN.out _).mono ?_
          rintro e w6 ⟨rfl, hb6⟩
          have HB6 := Lib.hid (Bs.below_step HB5.out hb6)
          clear hb6
          go_wp2_with fail
          refine hK.out _ _ (trivial) (fun hHeld => ?_)
          clear hK K
          try simp only [Act.put, List.setIfInBounds_toArray, List.set_cons_zero, List.set_cons_succ]
          refine wpAnyH_take (i := 13) (oi := { dst := some 103, op := Op.move (Operand.tmp 116), type := 25, pos := "more.go:27", after := #[{ on := 12, ground := Ground.data }], guard := none }) (v := ?v13) rfl (by kernel_rfl) (by kernel_rfl) (by kernel_rfl) (fun _ _ _ h => h) (Or.inl ⟨by rfl, ?hy13⟩) hHeld ?_
          case hy13 => (intro w hSw; (try dsimp only at hSw); go_simp; first | done | with_reducible rfl)
          try simp only [Act.put, List.setIfInBounds_toArray, List.set_cons_zero, List.set_cons_succ]
          refine wpAnyH_take (i := 14) (oi := { dst := some 117, op := Op.extract (Operand.tmp 103) 0, type := 22, pos := "more.go:27", after := #[{ on := 13, ground := Ground.data }], guard := none }) (v := ?v14) rfl (by kernel_rfl) (by kernel_rfl) (by kernel_rfl) (fun _ _ _ h => h) (Or.inl ⟨by rfl, ?hy14⟩) hHeld ?_
          case hy14 => (intro w hSw; (try dsimp only at hSw); go_simp; first | done | with_reducible rfl)
          try simp only [Act.put, List.setIfInBounds_toArray, List.set_cons_zero, List.set_cons_succ]
          refine wpAnyH_take (i := 16) (oi := { dst := some 13, op := Op.assign (Operand.tmp 117), type := 22, pos := "more.go:27", after := #[{ on := 14, ground := Ground.data }, { on := 12, ground := Ground.chain }, { on := 0, ground := Ground.phase }, { on := 1, ground := Ground.phase }, { on := 2, ground := Ground.phase }, { on := 3, ground := Ground.phase }, { on := 4, ground := Ground.phase }, { on := 5, ground := Ground.phase }, { on := 6, ground := Ground.phase }, { on := 7, ground := Ground.phase }, { on := 8, ground := Ground.phase }, { on := 9, ground := Ground.phase }, { on := 10, ground := Ground.phase }, { on := 11, ground := Ground.phase }, { on := 12, ground := Ground.phase }, { on := 13, ground := Ground.phase }, { on := 14, ground := Ground.phase }, { on := 15, ground := Ground.textOnly Departure.lateStores }], guard := none }) (v := ?v16) rfl (by kernel_rfl) (by kernel_rfl) (by kernel_rfl) (fun _ _ _ h => h) (Or.inl ⟨by rfl, ?hy16⟩) hHeld ?_
          case hy16 => (intro w hSw; (try dsimp only at hSw); go_simp; first | done | with_reducible rfl)
          try simp only [Act.put, List.setIfInBounds_toArray, List.set_cons_zero, List.set_cons_succ]
          refine wpAnyH_take (i := 15) (oi := { dst := some 118, op := Op.extract (Operand.tmp 103) 1, type := 24, pos := "more.go:27", after := #[{ on := 13, ground := Ground.data }, { on := 16, ground := Ground.gcOnly Departure.lateStores }], guard := none }) (v := ?v15) rfl (by kernel_rfl) (by kernel_rfl) (by kernel_rfl) (fun _ _ _ h => h) (Or.inl ⟨by rfl, ?hy15⟩) hHeld ?_
          case hy15 => (intro w hSw; (try dsimp only at hSw); go_simp; first | done | with_reducible rfl)
          try simp only [Act.put, List.setIfInBounds_toArray, List.set_cons_zero, List.set_cons_succ]
          refine wpAnyH_take (i := 17) (oi := { dst := some 14, op := Op.assign (Operand.tmp 118), type := 24, pos := "more.go:27", after := #[{ on := 15, ground := Ground.data }, { on := 16, ground := Ground.chain }, { on := 0, ground := Ground.phase }, { on := 1, ground := Ground.phase }, { on := 2, ground := Ground.phase }, { on := 3, ground := Ground.phase }, { on := 4, ground := Ground.phase }, { on := 5, ground := Ground.phase }, { on := 6, ground := Ground.phase }, { on := 7, ground := Ground.phase }, { on := 8, ground := Ground.phase }, { on := 9, ground := Ground.phase }, { on := 10, ground := Ground.phase }, { on := 11, ground := Ground.phase }, { on := 12, ground := Ground.phase }, { on := 13, ground := Ground.phase }, { on := 14, ground := Ground.phase }, { on := 15, ground := Ground.phase }, { on := 16, ground := Ground.phase }], guard := none }) (v := ?v17) rfl (by kernel_rfl) (by kernel_rfl) (by kernel_rfl) (fun _ _ _ h => h) (Or.inl ⟨by rfl, ?hy17⟩) hHeld ?_
          case hy17 => (intro w hSw; (try dsimp only at hSw); go_simp; first | done | with_reducible rfl)
          try simp only [Act.put, List.setIfInBounds_toArray, List.set_cons_zero, List.set_cons_succ]
          refine wpAnyH_done (by kernel_rfl) ?_ _
          go_wp2_with fail
          refine (awake_any w6).mono ?_
          rintro e w7 ⟨rfl, hb7⟩
          go_wp2
          go_ret
          exact ⟨rfl, Bs.below_step HB6.out hb7⟩
      · by_cases hneg : at' < 0
        · go_wp2_with fail
          refine (awake_any w4).mono ?_
          rintro e w5 ⟨rfl, hb5⟩
          go_wp2
          go_ret
          exact ⟨rfl, Bs.below_step HB4.out hb5⟩
        · obtain ⟨p, rfl⟩ := Int.eq_ofNat_of_zero_le (show 0 ≤ at' by omega)
          have hpm : m ≤ p := by omega
          go_wp2_with fail
          refine (awake_any w4).mono ?_
          rintro e w5 ⟨rfl, hb5⟩
          go_wp2
          go_ret
          exact ⟨rfl, Bs.below_step HB4.out hb5⟩

set_option maxHeartbeats 1000000 in
theorem walk (a0 : Option Addr) (len0 cap0 : Nat) (z0 : List Int) (a1 : Int) (a2 : Int) (a3 : Int) (w : World) (w0 : IsRow .u8 w a0 len0 cap0 z0) (w1 : (Lit.int .i64 a1).wf = true) (w2 : (Lit.int .i64 a2).wf = true) (w3 : (Lit.int .u8 a3).wf = true) :
    Calls Try.prog 8 #[.slice a0 len0 cap0, .int .i64 a1, .int .i64 a2, .int .u8 a3] w fun e w' => e = .returned (.bool true) ∧ Below w.heap.size w w' := by
  obtain ⟨hm0, xs, hr0⟩ := Bs.rd_of_row w0
  have hb1 := bounds_i64 w1
  have hb2 := bounds_i64 w2
  have hb3 := bounds_u8 w3
  clear w0 w1 w2 w3
  by_cases h0 : len0 ≤ 300
  · by_cases hk0 : a1 < 0
    · go_enter Try.func8, Try.ntmps8
      go_wp2
      go_ret
      exact ⟨rfl, Below.refl _ _⟩
    · obtain ⟨k, rfl⟩ := Int.eq_ofNat_of_zero_le (show 0 ≤ a1 by omega)
      by_cases hk : k ≤ 20
      · obtain ⟨c, hc⟩ : ∃ c : UInt8, a3 = (c.toNat : Int) := ⟨UInt8.ofNat a3.toNat, by simp; omega⟩
        rw [hc]
        exact walk_ok _ _ _ k _ c xs w hr0 h0 hk hb2
      · go_enter Try.func8, Try.ntmps8
        go_wp2
        go_ret
        exact ⟨rfl, Below.refl _ _⟩
  · go_enter Try.func8, Try.ntmps8
    go_wp2
    go_ret
    exact ⟨rfl, Below.refl _ _⟩

/-! ### THE ROW's STEP: WRITTEN OUT: LEAVE IT -/
set_option maxRecDepth 100000 in
theorem lifted (os : Os) (started : os.Started) (H : Type) (enc : TypeId × Value → H) :
    ReturnsInHanded {} Try.checked os 8 .any (Rows.baseNoughtsSpec.pre6 enc Try.prog Try.f8 Rows.baseNoughtsRow.domain false) (Rows.baseNoughtsSpec.post enc Try.prog Try.f8 false true false false) := by
  refine returnsInHanded_of_change (C := Try.checked) own started (by kernel_rfl) Try.func8
    (ChangeSpec.witness6 (enc := enc) (C := Try.checked) false ⟨#[], #[.slice none 0 0, .int .i64 0, .int .i64 0, .int .u8 0], []⟩ 8 (by kernel_rfl) (by kernel_rfl) (by kernel_rfl) (by kernel_rfl)) ?_
  intro W base args ds gs before hval0 hW hcnd _
  have hval : ∀ (j : Nat) t v, Try.f8.params[j]? = some t → args[j]? = some v → Value.okWide Try.prog W .any base t v := hval0
  have hW' := hW
  obtain ⟨p, q, hA0, hV, rfl, hfz, hnd⟩ := hW
  have hA : DataW.TrodAll enc Try.prog W 0 (fun _ => true) true Try.f8.params.toList args.toList ds p := hA0
  rw [Try.params8] at hA hval
  obtain ⟨v0, vs0, d0, ds0, p0, q0, hargs, rfl, rfl, h0, r0⟩ := trodAll_cons hA
  obtain ⟨v1, vs1, d1, ds1, p1, q1, rfl, rfl, rfl, h1, r1⟩ := trodAll_cons r0
  obtain ⟨v2, vs2, d2, ds2, p2, q2, rfl, rfl, rfl, h2, r2⟩ := trodAll_cons r1
  obtain ⟨v3, vs3, d3, ds3, p3, q3, rfl, rfl, rfl, h3, r3⟩ := trodAll_cons r2
  obtain ⟨rfl, rfl, rfl⟩ := trodAll_nil r3
  obtain rfl : args = #[v0, v1, v2, v3] := by cases args; simp_all
  obtain ⟨rfl, rfl⟩ := trodVars_none hV
  obtain ⟨a0, len0, cap0, rfl⟩ := okWide_slice Try.underlying22 (hval 0 22 v0 rfl rfl)
  have k0 := h0
  have lt0 : ∀ x ∈ p0, x.block < W.heap.size := by obtain ⟨m, hm⟩ := k0; exact DataW.trod_lt m _ _ _ hm
  obtain ⟨z0, w0⟩ : ∃ zs, IsRow .u8 W a0 len0 cap0 zs := by
    obtain ⟨fuel, hf⟩ := h0
    rcases open_ints Try.underlying22 Try.underlying5 (by kernel_rfl) hf with ⟨hcs, _⟩ | ⟨x, l, c, zs, hcs, _, hl, hm, hz, _, hcell, hwz⟩
    · simp [Value.cells] at hcs
      obtain ⟨rfl, rfl, rfl⟩ := hcs
      exact ⟨[], .inl ⟨rfl, rfl, rfl, rfl⟩⟩
    · simp [Value.cells] at hcs
      obtain ⟨rfl, rfl, rfl⟩ := hcs
      exact ⟨zs, .inr ⟨_, rfl, hl, hm, by simpa using hz, hcell, hwz⟩⟩
  obtain ⟨a1, rfl, rfl, rfl, w1⟩ := open_int Try.underlying3 (hval 1 3 v1 rfl rfl) h1
  obtain ⟨a2, rfl, rfl, rfl, w2⟩ := open_int Try.underlying3 (hval 2 3 v2 rfl rfl) h2
  obtain ⟨a3, rfl, rfl, rfl, w3⟩ := open_int Try.underlying5 (hval 3 5 v3 rfl rfl) h3
  clear hA0 hval0
  refine (walk a0 len0 cap0 z0 a1 a2 a3 W w0 w1 w2 w3).mono fun e W' ⟨he, bel⟩ => ?_
  subst he
  exact ⟨_, rfl, _, _, _, [], _, [], hW', trodAll_mk1 (shut_bool Try.underlying4 _), (trodAll_cons_mk (Below.trod laidOut (by kernel_rfl) (of_decide_eq_true (by kernel_rfl)) k0 bel lt0) (trodAll_cons_mk (shut_int Try.underlying3 w1) (trodAll_cons_mk (shut_int Try.underlying3 w2) (trodAll_cons_mk (shut_int Try.underlying5 w3) trodAll_mk0)))), rfl, bel.frame _, fun h => by cases h⟩

theorem over : Rows.baseNoughtsRow.holds Try.pinned (OpenSpec.ofChange Rows.baseNoughtsSpec) :=
  OpenClaim.holds_of_wide 8 Try.f8 rfl rfl rfl rfl rfl rfl rfl ⟨rfl, rfl, rfl, rfl, rfl⟩ rfl rfl rfl rfl rfl (by kernel_rfl) Try.func8 (by kernel_rfl)
    (of_decide_eq_true (by kernel_rfl)) (by unfold Func.isWrapper; first | (rw [if_pos (by decide +kernel)]; kernel_rfl) | (rw [if_neg (by decide +kernel)]; exact ⟨rfl, rfl⟩))
    (fun os started H enc _ => lifted os started H enc)

/-- ████ THE STATEMENT ████ -/
theorem proved : Rows.BaseNoughtsSaid := over
#print axioms proved
end Go.Proofs.Ytkkanhbcmdokcaa.baseNoughts
