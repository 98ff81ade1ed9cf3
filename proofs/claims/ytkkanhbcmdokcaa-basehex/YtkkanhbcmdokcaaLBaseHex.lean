/-
  The statement 'BaseHex' (chandlerylaw02) holds at every input: the call returns true and leaves its arguments as they were. Conditions: none beyond the row's own.
-/
import Derived.Test.YtkkanhbcmdokcaaRows
import Derived.Test.YtkkanhbcmdokcaaT8
import Derived.WalkKit
import Derived.ProofKit
import Derived.OpenShut
import Derived.ShutString
import Derived.ChangeOld
import Derived.Below
namespace Go.Proofs.Ytkkanhbcmdokcaa.baseHex
open Go.ChangeShapes Go.WideShapes Go.ChangeAt Go.RowKit
open Go.ChangeMaps (open_string shut_string)
set_option linter.unusedVariables false

theorem own : ownKnob Try.prog.godebug = none := by kernel_rfl
theorem laidOut : laidOutB Try.prog = true := by kernel_rfl

/-- WHAT THE WALK IS TOLD OF A SLICE OF INTEGERS THAT CAME IN: it is nil; or it leads to a row of 'cap' cells, the numbers 'zs' (the first 'len' are its elements, the rest its spare room), each fitting its kind. -/
def IsRow (k : IntKind) (w : World) (a : Option Addr) (len cap : Nat) (zs : List Int) : Prop :=
  (a = none ∧ len = 0 ∧ cap = 0 ∧ zs = []) ∨
  ∃ x, a = some x ∧ len ≤ cap ∧ cap ≤ maxLen ∧ zs.length = cap ∧ (∀ i, i < zs.length → w.cell? (x.add i) = some (.int k (zs.getD i 0))) ∧ ∀ n ∈ zs, (Lit.int k n).wf = true

/-! ### STEP 1: THE WALK: the Go text returns true, AND WRITES NOTHING THAT WAS THERE: 'Below w.heap.size w w'' (Derived/Below.lean: '.refl', '.alloc', '.drew', '.setCell' at a new block, '.trans'). Open each 'IsRow' by 'rcases' AHEAD of 'go_enter'; part every test ahead of the walk. -/
set_option maxHeartbeats 400000 in
theorem rUnhex_yes (s : ByteArray) (l : List UInt8) (n : Nat) (w : World) (hsl : s.data.toList = l) (hs : s.size ≤ 17592186044416) (hn : s.size / 2 = n) (hg : Bs.good16 l) :
    Calls Try.prog 12 #[.string s] w fun e w' => (∃ A c, e = .returned (.tuple #[.slice A n c, .bool true]) ∧ Bs.Rd w' A n c (Bs.unhexL l)) ∧ Below w.heap.size w w' := by
  refine (rUnhex_any s l w hsl hs).mono ?_
  rintro e w' ⟨hb, ⟨_, v, rfl, hO⟩ | ⟨h, _⟩⟩
  · obtain ⟨A, c, rfl, hr⟩ := hO.slice n (by rw [Bs.unhexL_length, ← hsl, ← hn]; simp)
    exact ⟨⟨A, c, rfl, hr⟩, hb⟩
  · exact absurd hg h
theorem rUnhex_no (s : ByteArray) (l : List UInt8) (w : World) (hsl : s.data.toList = l) (hs : s.size ≤ 17592186044416) (hg : ¬ Bs.good16 l) :
    Calls Try.prog 12 #[.string s] w fun e w' => e = .returned (.tuple #[.slice none 0 0, .bool false]) ∧ Below w.heap.size w w' := by
  refine (rUnhex_any s l w hsl hs).mono ?_
  rintro e w' ⟨hb, ⟨h, v, rfl, hO⟩ | ⟨h, rfl⟩⟩
  · exact absurd h hg
  · exact ⟨rfl, hb⟩

set_option maxHeartbeats 1000000 in
theorem walk (a0 : Option Addr) (len0 cap0 : Nat) (z0 : List Int) (a1 : ByteArray) (w : World) (w0 : IsRow .u8 w a0 len0 cap0 z0) (w1 : a1.size ≤ maxLen) :
    Calls Try.prog 3 #[.slice a0 len0 cap0, .string a1] w fun e w' => e = .returned (.bool true) ∧ Below w.heap.size w w' := by
  obtain ⟨hm, bs, hr⟩ := Bs.rd_of_row w0
  clear w0
  by_cases h0 : len0 ≤ 2000
  · by_cases hs : a1.size ≤ 2000
    · obtain ⟨l, hl⟩ : ∃ l, a1.data.toList = l := ⟨_, rfl⟩
      have hst : a1.toList = l := by rw [Lib.toList_data, hl]
      have HL := Lib.hid hr.len
      have HH := Lib.hid (Hex_any _ _ _ bs w hr (by omega))
      obtain ⟨S, hS⟩ : ∃ S : ByteArray, ⟨(Bs.hexL bs).toArray⟩ = S := ⟨_, rfl⟩
      have hSl : S.data.toList = Bs.hexL bs := by rw [← hS]
      have hSs : S.size = 2 * len0 := by rw [Lib.size_eq, hSl, Bs.hexL_length, HL.out]
      have HU : Hid (∀ w, Calls Try.prog 10 #[.string S] w fun e w' => e = .returned (.tuple #[.slice (some ⟨w.heap.size, 0, none⟩) len0 len0, .int .i64 0]) ∧ Bs.Rd w' (some ⟨w.heap.size, 0, none⟩) len0 len0 bs ∧ Below w.heap.size w w') := fun w => by
        have := Unhex_yes S (Bs.hexL bs) len0 w hSl (by omega) (by omega) (Bs.good_hexL bs)
        rwa [Bs.unhex_hex] at this
      have HRH : Hid (∀ w, Bs.Rd w a0 len0 cap0 bs → Calls Try.prog 11 #[.slice a0 len0 cap0] w fun e w' => e = .returned (.string S) ∧ Below w.heap.size w w') := fun w h => by
        rw [← hS]; exact rHex_any _ _ _ bs w h (by omega)
      rw [hS] at HH
      clear hS hSl hSs
      by_cases hg : Bs.good16 l
      · obtain ⟨n, hn⟩ : ∃ n, a1.size / 2 = n := ⟨_, rfl⟩
        have HD : Hid (∀ w, Calls Try.prog 10 #[.string a1] w fun e w' => e = .returned (.tuple #[.slice (some ⟨w.heap.size, 0, none⟩) n n, .int .i64 0]) ∧ Bs.Rd w' (some ⟨w.heap.size, 0, none⟩) n n (Bs.unhexL l) ∧ Below w.heap.size w w') := fun w => Unhex_yes a1 l n w hl (by omega) hn hg
        have HRD : Hid (∀ w, Calls Try.prog 12 #[.string a1] w fun e w' => (∃ A c, e = .returned (.tuple #[.slice A n c, .bool true]) ∧ Bs.Rd w' A n c (Bs.unhexL l)) ∧ Below w.heap.size w w') := fun w => rUnhex_yes a1 l n w hl (by omega) hn hg
        have HUN := Lib.hid (Bs.hex_unhex l hg)
        have hnn : n ≤ 1000 := by omega
        clear hn hg hl
        go_enter Try.func3, Try.ntmps3
        go_wp2_with fail
        refine HH.out.mono ?_
        rintro e w1 ⟨rfl, hb1⟩
        go_wp2_with fail
        refine (HU.out w1).mono ?_
        rintro e w2 ⟨rfl, hr2, hb2⟩
        have HB2 := Lib.hid (Bs.below_step hb1 hb2)
        obtain ⟨g1, hg1⟩ : ∃ g, w1.heap.size = g := ⟨_, rfl⟩
        rw [hg1] at hr2 ⊢
        clear hb1 hb2 hg1
        go_wp2_with fail
        refine (HRH.out w2 (hr.keep HB2.out)).mono ?_
        rintro e w3 ⟨rfl, hb3⟩
        have HB3 := Lib.hid (Bs.below_step HB2.out hb3)
        have hs1 := string_rd w3 _ _ _ _ (hr2.keep hb3)
        have hs2 := string_rd w3 _ _ _ _ (hr.keep HB3.out)
        clear hb3 hr2
        go_wp2_with fail
        refine (HD.out w3).mono ?_
        rintro e w4 ⟨rfl, hr4, hb4⟩
        have HB4 := Lib.hid (Bs.below_step HB3.out hb4)
        obtain ⟨g3, hg3⟩ : ∃ g, w3.heap.size = g := ⟨_, rfl⟩
        rw [hg3] at hr4 ⊢
        clear hb4 hg3 hs1 hs2
        go_wp2_with fail
        refine (HRD.out w4).mono ?_
        rintro e w5 ⟨⟨A5, c5, rfl, hr5⟩, hb5⟩
        have HB5 := Lib.hid (Bs.below_step HB4.out hb5)
        have hr4 := hr4.keep hb5
        clear hb5
        go_wp2_with fail
        refine (awake_any w5).mono ?_
        rintro e w6 ⟨rfl, hb6⟩
        have HB6 := Lib.hid (Bs.below_step HB5.out hb6)
        have hr4 := hr4.keep hb6
        have hs4 := string_rd w6 _ _ _ _ hr4
        have hs5 := string_rd w6 _ _ _ _ (hr5.keep hb6)
        clear hb6
        go_wp2_with fail
        refine (Hex_any _ _ _ _ w6 hr4 (by omega)).mono ?_
        rintro e w7 ⟨rfl, hb7⟩
        rw [HUN.out]
        go_wp2
        go_ret
        exact ⟨rfl, Bs.below_step HB6.out hb7⟩
      · have HD : Hid (∀ w, Calls Try.prog 10 #[.string a1] w fun e w' => e = .returned (.tuple #[.slice none 0 0, .int .i64 4]) ∧ Below w.heap.size w w') := fun w => Unhex_no a1 l w hl (by omega) hg
        have HRD : Hid (∀ w, Calls Try.prog 12 #[.string a1] w fun e w' => e = .returned (.tuple #[.slice none 0 0, .bool false]) ∧ Below w.heap.size w w') := fun w => rUnhex_no a1 l w hl (by omega) hg
        clear hg hl
        go_enter Try.func3, Try.ntmps3
        go_wp2_with fail
        refine HH.out.mono ?_
        rintro e w1 ⟨rfl, hb1⟩
        go_wp2_with fail
        refine (HU.out w1).mono ?_
        rintro e w2 ⟨rfl, hr2, hb2⟩
        have HB2 := Lib.hid (Bs.below_step hb1 hb2)
        obtain ⟨g1, hg1⟩ : ∃ g, w1.heap.size = g := ⟨_, rfl⟩
        rw [hg1] at hr2 ⊢
        clear hb1 hb2 hg1
        go_wp2_with fail
        refine (HRH.out w2 (hr.keep HB2.out)).mono ?_
        rintro e w3 ⟨rfl, hb3⟩
        have HB3 := Lib.hid (Bs.below_step HB2.out hb3)
        have hs1 := string_rd w3 _ _ _ _ (hr2.keep hb3)
        have hs2 := string_rd w3 _ _ _ _ (hr.keep HB3.out)
        clear hb3 hr2
        go_wp2_with fail
        refine (HD.out w3).mono ?_
        rintro e w4 ⟨rfl, hb4⟩
        have HB4 := Lib.hid (Bs.below_step HB3.out hb4)
        clear hb4 hs1 hs2
        go_wp2_with fail
        refine (HRD.out w4).mono ?_
        rintro e w5 ⟨rfl, hb5⟩
        have HB5 := Lib.hid (Bs.below_step HB4.out hb5)
        clear hb5
        go_wp2_with fail
        refine (awake_any w5).mono ?_
        rintro e w6 ⟨rfl, hb6⟩
        have HB6 := Lib.hid (Bs.below_step HB5.out hb6)
        clear hb6
        go_wp2
        go_ret
        exact ⟨rfl, HB6.out⟩
    · go_enter Try.func3, Try.ntmps3
      go_wp2
      go_ret
      exact ⟨rfl, Below.refl _ _⟩
  · go_enter Try.func3, Try.ntmps3
    go_wp2
    go_ret
    exact ⟨rfl, Below.refl _ _⟩

/-! ### THE ROW's STEP: WRITTEN OUT: LEAVE IT -/
set_option maxRecDepth 100000 in
theorem lifted (os : Os) (started : os.Started) (H : Type) (enc : TypeId × Value → H) :
    ReturnsInHanded {} Try.checked os 3 .any (Rows.baseHexSpec.pre6 enc Try.prog Try.f3 Rows.baseHexRow.domain false) (Rows.baseHexSpec.post enc Try.prog Try.f3 false true false false) := by
  refine returnsInHanded_of_change (C := Try.checked) own started (by kernel_rfl) Try.func3
    (ChangeSpec.witness6 (enc := enc) (C := Try.checked) false ⟨#[], #[.slice none 0 0, .string ByteArray.empty], []⟩ 8 (by kernel_rfl) (by kernel_rfl) (by kernel_rfl) (by kernel_rfl)) ?_
  intro W base args ds gs before hval0 hW hcnd _
  have hval : ∀ (j : Nat) t v, Try.f3.params[j]? = some t → args[j]? = some v → Value.okWide Try.prog W .any base t v := hval0
  have hW' := hW
  obtain ⟨p, q, hA0, hV, rfl, hfz, hnd⟩ := hW
  have hA : DataW.TrodAll enc Try.prog W 0 (fun _ => true) true Try.f3.params.toList args.toList ds p := hA0
  rw [Try.params3] at hA hval
  obtain ⟨v0, vs0, d0, ds0, p0, q0, hargs, rfl, rfl, h0, r0⟩ := trodAll_cons hA
  obtain ⟨v1, vs1, d1, ds1, p1, q1, rfl, rfl, rfl, h1, r1⟩ := trodAll_cons r0
  obtain ⟨rfl, rfl, rfl⟩ := trodAll_nil r1
  obtain rfl : args = #[v0, v1] := by cases args; simp_all
  obtain ⟨rfl, rfl⟩ := trodVars_none hV
  obtain ⟨a0, len0, cap0, rfl⟩ := okWide_slice Try.underlying22 (hval 0 22 v0 rfl rfl)
  have k0 := h0
  have lt0 : ∀ x ∈ p0, x.block < W.heap.size := by obtain ⟨m, hm⟩ := k0; exact DataW.trod_lt m _ _ _ hm
  obtain ⟨z0, w0⟩ : ∃ zs, IsRow .u8 W a0 len0 cap0 zs := by
    obtain ⟨fuel, hf⟩ := h0
    rcases open_ints Try.underlying22 Try.underlying5 (by kernel_rfl) hf with ⟨hcs, _⟩ | ⟨x, l, c, zs, hcs, _, hl, hm, hz, _, hcell, hwz⟩
    · simp [Value.cells] at hcs
      obtain ⟨rfl, rfl, rfl⟩ := hcs
      exact ⟨[], .inl ⟨rfl, rfl, rfl, rfl⟩⟩
    · simp [Value.cells] at hcs
      obtain ⟨rfl, rfl, rfl⟩ := hcs
      exact ⟨zs, .inr ⟨_, rfl, hl, hm, by simpa using hz, hcell, hwz⟩⟩
  obtain ⟨a1, rfl, rfl, rfl, w1⟩ := open_string Try.underlying9 (hval 1 9 v1 rfl rfl) h1
  clear hA0 hval0
  refine (walk a0 len0 cap0 z0 a1 W w0 w1).mono fun e W' ⟨he, bel⟩ => ?_
  subst he
  exact ⟨_, rfl, _, _, _, [], _, [], hW', trodAll_mk1 (shut_bool Try.underlying4 _), (trodAll_cons_mk (Below.trod laidOut (by kernel_rfl) (of_decide_eq_true (by kernel_rfl)) k0 bel lt0) (trodAll_cons_mk (shut_string Try.underlying9 w1) trodAll_mk0)), rfl, bel.frame _, fun h => by cases h⟩

theorem over : Rows.baseHexRow.holds Try.pinned (OpenSpec.ofChange Rows.baseHexSpec) :=
  OpenClaim.holds_of_wide 3 Try.f3 rfl rfl rfl rfl rfl rfl rfl ⟨rfl, rfl, rfl, rfl, rfl⟩ rfl rfl rfl rfl rfl (by kernel_rfl) Try.func3 (by kernel_rfl)
    (of_decide_eq_true (by kernel_rfl)) (by unfold Func.isWrapper; first | (rw [if_pos (by decide +kernel)]; kernel_rfl) | (rw [if_neg (by decide +kernel)]; exact ⟨rfl, rfl⟩))
    (fun os started H enc _ => lifted os started H enc)

/-- ████ THE STATEMENT ████ -/
theorem proved : Rows.BaseHexSaid := over
#print axioms proved
end Go.Proofs.Ytkkanhbcmdokcaa.baseHex
