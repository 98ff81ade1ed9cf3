/-
  The statement 'WireTexts' (chandlerylaw01) holds at every input: the call returns true and leaves its arguments as they were. Conditions: none beyond the row's own.
-/
import Derived.Test.YtdncklgeblggfaaRows
import Derived.Test.YtdncklgeblggfaaT4
import Derived.Test.YtdncklgeblggfaaB2
import Derived.Deep.RegionHeld3
import Derived.WalkKit
import Derived.ProofKit
import Derived.OpenShut
import Derived.ShutString
import Derived.ChangeOld
import Derived.Below
namespace Go.Proofs.Ytdncklgeblggfaa.wireTexts
open Go.ChangeShapes Go.WideShapes Go.ChangeAt Go.RowKit
open Go.ChangeMaps (open_string shut_string)
set_option linter.unusedVariables false

theorem own : ownKnob Try.prog.godebug = none := by kernel_rfl
theorem laidOut : laidOutB Try.prog = true := by kernel_rfl

/-- WHAT THE WALK IS TOLD OF A SLICE OF INTEGERS THAT CAME IN: it is nil; or it leads to a row of 'cap' cells, the numbers 'zs' (the first 'len' are its elements, the rest its spare room), each fitting its kind. -/
def IsRow (k : IntKind) (w : World) (a : Option Addr) (len cap : Nat) (zs : List Int) : Prop :=
  (a = none ∧ len = 0 ∧ cap = 0 ∧ zs = []) ∨
  ∃ x, a = some x ∧ len ≤ cap ∧ cap ≤ maxLen ∧ zs.length = cap ∧ (∀ i, i < zs.length → w.cell? (x.add i) = some (.int k (zs.getD i 0))) ∧ ∀ n ∈ zs, (Lit.int k n).wf = true

/-! ### STEP 1: THE WALK: the Go text returns true, AND WRITES NOTHING THAT WAS THERE: 'Below w.heap.size w w'' (Derived/Below.lean: '.refl', '.alloc', '.drew', '.setCell' at a new block, '.trans'). Open each 'IsRow' by 'rcases' AHEAD of 'go_enter'; part every test ahead of the walk. -/
set_option maxHeartbeats 1000000 in
theorem walk_ok (A A' : Option Addr) (n c n' c' : Nat) (s : ByteArray) (xs bs : List UInt8) (w : World) (h : Bs.Rd w A n c xs) (h' : Bs.Rd w A' n' c' bs) (hn : n ≤ 3000) (hn' : n' ≤ 3000) (hs : s.size ≤ 3000) :
    Calls Try.prog 5 #[.slice A n c, .string s, .slice A' n' c'] w fun e w' => e = .returned (.bool true) ∧ Below w.heap.size w w' := by
  have HL := Lib.hid h.len
  have HL' := Lib.hid h'.len
  have hd1 : decide (n ≤ 3000) = true := by simpa using hn
  have hd2 : decide (n' ≤ 3000) = true := by simpa using hn'
  have HSL : Hid (s.data.toList.length = s.size) := by show _ = _; simp
  obtain ⟨m, hm⟩ : ∃ m, 8 + s.size + Bs.gapN s.size = m := ⟨_, rfl⟩
  have hg := Bs.gapN_lt s.size
  have hgm := Bs.gapN_mod s.size
  have hm1 : m ≤ 3016 := by omega
  have hm8 : m % 8 = 0 := by omega
  have HM := Lib.hid hm
  clear hg hgm
  go_enter Try.func5, Try.ntmps5
  go_wp2_with fail
  refine (small_any _ _ _ w).mono ?_
  rintro e w' ⟨rfl, rfl⟩
  rw [hd1]
  clear hd1
  go_wp2_with fail
  refine (small_any _ _ _ w).mono ?_
  rintro e w' ⟨rfl, rfl⟩
  rw [hd2]
  clear hd2
  go_wp2_with fail
  refine (PutText_any A n c s _ w h (by omega) (by omega)).mono ?_
  rintro e w1 ⟨rfl, hBk, hb1⟩
  rw [hm]
  clear hm
  have hr1 : Bs.Rd w1 (some ⟨w.heap.size, 0, none⟩) (n + m) (n + m) (xs ++ Bs.textB s.data.toList) := hBk.all' _ _ (by rw [List.length_append, Bs.textB_length, HL.out, HSL.out, ← HM.out]; omega) (Nat.le_refl _)
  clear hBk
  obtain ⟨vb, hvb⟩ : ∃ vb, Value.slice (some ⟨w.heap.size, 0, none⟩) (n + m) (n + m) = vb := ⟨_, rfl⟩
  have hcv : ∀ W, Below w1.heap.size w1 W → (convert 22 9 vb).run Try.prog W = .ok (.string ⟨(xs ++ Bs.textB s.data.toList).toArray⟩) W := fun W hW => by rw [← hvb]; exact string_rd W _ _ _ _ (hr1.keep hW)
  rw [hvb]
  have HVB := Lib.hid hvb
  have HCV := Lib.hid hcv
  clear hvb hcv
  go_wp2
  have hd2 : Below w1.heap.size w1 w1.drew := (Below.refl _ _).drew
  refine wp_region_held_drew (S := fun W => (convert 22 9 vb).run Try.prog W = .ok (.string ⟨(xs ++ Bs.textB s.data.toList).toArray⟩) W) (by kernel_rfl) (HCV.out _ hd2) (fun hHeld => ?_)
  refine wpAnyH_take (i := 0) (oi := { dst := some 27, op := Op.move (Operand.tmp 7), type := 22, pos := "law.go:57", after := #[], guard := none }) (v := ?v0) rfl (by kernel_rfl) (by kernel_rfl) (by kernel_rfl) (fun _ _ _ h => h) (Or.inl ⟨by rfl, ?hy0⟩) hHeld ?_
  case hy0 => (intro w hSw; (try dsimp only at hSw); go_simp; first | done | with_reducible rfl)
  try simp only [Act.put, List.setIfInBounds_toArray, List.set_cons_zero, List.set_cons_succ]
  refine wpAnyH_take (i := 2) (oi := { dst := some 29, op := Op.move (Operand.tmp 0), type := 22, pos := "law.go:57", after := #[], guard := none }) (v := ?v2) rfl (by kernel_rfl) (by kernel_rfl) (by kernel_rfl) (fun _ _ _ h => h) (Or.inl ⟨by rfl, ?hy2⟩) hHeld ?_
  case hy2 => (intro w hSw; (try dsimp only at hSw); go_simp; first | done | with_reducible rfl)
  try simp only [Act.put, List.setIfInBounds_toArray, List.set_cons_zero, List.set_cons_succ]
  refine wpAnyH_take (i := 3) (oi := { dst := some 30, op := Op.move (Operand.tmp 1), type := 9, pos := "law.go:57", after := #[], guard := none }) (v := ?v3) rfl (by kernel_rfl) (by kernel_rfl) (by kernel_rfl) (fun _ _ _ h => h) (Or.inl ⟨by rfl, ?hy3⟩) hHeld ?_
  case hy3 => (intro w hSw; (try dsimp only at hSw); go_simp; first | done | with_reducible rfl)
  try simp only [Act.put, List.setIfInBounds_toArray, List.set_cons_zero, List.set_cons_succ]
  refine wpAnyH_take (i := 1) (oi := { dst := some 28, op := Op.convert 22 9 (Operand.tmp 27), type := 9, pos := "law.go:57", after := #[{ on := 0, ground := Ground.data }], guard := none }) (v := ?v1) rfl (by kernel_rfl) (by kernel_rfl) (by kernel_rfl) (fun _ _ _ h => h) (Or.inl ⟨by rfl, ?hy1⟩) hHeld ?_
  case hy1 => (intro w hSw; (try dsimp only at hSw); go_simp; first | done | with_reducible rfl)
  try simp only [Act.put, List.setIfInBounds_toArray, List.set_cons_zero, List.set_cons_succ]
  refine wpAnyH_ready (rs := [4]) (by kernel_rfl) (by simp) ?_
  refine AllReadyH.cons (o := { dst := some 31, op := Op.call { callee := Callee.value (Operand.func 19), args := #[Operand.tmp 30], argTypes := #[9] }, type := 22, pos := "law.go:57", after := #[{ on := 3, ground := Ground.data }], guard := none }) rfl (fun K hK => ?_) AllReadyH.nil
  go_simp
  refine (rText_any s _ (by omega)).mono ?_
  rintro e w4 ⟨v4, rfl, ho4, hb4⟩
  obtain ⟨A4, c4, rfl, hr4⟩ := ho4.slice m (by rw [Bs.textB_length, HSL.out, ← HM.out]; omega)
  have hd4 := Bs.below_step hd2 hb4
  clear ho4 hb4
  go_wp2_with fail
  refine hK.out _ _ (HCV.out _ hd4) (fun hHeld => ?_)
  clear hK K
  try simp only [Act.put, List.setIfInBounds_toArray, List.set_cons_zero, List.set_cons_succ]
  refine wpAnyH_ready (rs := [5]) (by kernel_rfl) (by simp) ?_
  refine AllReadyH.cons (o := { dst := some 32, op := Op.call { callee := Callee.value (Operand.func 12), args := #[Operand.tmp 29, Operand.tmp 31], argTypes := #[22, 22] }, type := 22, pos := "law.go:57", after := #[{ on := 2, ground := Ground.data }, { on := 4, ground := Ground.data }, { on := 4, ground := Ground.chain }], guard := none }) rfl (fun K hK => ?_) AllReadyH.nil
  go_simp
  refine (Both_any _ _ _ _ _ _ _ _ _ (h.keep (Bs.below_step hb1 hd4)) hr4 (by omega) (by omega)).mono ?_
  rintro e w5 ⟨A5, c5, rfl, hr5, hb5⟩
  have hd5 := Bs.below_step hd4 hb5
  have e5 := string_rd w5 _ _ _ _ hr5
  generalize Value.slice A5 (n + m) c5 = v5 at e5 ⊢
  go_wp2_with fail
  refine hK.out _ _ (HCV.out _ hd5) (fun hHeld => ?_)
  clear hK K
  try simp only [Act.put, List.setIfInBounds_toArray, List.set_cons_zero, List.set_cons_succ]
  refine wpAnyH_ready (rs := [6]) (by kernel_rfl) (by simp) ?_
  refine AllReadyH.cons (o := { dst := some 33, op := Op.convert 22 9 (Operand.tmp 32), type := 9, pos := "law.go:57", after := #[{ on := 5, ground := Ground.data }], guard := none }) rfl (fun K hK => ?_) AllReadyH.nil
  go_simp
  refine hK.out _ _ (hHeld) (fun hHeld => ?_)
  clear hK K
  try simp only [Act.put, List.setIfInBounds_toArray, List.set_cons_zero, List.set_cons_succ]
  refine wpAnyH_take (i := 7) (oi := { dst := some 34, op := Op.binOp BinOp.neq 9 (Operand.tmp 28) (Operand.tmp 33) 9, type := 4, pos := "law.go:57", after := #[{ on := 1, ground := Ground.data }, { on := 6, ground := Ground.data }], guard := none }) (v := ?v7) rfl (by kernel_rfl) (by kernel_rfl) (by kernel_rfl) (fun _ _ _ h => h) (Or.inl ⟨by rfl, ?hy7⟩) hHeld ?_
  case hy7 => (intro w hSw; (try dsimp only at hSw); go_simp; first | done | with_reducible rfl)
  try simp only [Act.put, List.setIfInBounds_toArray, List.set_cons_zero, List.set_cons_succ]
  refine wpAnyH_done (by kernel_rfl) ?_ _
  have hB5 := Bs.below_step hb1 hd5
  have HT := Lib.hid (Bs.textF_mid xs s.data.toList bs (by rw [HSL.out]; omega))
  rw [HL.out, HSL.out] at HT
  have hend : n + (8 + (s.size + Bs.gapN s.size)) = n + m := by rw [← HM.out]; omega
  rw [hend, ← List.append_assoc] at HT
  clear hend
  have hr5' := hr1.keep hd5
  obtain rfl := HVB.out
  clear e5 hHeld
  go_wp2_with fail
  refine (Both_any _ _ _ _ _ _ _ _ _ hr5' (h'.keep hB5) (by omega) (by omega)).mono ?_
  rintro e w6 ⟨A6, c6, rfl, hr6, hb6⟩
  go_wp2_with fail
  refine (TextAt_any _ _ _ (n : Int) _ w6 hr6 (by omega) (by omega)).mono ?_
  rintro e w7 ⟨rfl, rfl⟩
  rw [HT.out]
  unfold tx3
  have ht8 : (((n : Int) + m - n) % 8 == 0) = true := by simp; omega
  go_wp2_with fail
  refine (awake_any w6).mono ?_
  rintro e w8 ⟨rfl, hb8⟩
  go_wp2
  go_ret
  exact ⟨rfl, Bs.below_step (Bs.below_step hB5 hb6) hb8⟩

set_option maxHeartbeats 1000000 in
theorem walk (a0 : Option Addr) (len0 cap0 : Nat) (z0 : List Int) (a1 : ByteArray) (a2 : Option Addr) (len2 cap2 : Nat) (z2 : List Int) (w : World) (w0 : IsRow .u8 w a0 len0 cap0 z0) (w1 : a1.size ≤ maxLen) (w2 : IsRow .u8 w a2 len2 cap2 z2) :
    Calls Try.prog 5 #[.slice a0 len0 cap0, .string a1, .slice a2 len2 cap2] w fun e w' => e = .returned (.bool true) ∧ Below w.heap.size w w' := by
  obtain ⟨hm0, xs, hr0⟩ := Bs.rd_of_row w0
  obtain ⟨hm2, bs, hr2⟩ := Bs.rd_of_row w2
  by_cases h0 : len0 ≤ 3000
  · by_cases h2 : len2 ≤ 3000
    · by_cases h1 : a1.size ≤ 3000
      · exact walk_ok _ _ _ _ _ _ _ xs bs w hr0 hr2 h0 h2 h1
      · have hd1 : decide (len0 ≤ 3000) = true := by simpa using h0
        have hd2 : decide (len2 ≤ 3000) = true := by simpa using h2
        go_enter Try.func5, Try.ntmps5
        go_wp2_with fail
        refine (small_any _ _ _ w).mono ?_
        rintro e w' ⟨rfl, rfl⟩
        rw [hd1]
        clear hd1
        go_wp2_with fail
        refine (small_any _ _ _ w).mono ?_
        rintro e w' ⟨rfl, rfl⟩
        rw [hd2]
        clear hd2
        go_wp2
        go_ret
        exact ⟨rfl, Below.refl _ _⟩
    · have hd1 : decide (len0 ≤ 3000) = true := by simpa using h0
      have hd2 : decide (len2 ≤ 3000) = false := by simpa using h2
      go_enter Try.func5, Try.ntmps5
      go_wp2_with fail
      refine (small_any _ _ _ w).mono ?_
      rintro e w' ⟨rfl, rfl⟩
      rw [hd1]
      clear hd1
      go_wp2_with fail
      refine (small_any _ _ _ w).mono ?_
      rintro e w' ⟨rfl, rfl⟩
      rw [hd2]
      clear hd2
      go_wp2
      go_ret
      exact ⟨rfl, Below.refl _ _⟩
  · have hd1 : decide (len0 ≤ 3000) = false := by simpa using h0
    go_enter Try.func5, Try.ntmps5
    go_wp2_with fail
    refine (small_any _ _ _ w).mono ?_
    rintro e w' ⟨rfl, rfl⟩
    rw [hd1]
    clear hd1
    go_wp2
    go_ret
    exact ⟨rfl, Below.refl _ _⟩

/-! ### THE ROW's STEP: WRITTEN OUT: LEAVE IT -/
set_option maxRecDepth 100000 in
theorem lifted (os : Os) (started : os.Started) (H : Type) (enc : TypeId × Value → H) :
    ReturnsInHanded {} Try.checked os 5 .any (Rows.wireTextsSpec.pre6 enc Try.prog Try.f5 Rows.wireTextsRow.domain false) (Rows.wireTextsSpec.post enc Try.prog Try.f5 false true false false) := by
  refine returnsInHanded_of_change (C := Try.checked) own started (by kernel_rfl) Try.func5
    (ChangeSpec.witness6 (enc := enc) (C := Try.checked) false ⟨#[], #[.slice none 0 0, .string ByteArray.empty, .slice none 0 0], []⟩ 8 (by kernel_rfl) (by kernel_rfl) (by kernel_rfl) (by kernel_rfl)) ?_
  intro W base args ds gs before hval0 hW hcnd _
  have hval : ∀ (j : Nat) t v, Try.f5.params[j]? = some t → args[j]? = some v → Value.okWide Try.prog W .any base t v := hval0
  have hW' := hW
  obtain ⟨p, q, hA0, hV, rfl, hfz, hnd⟩ := hW
  have hA : DataW.TrodAll enc Try.prog W 0 (fun _ => true) true Try.f5.params.toList args.toList ds p := hA0
  rw [Try.params5] at hA hval
  obtain ⟨v0, vs0, d0, ds0, p0, q0, hargs, rfl, rfl, h0, r0⟩ := trodAll_cons hA
  obtain ⟨v1, vs1, d1, ds1, p1, q1, rfl, rfl, rfl, h1, r1⟩ := trodAll_cons r0
  obtain ⟨v2, vs2, d2, ds2, p2, q2, rfl, rfl, rfl, h2, r2⟩ := trodAll_cons r1
  obtain ⟨rfl, rfl, rfl⟩ := trodAll_nil r2
  obtain rfl : args = #[v0, v1, v2] := by cases args; simp_all
  obtain ⟨rfl, rfl⟩ := trodVars_none hV
  obtain ⟨a0, len0, cap0, rfl⟩ := okWide_slice Try.underlying22 (hval 0 22 v0 rfl rfl)
  have k0 := h0
  have lt0 : ∀ x ∈ p0, x.block < W.heap.size := by obtain ⟨m, hm⟩ := k0; exact DataW.trod_lt m _ _ _ hm
  obtain ⟨z0, w0⟩ : ∃ zs, IsRow .u8 W a0 len0 cap0 zs := by
    obtain ⟨fuel, hf⟩ := h0
    rcases open_ints Try.underlying22 Try.underlying5 (by kernel_rfl) hf with ⟨hcs, _⟩ | ⟨x, l, c, zs, hcs, _, hl, hm, hz, _, hcell, hwz⟩
    · simp [Value.cells] at hcs
      obtain ⟨rfl, rfl, rfl⟩ := hcs
      exact ⟨[], .inl ⟨rfl, rfl, rfl, rfl⟩⟩
    · simp [Value.cells] at hcs
      obtain ⟨rfl, rfl, rfl⟩ := hcs
      exact ⟨zs, .inr ⟨_, rfl, hl, hm, by simpa using hz, hcell, hwz⟩⟩
  obtain ⟨a1, rfl, rfl, rfl, w1⟩ := open_string Try.underlying9 (hval 1 9 v1 rfl rfl) h1
  obtain ⟨a2, len2, cap2, rfl⟩ := okWide_slice Try.underlying22 (hval 2 22 v2 rfl rfl)
  have k2 := h2
  have lt2 : ∀ x ∈ p2, x.block < W.heap.size := by obtain ⟨m, hm⟩ := k2; exact DataW.trod_lt m _ _ _ hm
  obtain ⟨z2, w2⟩ : ∃ zs, IsRow .u8 W a2 len2 cap2 zs := by
    obtain ⟨fuel, hf⟩ := h2
    rcases open_ints Try.underlying22 Try.underlying5 (by kernel_rfl) hf with ⟨hcs, _⟩ | ⟨x, l, c, zs, hcs, _, hl, hm, hz, _, hcell, hwz⟩
    · simp [Value.cells] at hcs
      obtain ⟨rfl, rfl, rfl⟩ := hcs
      exact ⟨[], .inl ⟨rfl, rfl, rfl, rfl⟩⟩
    · simp [Value.cells] at hcs
      obtain ⟨rfl, rfl, rfl⟩ := hcs
      exact ⟨zs, .inr ⟨_, rfl, hl, hm, by simpa using hz, hcell, hwz⟩⟩
  clear hA0 hval0
  refine (walk a0 len0 cap0 z0 a1 a2 len2 cap2 z2 W w0 w1 w2).mono fun e W' ⟨he, bel⟩ => ?_
  subst he
  exact ⟨_, rfl, _, _, _, [], _, [], hW', trodAll_mk1 (shut_bool Try.underlying4 _), (trodAll_cons_mk (Below.trod laidOut (by kernel_rfl) (of_decide_eq_true (by kernel_rfl)) k0 bel lt0) (trodAll_cons_mk (shut_string Try.underlying9 w1) (trodAll_cons_mk (Below.trod laidOut (by kernel_rfl) (of_decide_eq_true (by kernel_rfl)) k2 bel lt2) trodAll_mk0))), rfl, bel.frame _, fun h => by cases h⟩

theorem over : Rows.wireTextsRow.holds Try.pinned (OpenSpec.ofChange Rows.wireTextsSpec) :=
  OpenClaim.holds_of_wide 5 Try.f5 rfl rfl rfl rfl rfl rfl rfl ⟨rfl, rfl, rfl, rfl, rfl⟩ rfl rfl rfl rfl rfl (by kernel_rfl) Try.func5 (by kernel_rfl)
    (of_decide_eq_true (by kernel_rfl)) (by unfold Func.isWrapper; first | (rw [if_pos (by decide +kernel)]; kernel_rfl) | (rw [if_neg (by decide +kernel)]; exact ⟨rfl, rfl⟩))
    (fun os started H enc _ => lifted os started H enc)

/-- ████ THE STATEMENT ████ -/
theorem proved : Rows.WireTextsSaid := over
#print axioms proved
end Go.Proofs.Ytdncklgeblggfaa.wireTexts
