/-
  The statement 'WireAgain' (chandlerylaw01) holds at every input: the call returns true and leaves its arguments as they were. Conditions: none beyond the row's own.
-/
import Derived.Test.YtdncklgeblggfaaRows
import Derived.Test.YtdncklgeblggfaaT4
import Derived.Test.YtdncklgeblggfaaB2
import Derived.Deep.RegionHeld3
import Derived.IntWalk
import Derived.WalkKit
import Derived.ProofKit
import Derived.OpenShut
import Derived.ShutString
import Derived.ChangeOld
import Derived.Below
namespace Go.Proofs.Ytdncklgeblggfaa.wireAgain
open Go.ChangeShapes Go.WideShapes Go.ChangeAt Go.RowKit
open Go.ChangeMaps (open_string shut_string)
set_option linter.unusedVariables false

theorem own : ownKnob Try.prog.godebug = none := by kernel_rfl
theorem laidOut : laidOutB Try.prog = true := by kernel_rfl

/-- WHAT THE WALK IS TOLD OF A SLICE OF INTEGERS THAT CAME IN: it is nil; or it leads to a row of 'cap' cells, the numbers 'zs' (the first 'len' are its elements, the rest its spare room), each fitting its kind. -/
def IsRow (k : IntKind) (w : World) (a : Option Addr) (len cap : Nat) (zs : List Int) : Prop :=
  (a = none ∧ len = 0 ∧ cap = 0 ∧ zs = []) ∨
  ∃ x, a = some x ∧ len ≤ cap ∧ cap ≤ maxLen ∧ zs.length = cap ∧ (∀ i, i < zs.length → w.cell? (x.add i) = some (.int k (zs.getD i 0))) ∧ ∀ n ∈ zs, (Lit.int k n).wf = true

/-! ### STEP 1: THE WALK: the Go text returns true, AND WRITES NOTHING THAT WAS THERE: 'Below w.heap.size w w'' (Derived/Below.lean: '.refl', '.alloc', '.drew', '.setCell' at a new block, '.trans'). Open each 'IsRow' by 'rcases' AHEAD of 'go_enter'; part every test ahead of the walk. -/
set_option maxHeartbeats 400000 in
theorem PutText_v (A : Option Addr) (n c : Nat) (s : ByteArray) (bs : List UInt8) (w : World) (h : Bs.Rd w A n c bs) (hn : n ≤ 17592186044416) (hs : s.size ≤ 17592186044416) :
    Calls Try.prog 18 #[.slice A n c, .string s] w fun e w' => ∃ v, e = .returned v ∧ (∀ W, Below w'.heap.size w' W → (convert 22 9 v).run Try.prog W = .ok (.string ⟨(bs ++ Bs.textB s.data.toList).toArray⟩) W) ∧ Below w.heap.size w w' := by
  refine (PutText_any A n c s bs w h hn hs).mono ?_
  rintro e w' ⟨rfl, hB, hb⟩
  refine ⟨_, rfl, fun W hW => ?_, hb⟩
  exact string_rd W _ _ _ _ ((hB.all' _ _ (by rw [List.length_append, h.len, Bs.textB_length]; simp; omega) (Nat.le_refl _)).keep hW)

set_option maxHeartbeats 1000000 in
theorem walk_err (A : Option Addr) (n c : Nat) (i : Int) (bs : List UInt8) (w : World) (h : Bs.Rd w A n c bs) (hn : n ≤ 3000) (hi : i ≤ 9223372036854775807) (he : (Bs.atF bs i).2.2 ≠ 0) :
    Calls Try.prog 6 #[.slice A n c, .int .i64 i] w fun e w' => e = .returned (.bool true) ∧ Below w.heap.size w w' := by
  obtain ⟨x, y, e, ha, he'⟩ : ∃ x y e : Int, Bs.atF bs i = (x, y, e) ∧ e ≠ 0 := ⟨_, _, _, rfl, he⟩
  have HF := Lib.hid (Bs.textF_err bs i x y e ha he')
  have HA := Lib.hid ha
  have hne : (e != 0) = true := by simpa using he'
  have hne2 : (e == 0) = false := by simpa using he'
  have hds : decide (n ≤ 3000) = true := by simpa using hn
  clear ha he
  go_enter Try.func6, Try.ntmps6
  go_wp2_with fail
  refine (small_any _ _ _ w).mono ?_
  rintro e w' ⟨rfl, rfl⟩
  rw [hds]
  clear hds
  go_wp2_with fail
  refine (At_any _ _ _ _ bs w h (by omega) hi).mono ?_
  rintro e w' ⟨rfl, rfl⟩
  rw [HA.out]
  unfold at3
  go_wp2_with fail
  refine (TextAt_any _ _ _ _ bs w h (by omega) hi).mono ?_
  rintro e w' ⟨rfl, rfl⟩
  rw [HF.out]
  unfold tx3
  go_wp2_with fail
  refine (awake_any w).mono ?_
  rintro e w2 ⟨rfl, hb2⟩
  go_wp2
  go_ret
  exact ⟨rfl, hb2⟩

set_option maxHeartbeats 2000000 in
theorem walk_at (g o n c k m : Nat) (t : List UInt8) (to e : Int) (bs : List UInt8) (w : World) (h : Bs.Rd w (some ⟨g, o, none⟩) n c bs) (hn : n ≤ 3000) (hk : k + 8 ≤ n) (hm : m ≤ 2147483647)
    (ha : Bs.atF bs k = ((m : Int), (k : Int) + 8, 0)) (hf : Bs.textF bs k = (t, to, e))
    (hcase : (e ≠ 0 ∧ t = [] ∧ to = 0) ∨ (e = 0 ∧ ∃ T : Nat, to = T ∧ k < T ∧ T ≤ n ∧ t.length ≤ 3000 ∧ Bs.textB t = (bs.drop k).take (T - k))) :
    Calls Try.prog 6 #[.slice (some ⟨g, o, none⟩) n c, .int .i64 k] w fun e w' => e = .returned (.bool true) ∧ Below w.heap.size w w' := by
  have HL := Lib.hid h.len
  have hcap := h.cap
  have HF := Lib.hid hf
  have HCASE := Lib.hid hcase
  clear hcase
  have HA := Lib.hid ha
  have hds : decide (n ≤ 3000) = true := by simpa using hn
  have hlen : decide ((n : Int) < (k : Int) + 8) = false := by simp; omega
  have HNB := Lib.hid (Bs.numB_part bs k m _ (by rw [HL.out]; exact hk) ha)
  clear ha hf
  go_enter Try.func6, Try.ntmps6
  go_wp2_with fail
  refine (small_any _ _ _ w).mono ?_
  rintro e w' ⟨rfl, rfl⟩
  rw [hds]
  clear hds
  go_wp2_with fail
  refine (At_any _ _ _ _ bs w h (by omega) (by omega)).mono ?_
  rintro e w' ⟨rfl, rfl⟩
  rw [HA.out]
  unfold at3
  go_wp2_with fail
  refine (Put_yes none 0 0 m [] w (Bs.Rd.nil _ _ _) (by omega) hm).mono ?_
  rintro e w1 ⟨rfl, hBk, hb1⟩
  have hr1 := hBk.all' 8 8 (by simp [Bs.numB_length]) (Nat.le_refl _)
  rw [List.nil_append, HNB.out] at hr1
  clear hBk
  have HS1 : Hid (∀ W, Below w1.heap.size w1 W → (convert 22 9 (.slice (some ⟨w.heap.size, 0, none⟩) 8 8)).run Try.prog W = .ok (.string ⟨((bs.drop k).take 8).toArray⟩) W) := fun W hW => string_rd W _ _ _ _ (hr1.keep hW)
  have HS2 : Hid (∀ W, Below w1.heap.size w1 W → (convert 22 9 (.slice (some ⟨g, o + k, none⟩) 8 (c - k))).run Try.prog W = .ok (.string ⟨((bs.drop k).take 8).toArray⟩) W) := fun W hW => string_rd W _ _ _ _ (((h.keep hb1).keep hW).part k 8 (c - k) hk (by omega))
  go_wp2
  have hd1 : Below w1.heap.size w1 w1.drew := (Below.refl _ _).drew
  have hwr : IntKind.i64.wrap ((k : Int) + 8) = (k : Int) + 8 := IntWalk.i64_in _ (by omega)
  have hs1 : (0 : Int) ≤ (k : Int) + 8 ∧ (k : Int) + 8 ≤ (c : Int) := by omega
  have hs2 : (k : Int) ≤ (k : Int) + 8 := by omega
  have hs3 : ¬ c = k := by omega
  have hs4 : ((k : Int) + 8).toNat = k + 8 := by omega
  have hs5 : k + 8 - k = 8 := by omega
  go_region_held3 (fun W => (convert 22 9 (.slice (some ⟨w.heap.size, 0, none⟩) 8 8)).run Try.prog W = .ok (.string ⟨((bs.drop k).take 8).toArray⟩) W ∧ (convert 22 9 (.slice (some ⟨g, o + k, none⟩) 8 (c - k))).run Try.prog W = .ok (.string ⟨((bs.drop k).take 8).toArray⟩) W)
    (exact ⟨HS1.out _ hd1, HS2.out _ hd1⟩) (fail)
  clear hwr hs1 hs2 hs3 hs4 hs5
  have hB1 := hb1.drew
  have h1 := h.keep hB1
  clear hr1
  go_wp2_with fail
  refine (TextAt_any _ _ _ _ bs _ h1 (by omega) (by omega)).mono ?_
  rintro e' w' ⟨rfl, rfl⟩
  rw [HF.out]
  unfold tx3
  rcases HCASE.out with ⟨he, rfl, rfl⟩ | ⟨rfl, T, rfl, hkT, hTn, ht, htb⟩
  · have hne : (e != 0) = true := by simpa using he
    go_wp2_with fail
    refine (awake_any _).mono ?_
    rintro e w2 ⟨rfl, hb2⟩
    go_wp2
    go_ret
    exact ⟨rfl, Bs.below_step hB1 hb2⟩
  · have HTB := Lib.hid htb
    clear htb
    have hP := h1.part k (T - k) (c - k) (by omega) (by omega)
    generalize hW : w1.drew = wa at *
    clear hW
    have HS3 : Hid (∀ W, Below wa.heap.size wa W → (convert 22 9 (.slice (some ⟨g, o + k, none⟩) (T - k) (c - k))).run Try.prog W = .ok (.string ⟨((bs.drop k).take (T - k)).toArray⟩) W) := fun W hW => string_rd W _ _ _ _ (hP.keep hW)
    clear hd1 HS1 HS2
    go_wp2
    have hd2 : Below wa.heap.size wa wa.drew := (Below.refl _ _).drew
    have ht' : t.length ≤ 17592186044416 := by omega
    have q1 : decide (k < T) = true := by simpa using hkT
    have q2 : decide (T ≤ n) = true := by simpa using hTn
    have q3 : T ≤ c := by omega
    have q4 : k ≤ T := by omega
    have q5 : ¬ c = k := by omega
    clear hlen hP
    refine wp_region_held_drew (S := fun W => (convert 22 9 (.slice (some ⟨g, o + k, none⟩) (T - k) (c - k))).run Try.prog W = .ok (.string ⟨((bs.drop k).take (T - k)).toArray⟩) W) (by kernel_rfl) (HS3.out _ hd2) (fun hHeld => ?_)
    refine wpAnyH_ready (rs := [0]) (by kernel_rfl) (by simp) ?_
    refine AllReadyH.cons (o := { dst := some 72, op := Op.call { callee := Callee.value (Operand.func 11), args := #[], argTypes := #[] }, type := 4, pos := "law.go:80", after := #[], guard := none }) rfl (fun K hK => ?_) AllReadyH.nil
    go_simp
    refine (awake_any _).mono ?_
    rintro e w3 ⟨rfl, hb3⟩
    have hd3 := Bs.below_step hd2 hb3
    clear hb3
    go_wp2_with fail
    refine hK.out _ _ (HS3.out _ hd3) (fun hHeld => ?_)
    clear hK K
    try simp only [Act.put, List.setIfInBounds_toArray, List.set_cons_zero, List.set_cons_succ]
    refine wpAnyH_take (i := 1) (oi := { dst := some 73, op := Op.move (Operand.tmp 72), type := 4, pos := "law.go:80", after := #[{ on := 0, ground := Ground.data }, { on := 0, ground := Ground.chain }], guard := none }) (v := ?v1) rfl (by kernel_rfl) (by kernel_rfl) (by kernel_rfl) (fun _ _ _ h => h) (Or.inl ⟨by rfl, ?hy1⟩) hHeld ?_
    case hy1 => (intro w hSw; (try dsimp only at hSw); go_simp; first | done | with_reducible rfl)
    try simp only [Act.put, List.setIfInBounds_toArray, List.set_cons_zero, List.set_cons_succ]
    refine wpAnyH_take (i := 2) (oi := { dst := some 74, op := Op.move (Operand.tmp 11), type := 3, pos := "law.go:80", after := #[{ on := 1, ground := Ground.guard }], guard := some (1, true) }) (v := ?v2) rfl (by kernel_rfl) (by kernel_rfl) (by kernel_rfl) (fun _ _ _ h => h) (Or.inl ⟨by rfl, ?hy2⟩) hHeld ?_
    case hy2 => (intro w hSw; (try dsimp only at hSw); go_simp; first | done | with_reducible rfl)
    try simp only [Act.put, List.setIfInBounds_toArray, List.set_cons_zero, List.set_cons_succ]
    refine wpAnyH_take (i := 3) (oi := { dst := some 75, op := Op.move (Operand.tmp 1), type := 3, pos := "law.go:80", after := #[{ on := 1, ground := Ground.guard }], guard := some (1, true) }) (v := ?v3) rfl (by kernel_rfl) (by kernel_rfl) (by kernel_rfl) (fun _ _ _ h => h) (Or.inl ⟨by rfl, ?hy3⟩) hHeld ?_
    case hy3 => (intro w hSw; (try dsimp only at hSw); go_simp; first | done | with_reducible rfl)
    try simp only [Act.put, List.setIfInBounds_toArray, List.set_cons_zero, List.set_cons_succ]
    refine wpAnyH_take (i := 4) (oi := { dst := some 76, op := Op.binOp BinOp.gtr 3 (Operand.tmp 74) (Operand.tmp 75) 3, type := 4, pos := "law.go:80", after := #[{ on := 2, ground := Ground.data }, { on := 3, ground := Ground.data }, { on := 1, ground := Ground.guard }], guard := some (1, true) }) (v := ?v4) rfl (by kernel_rfl) (by kernel_rfl) (by kernel_rfl) (fun _ _ _ h => h) (Or.inl ⟨by rfl, ?hy4⟩) hHeld ?_
    case hy4 => (intro w hSw; (try dsimp only at hSw); go_simp; first | done | with_reducible rfl)
    try simp only [Act.put, List.setIfInBounds_toArray, List.set_cons_zero, List.set_cons_succ]
    refine wpAnyH_take (i := 5) (oi := { dst := some 77, op := Op.pick (Operand.tmp 73) (Operand.tmp 76) (Operand.const (Value.bool false)), type := 4, pos := "law.go:80", after := #[{ on := 1, ground := Ground.data }, { on := 4, ground := Ground.data }], guard := none }) (v := ?v5) rfl (by kernel_rfl) (by kernel_rfl) (by kernel_rfl) (fun _ _ _ h => h) (Or.inl ⟨by rfl, ?hy5⟩) hHeld ?_
    case hy5 => (intro w hSw; (try dsimp only at hSw); go_simp; first | done | with_reducible rfl)
    try simp only [Act.put, List.setIfInBounds_toArray, List.set_cons_zero, List.set_cons_succ]
    refine wpAnyH_take (i := 6) (oi := { dst := some 78, op := Op.move (Operand.tmp 77), type := 4, pos := "law.go:80", after := #[{ on := 5, ground := Ground.data }, { on := 1, ground := Ground.chain }], guard := none }) (v := ?v6) rfl (by kernel_rfl) (by kernel_rfl) (by kernel_rfl) (fun _ _ _ h => h) (Or.inl ⟨by rfl, ?hy6⟩) hHeld ?_
    case hy6 => (intro w hSw; (try dsimp only at hSw); go_simp; first | done | with_reducible rfl)
    try simp only [Act.put, List.setIfInBounds_toArray, List.set_cons_zero, List.set_cons_succ]
    refine wpAnyH_take (i := 7) (oi := { dst := some 79, op := Op.move (Operand.tmp 11), type := 3, pos := "law.go:80", after := #[{ on := 6, ground := Ground.guard }], guard := some (6, true) }) (v := ?v7) rfl (by kernel_rfl) (by kernel_rfl) (by kernel_rfl) (fun _ _ _ h => h) (Or.inl ⟨by rfl, ?hy7⟩) hHeld ?_
    case hy7 => (intro w hSw; (try dsimp only at hSw); go_simp; first | done | with_reducible rfl)
    try simp only [Act.put, List.setIfInBounds_toArray, List.set_cons_zero, List.set_cons_succ]
    refine wpAnyH_take (i := 8) (oi := { dst := some 80, op := Op.move (Operand.tmp 0), type := 22, pos := "law.go:80", after := #[{ on := 6, ground := Ground.guard }], guard := some (6, true) }) (v := ?v8) rfl (by kernel_rfl) (by kernel_rfl) (by kernel_rfl) (fun _ _ _ h => h) (Or.inl ⟨by rfl, ?hy8⟩) hHeld ?_
    case hy8 => (intro w hSw; (try dsimp only at hSw); go_simp; first | done | with_reducible rfl)
    try simp only [Act.put, List.setIfInBounds_toArray, List.set_cons_zero, List.set_cons_succ]
    refine wpAnyH_take (i := 9) (oi := { dst := some 81, op := Op.call { callee := Callee.builtin Builtin.len, args := #[Operand.tmp 80], argTypes := #[22] }, type := 3, pos := "law.go:80", after := #[{ on := 8, ground := Ground.data }, { on := 6, ground := Ground.guard }], guard := some (6, true) }) (v := ?v9) rfl (by kernel_rfl) (by kernel_rfl) (by kernel_rfl) (fun _ _ _ h => h) (Or.inl ⟨by rfl, ?hy9⟩) hHeld ?_
    case hy9 => (intro w hSw; (try dsimp only at hSw); go_simp; first | done | with_reducible rfl)
    try simp only [Act.put, List.setIfInBounds_toArray, List.set_cons_zero, List.set_cons_succ]
    refine wpAnyH_take (i := 10) (oi := { dst := some 82, op := Op.binOp BinOp.leq 3 (Operand.tmp 79) (Operand.tmp 81) 3, type := 4, pos := "law.go:80", after := #[{ on := 7, ground := Ground.data }, { on := 9, ground := Ground.data }, { on := 6, ground := Ground.guard }], guard := some (6, true) }) (v := ?v10) rfl (by kernel_rfl) (by kernel_rfl) (by kernel_rfl) (fun _ _ _ h => h) (Or.inl ⟨by rfl, ?hy10⟩) hHeld ?_
    case hy10 => (intro w hSw; (try dsimp only at hSw); go_simp; first | done | with_reducible rfl)
    try simp only [Act.put, List.setIfInBounds_toArray, List.set_cons_zero, List.set_cons_succ]
    refine wpAnyH_take (i := 11) (oi := { dst := some 83, op := Op.pick (Operand.tmp 78) (Operand.tmp 82) (Operand.const (Value.bool false)), type := 4, pos := "law.go:80", after := #[{ on := 6, ground := Ground.data }, { on := 10, ground := Ground.data }], guard := none }) (v := ?v11) rfl (by kernel_rfl) (by kernel_rfl) (by kernel_rfl) (fun _ _ _ h => h) (Or.inl ⟨by rfl, ?hy11⟩) hHeld ?_
    case hy11 => (intro w hSw; (try dsimp only at hSw); go_simp; first | done | with_reducible rfl)
    try simp only [Act.put, List.setIfInBounds_toArray, List.set_cons_zero, List.set_cons_succ]
    refine wpAnyH_take (i := 12) (oi := { dst := some 84, op := Op.move (Operand.tmp 83), type := 4, pos := "law.go:80", after := #[{ on := 11, ground := Ground.data }, { on := 6, ground := Ground.chain }], guard := none }) (v := ?v12) rfl (by kernel_rfl) (by kernel_rfl) (by kernel_rfl) (fun _ _ _ h => h) (Or.inl ⟨by rfl, ?hy12⟩) hHeld ?_
    case hy12 => (intro w hSw; (try dsimp only at hSw); go_simp; first | done | with_reducible rfl)
    try simp only [Act.put, List.setIfInBounds_toArray, List.set_cons_zero, List.set_cons_succ]
    refine wpAnyH_take (i := 13) (oi := { dst := some 85, op := Op.move (Operand.tmp 10), type := 9, pos := "law.go:80", after := #[{ on := 12, ground := Ground.guard }], guard := some (12, true) }) (v := ?v13) rfl (by kernel_rfl) (by kernel_rfl) (by kernel_rfl) (fun _ _ _ h => h) (Or.inl ⟨by rfl, ?hy13⟩) hHeld ?_
    case hy13 => (intro w hSw; (try dsimp only at hSw); go_simp; first | done | with_reducible rfl)
    try simp only [Act.put, List.setIfInBounds_toArray, List.set_cons_zero, List.set_cons_succ]
    refine wpAnyH_take (i := 16) (oi := { dst := some 88, op := Op.move (Operand.tmp 0), type := 22, pos := "law.go:80", after := #[{ on := 12, ground := Ground.guard }], guard := some (12, true) }) (v := ?v16) rfl (by kernel_rfl) (by kernel_rfl) (by kernel_rfl) (fun _ _ _ h => h) (Or.inl ⟨by rfl, ?hy16⟩) hHeld ?_
    case hy16 => (intro w hSw; (try dsimp only at hSw); go_simp; first | done | with_reducible rfl)
    try simp only [Act.put, List.setIfInBounds_toArray, List.set_cons_zero, List.set_cons_succ]
    refine wpAnyH_take (i := 17) (oi := { dst := some 89, op := Op.move (Operand.tmp 1), type := 3, pos := "law.go:80", after := #[{ on := 12, ground := Ground.guard }], guard := some (12, true) }) (v := ?v17) rfl (by kernel_rfl) (by kernel_rfl) (by kernel_rfl) (fun _ _ _ h => h) (Or.inl ⟨by rfl, ?hy17⟩) hHeld ?_
    case hy17 => (intro w hSw; (try dsimp only at hSw); go_simp; first | done | with_reducible rfl)
    try simp only [Act.put, List.setIfInBounds_toArray, List.set_cons_zero, List.set_cons_succ]
    refine wpAnyH_take (i := 18) (oi := { dst := some 90, op := Op.move (Operand.tmp 11), type := 3, pos := "law.go:80", after := #[{ on := 12, ground := Ground.guard }], guard := some (12, true) }) (v := ?v18) rfl (by kernel_rfl) (by kernel_rfl) (by kernel_rfl) (fun _ _ _ h => h) (Or.inl ⟨by rfl, ?hy18⟩) hHeld ?_
    case hy18 => (intro w hSw; (try dsimp only at hSw); go_simp; first | done | with_reducible rfl)
    try simp only [Act.put, List.setIfInBounds_toArray, List.set_cons_zero, List.set_cons_succ]
    refine wpAnyH_take (i := 19) (oi := { dst := some 91, op := Op.slice 22 (Operand.tmp 88) (some (Operand.tmp 89)) (some (Operand.tmp 90)) none, type := 22, pos := "law.go:80", after := #[{ on := 16, ground := Ground.data }, { on := 17, ground := Ground.data }, { on := 18, ground := Ground.data }, { on := 12, ground := Ground.guard }], guard := some (12, true) }) (v := ?v19) rfl (by kernel_rfl) (by kernel_rfl) (by kernel_rfl) (fun _ _ _ h => h) (Or.inl ⟨by rfl, ?hy19⟩) hHeld ?_
    case hy19 => (intro w hSw; (try dsimp only at hSw); go_simp; first | done | with_reducible rfl)
    try simp only [Act.put, List.setIfInBounds_toArray, List.set_cons_zero, List.set_cons_succ]
    refine wpAnyH_take (i := 20) (oi := { dst := some 92, op := Op.convert 22 9 (Operand.tmp 91), type := 9, pos := "law.go:80", after := #[{ on := 19, ground := Ground.data }, { on := 12, ground := Ground.guard }], guard := some (12, true) }) (v := ?v20) rfl (by kernel_rfl) (by kernel_rfl) (by kernel_rfl) (fun _ _ _ h => h) (Or.inl ⟨by rfl, ?hy20⟩) hHeld ?_
    case hy20 => (intro w hSw; (try dsimp only at hSw); go_simp; first | done | with_reducible rfl)
    try simp only [Act.put, List.setIfInBounds_toArray, List.set_cons_zero, List.set_cons_succ]
    refine wpAnyH_ready (rs := [14]) (by kernel_rfl) (by simp) ?_
    refine AllReadyH.cons (o := { dst := some 86, op := Op.call { callee := Callee.value (Operand.func 18), args := #[Operand.const (Value.slice none 0 0), Operand.tmp 85], argTypes := #[22, 9] }, type := 22, pos := "law.go:80", after := #[{ on := 13, ground := Ground.data }, { on := 12, ground := Ground.chain }, { on := 12, ground := Ground.guard }], guard := some (12, true) }) rfl (fun K hK => ?_) AllReadyH.nil
    go_simp
    refine (PutText_v none 0 0 _ [] _ (Bs.Rd.nil _ _ _) (by omega) (by show t.toArray.size ≤ _; simpa using ht')).mono ?_
    rintro e w4 ⟨v4, rfl, hc4, hb4⟩
    have hd4 := Bs.below_step hd3 hb4
    have e4 := hc4 w4 (Below.refl _ _)
    rw [List.nil_append, show (⟨t.toArray⟩ : ByteArray).data.toList = t from by simp, HTB.out] at e4
    clear hc4 hb4
    go_wp2_with fail
    refine hK.out _ _ (HS3.out _ hd4) (fun hHeld => ?_)
    clear hK K
    try simp only [Act.put, List.setIfInBounds_toArray, List.set_cons_zero, List.set_cons_succ]
    refine wpAnyH_ready (rs := [15]) (by kernel_rfl) (by simp) ?_
    refine AllReadyH.cons (o := { dst := some 87, op := Op.convert 22 9 (Operand.tmp 86), type := 9, pos := "law.go:80", after := #[{ on := 14, ground := Ground.data }, { on := 12, ground := Ground.guard }], guard := some (12, true) }) rfl (fun K hK => ?_) AllReadyH.nil
    go_simp
    refine hK.out _ _ (hHeld) (fun hHeld => ?_)
    clear hK K
    try simp only [Act.put, List.setIfInBounds_toArray, List.set_cons_zero, List.set_cons_succ]
    refine wpAnyH_take (i := 21) (oi := { dst := some 93, op := Op.binOp BinOp.eql 9 (Operand.tmp 87) (Operand.tmp 92) 9, type := 4, pos := "law.go:80", after := #[{ on := 15, ground := Ground.data }, { on := 20, ground := Ground.data }, { on := 12, ground := Ground.guard }], guard := some (12, true) }) (v := ?v21) rfl (by kernel_rfl) (by kernel_rfl) (by kernel_rfl) (fun _ _ _ h => h) (Or.inl ⟨by rfl, ?hy21⟩) hHeld ?_
    case hy21 => (intro w hSw; (try dsimp only at hSw); go_simp; first | done | with_reducible rfl)
    try simp only [Act.put, List.setIfInBounds_toArray, List.set_cons_zero, List.set_cons_succ]
    refine wpAnyH_take (i := 22) (oi := { dst := some 94, op := Op.pick (Operand.tmp 84) (Operand.tmp 93) (Operand.const (Value.bool false)), type := 4, pos := "law.go:80", after := #[{ on := 12, ground := Ground.data }, { on := 21, ground := Ground.data }], guard := none }) (v := ?v22) rfl (by kernel_rfl) (by kernel_rfl) (by kernel_rfl) (fun _ _ _ h => h) (Or.inl ⟨by rfl, ?hy22⟩) hHeld ?_
    case hy22 => (intro w hSw; (try dsimp only at hSw); go_simp; first | done | with_reducible rfl)
    try simp only [Act.put, List.setIfInBounds_toArray, List.set_cons_zero, List.set_cons_succ]
    refine wpAnyH_take (i := 23) (oi := { dst := some 4, op := Op.assign (Operand.tmp 94), type := 4, pos := "law.go:80", after := #[{ on := 22, ground := Ground.data }, { on := 14, ground := Ground.chain }, { on := 0, ground := Ground.phase }, { on := 1, ground := Ground.phase }, { on := 2, ground := Ground.phase }, { on := 3, ground := Ground.phase }, { on := 4, ground := Ground.phase }, { on := 5, ground := Ground.phase }, { on := 6, ground := Ground.phase }, { on := 7, ground := Ground.phase }, { on := 8, ground := Ground.phase }, { on := 9, ground := Ground.phase }, { on := 10, ground := Ground.phase }, { on := 11, ground := Ground.phase }, { on := 12, ground := Ground.phase }, { on := 13, ground := Ground.phase }, { on := 14, ground := Ground.phase }, { on := 15, ground := Ground.phase }, { on := 16, ground := Ground.phase }, { on := 17, ground := Ground.phase }, { on := 18, ground := Ground.phase }, { on := 19, ground := Ground.phase }, { on := 20, ground := Ground.phase }, { on := 21, ground := Ground.phase }, { on := 22, ground := Ground.phase }], guard := none }) (v := ?v23) rfl (by kernel_rfl) (by kernel_rfl) (by kernel_rfl) (fun _ _ _ h => h) (Or.inl ⟨by rfl, ?hy23⟩) hHeld ?_
    case hy23 => (intro w hSw; (try dsimp only at hSw); go_simp; first | done | with_reducible rfl)
    try simp only [Act.put, List.setIfInBounds_toArray, List.set_cons_zero, List.set_cons_succ]
    refine wpAnyH_done (by kernel_rfl) ?_ _
    go_wp2
    go_ret
    exact ⟨rfl, Bs.below_step hB1 hd4⟩

set_option maxHeartbeats 1000000 in
theorem walk (a0 : Option Addr) (len0 cap0 : Nat) (z0 : List Int) (a1 : Int) (w : World) (w0 : IsRow .u8 w a0 len0 cap0 z0) (w1 : (Lit.int .i64 a1).wf = true) :
    Calls Try.prog 6 #[.slice a0 len0 cap0, .int .i64 a1] w fun e w' => e = .returned (.bool true) ∧ Below w.heap.size w w' := by
  obtain ⟨hm, bs, hr⟩ := Bs.rd_of_row w0
  have hb := bounds_i64 w1
  have hi := hb.2
  clear w0 w1
  by_cases hs : len0 ≤ 3000
  · by_cases he : (Bs.atF bs a1).2.2 = 0
    · obtain ⟨k, m, rfl, hk, hm, ha⟩ := Bs.atF_split bs a1 len0 hr.len he
      obtain ⟨g, o, rfl, hg, hc⟩ := hr.cells (by omega)
      have hl := hr.len
      by_cases h1 : bs.length < k + 8 + m + Bs.gapN m
      · exact walk_at g o _ _ k m _ _ _ bs w hr hs hk hm ha (Bs.textF_more bs k m _ ha h1) (.inl ⟨by omega, rfl, rfl⟩)
      · cases h2 : ((bs.drop (k + 8 + m)).take (Bs.gapN m)).all (· == 0)
        · exact walk_at g o _ _ k m _ _ _ bs w hr hs hk hm ha (Bs.textF_form bs k m _ ha (by omega) h2) (.inl ⟨by omega, rfl, rfl⟩)
        · refine walk_at g o _ _ k m _ _ _ bs w hr hs hk hm ha (Bs.textF_ok bs k m _ ha (by omega) h2) (.inr ⟨rfl, _, rfl, by omega, by omega, by simp; omega, ?_⟩)
          rw [Bs.textB_part bs k m _ ha (by omega) h2]
          congr 1
          omega
    · exact walk_err _ _ _ _ bs w hr hs hi he
  · have hds : decide (len0 ≤ 3000) = false := by simpa using hs
    go_enter Try.func6, Try.ntmps6
    go_wp2_with fail
    refine (small_any _ _ _ w).mono ?_
    rintro e w' ⟨rfl, rfl⟩
    rw [hds]
    clear hds
    go_wp2
    go_ret
    exact ⟨rfl, Below.refl _ _⟩

/-! ### THE ROW's STEP: WRITTEN OUT: LEAVE IT -/
set_option maxRecDepth 100000 in
theorem lifted (os : Os) (started : os.Started) (H : Type) (enc : TypeId × Value → H) :
    ReturnsInHanded {} Try.checked os 6 .any (Rows.wireAgainSpec.pre6 enc Try.prog Try.f6 Rows.wireAgainRow.domain false) (Rows.wireAgainSpec.post enc Try.prog Try.f6 false true false false) := by
  refine returnsInHanded_of_change (C := Try.checked) own started (by kernel_rfl) Try.func6
    (ChangeSpec.witness6 (enc := enc) (C := Try.checked) false ⟨#[], #[.slice none 0 0, .int .i64 0], []⟩ 8 (by kernel_rfl) (by kernel_rfl) (by kernel_rfl) (by kernel_rfl)) ?_
  intro W base args ds gs before hval0 hW hcnd _
  have hval : ∀ (j : Nat) t v, Try.f6.params[j]? = some t → args[j]? = some v → Value.okWide Try.prog W .any base t v := hval0
  have hW' := hW
  obtain ⟨p, q, hA0, hV, rfl, hfz, hnd⟩ := hW
  have hA : DataW.TrodAll enc Try.prog W 0 (fun _ => true) true Try.f6.params.toList args.toList ds p := hA0
  rw [Try.params6] at hA hval
  obtain ⟨v0, vs0, d0, ds0, p0, q0, hargs, rfl, rfl, h0, r0⟩ := trodAll_cons hA
  obtain ⟨v1, vs1, d1, ds1, p1, q1, rfl, rfl, rfl, h1, r1⟩ := trodAll_cons r0
  obtain ⟨rfl, rfl, rfl⟩ := trodAll_nil r1
  obtain rfl : args = #[v0, v1] := by cases args; simp_all
  obtain ⟨rfl, rfl⟩ := trodVars_none hV
  obtain ⟨a0, len0, cap0, rfl⟩ := okWide_slice Try.underlying22 (hval 0 22 v0 rfl rfl)
  have k0 := h0
  have lt0 : ∀ x ∈ p0, x.block < W.heap.size := by obtain ⟨m, hm⟩ := k0; exact DataW.trod_lt m _ _ _ hm
  obtain ⟨z0, w0⟩ : ∃ zs, IsRow .u8 W a0 len0 cap0 zs := by
    obtain ⟨fuel, hf⟩ := h0
    rcases open_ints Try.underlying22 Try.underlying5 (by kernel_rfl) hf with ⟨hcs, _⟩ | ⟨x, l, c, zs, hcs, _, hl, hm, hz, _, hcell, hwz⟩
    · simp [Value.cells] at hcs
      obtain ⟨rfl, rfl, rfl⟩ := hcs
      exact ⟨[], .inl ⟨rfl, rfl, rfl, rfl⟩⟩
    · simp [Value.cells] at hcs
      obtain ⟨rfl, rfl, rfl⟩ := hcs
      exact ⟨zs, .inr ⟨_, rfl, hl, hm, by simpa using hz, hcell, hwz⟩⟩
  obtain ⟨a1, rfl, rfl, rfl, w1⟩ := open_int Try.underlying3 (hval 1 3 v1 rfl rfl) h1
  clear hA0 hval0
  refine (walk a0 len0 cap0 z0 a1 W w0 w1).mono fun e W' ⟨he, bel⟩ => ?_
  subst he
  exact ⟨_, rfl, _, _, _, [], _, [], hW', trodAll_mk1 (shut_bool Try.underlying4 _), (trodAll_cons_mk (Below.trod laidOut (by kernel_rfl) (of_decide_eq_true (by kernel_rfl)) k0 bel lt0) (trodAll_cons_mk (shut_int Try.underlying3 w1) trodAll_mk0)), rfl, bel.frame _, fun h => by cases h⟩

theorem over : Rows.wireAgainRow.holds Try.pinned (OpenSpec.ofChange Rows.wireAgainSpec) :=
  OpenClaim.holds_of_wide 6 Try.f6 rfl rfl rfl rfl rfl rfl rfl ⟨rfl, rfl, rfl, rfl, rfl⟩ rfl rfl rfl rfl rfl (by kernel_rfl) Try.func6 (by kernel_rfl)
    (of_decide_eq_true (by kernel_rfl)) (by unfold Func.isWrapper; first | (rw [if_pos (by decide +kernel)]; kernel_rfl) | (rw [if_neg (by decide +kernel)]; exact ⟨rfl, rfl⟩))
    (fun os started H enc _ => lifted os started H enc)

/-- ████ THE STATEMENT ████ -/
theorem proved : Rows.WireAgainSaid := over
#print axioms proved
end Go.Proofs.Ytdncklgeblggfaa.wireAgain
