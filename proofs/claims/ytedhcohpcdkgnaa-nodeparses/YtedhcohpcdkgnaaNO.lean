/- The document's Parse. Conditions: none. -/
import Derived.Test.YtedhcohpcdkgnaaNO0
import Derived.Test.YtedhcohpcdkgnaaNC
import Derived.Test.YtedhcohpcdkgnaaND
namespace Go.Bs
open Go.RowKit
/-- what the document's Parse tells of bytes. -/
def rParseR (w' : World) (b : List UInt8) (e : Ending) : Prop :=
  (okP b ∧ ∃ hd, e = .returned (.tuple #[nv hd (rdN b).1.leaf, .bool true]) ∧ NdAt w' hd (rdN b).1) ∨ (¬ okP b ∧ e = .returned (.tuple #[nv hd0 false, .bool false]))
end Go.Bs
namespace Go.Proofs.Ytedhcohpcdkgnaa
open Go.RowKit Go.Bs

set_option maxRecDepth 100000 in
set_option maxHeartbeats 16000000 in
theorem rParse_any (w : World) (A : Option Addr) (n c : Nat) (b : List UInt8) (H : Rd w A n c b) (hn : n ≤ 5000) :
    Calls Try.prog 20 #[.slice A n c] w fun e w' => rParseR w' b e ∧ Below w.heap.size w w' := by
  obtain ⟨g, hg⟩ : ∃ g, w.heap.size = g := ⟨_, rfl⟩
  have HG := Lib.hid hg
  rw [hg]
  have HRD := Lib.hid H
  have hln := H.len
  have hcap := H.cap
  have HL := Lib.hid hln
  obtain ⟨W0, hW0⟩ : ∃ W0, w.alloc (.cells #[.bool false, .slice none 0 0, .slice none 0 0, .slice none 0 0] 26) = W0 := ⟨_, rfl⟩
  have hb0 : Below w.heap.size w W0 := by rw [← hW0]; exact (Below.refl _ _).alloc (Nat.le_refl _) _
  have hs0 : W0.heap.size = g + 1 := by rw [← hW0]; simp [hg]
  have HZ0 : Hid (Zb W0 g (.bool false) (.slice none 0 0) (.slice none 0 0) (.slice none 0 0)) := by
    refine ⟨?_⟩
    rw [← hW0, ← hg]
    exact heap_alloc_new _ _
  have HB0 : Hid (Below g w W0) := by rw [← hg]; exact hb0
  have HRW := Lib.hid (H.keep hb0)
  have HERR : Hid (∀ W : World, Zb W g (.bool false) (.slice none 0 0) (.slice none 0 0) (.slice none 0 0) → Below g w W → ¬ okP b → rParseR (set4 W g (.bool false) (.slice none 0 0) (.slice none 0 0) (.slice none 0 0)) b (.returned (.tuple #[nv hd0 false, .bool false])) ∧ Below g w (set4 W g (.bool false) (.slice none 0 0) (.slice none 0 0) (.slice none 0 0))) := fun W hz hb hno =>
    ⟨.inr ⟨hno, rfl⟩, hb.trans ((fr_set4 W g _ _ _ _).below (fun k hk => by have : k = g := hk; omega) (by have := (Array.getElem?_eq_some_iff.1 hz.row).1; omega))⟩
  have HRA := Lib.hid (fun W => Range_any (n : Int) W)
  clear H hb0 hln
  by_cases hrg : 64 ≤ n ∧ n ≤ 4096
  case neg =>
    have hrd : (decide (64 ≤ (n : Int)) && decide ((n : Int) ≤ 4096)) = false := by
      by_cases h1 : 64 ≤ (n : Int)
      · rw [decide_eq_false (show ¬ (n : Int) ≤ 4096 from fun h2 => hrg ⟨by omega, by omega⟩), Bool.and_false]
      · rw [decide_eq_false h1]; rfl
    rw [hrd] at HRA
    have hno : ¬ okP b := fun h => by
      have := chk_zero h.2.2.1
      rw [HL.out] at this
      exact hrg ⟨by omega, by omega⟩
    have HE := Lib.hid (HERR.out W0 HZ0.out HB0.out hno)
    have HZE := Lib.hid (HZ0.out.set4 (.bool false) (.slice none 0 0) (.slice none 0 0) (.slice none 0 0))
    obtain ⟨z0, z1, z2, z3, f0, f1, f2, f3⟩ := HZ0.out.cells
    clear hno hrd hrg
    go_enter Try.func20, Try.ntmps20
    go_wp2_with fail
    refine (HRA.out _).mono ?_
    rintro e w1 ⟨rfl, rfl⟩
    go_wp2
    exact bodyPost_ret (results_cell2 (P := Try.prog) (fn := Try.f20) rfl _ _ rfl (run_loadVar_row _ g 26 26 _ (0, 0) _ HZE.out.row Try.underlying26 rfl (by kernel_rfl))) rfl HE.out
  obtain ⟨hn1, hn2⟩ := hrg
  have hrd : (decide (64 ≤ (n : Int)) && decide ((n : Int) ≤ 4096)) = true := by rw [decide_eq_true (by omega), decide_eq_true (by omega)]; rfl
  rw [hrd] at HRA
  obtain ⟨q, o, rfl, hq, hcell⟩ := HRW.out.cells (by omega)
  have hb3 : ∃ x y z l, b = x :: y :: z :: l := by
    match b, HL.out with
    | [], h => simp at h; omega
    | [_], h => simp at h; omega
    | [_, _], h => simp at h; omega
    | x :: y :: z :: l, _ => exact ⟨x, y, z, l, rfl⟩
  obtain ⟨x, y, z, l, hbe⟩ := hb3
  have hkc := cnt_of x y z l
  rw [← hbe] at hkc
  obtain ⟨hkd, hct⟩ := hkc
  have hd3 : l = b.drop 3 := by rw [hbe]; rfl
  have e0 : W0.cell? ⟨q, o, none⟩ = some (B x) := by have := hcell 0 (by omega); rw [hbe] at this; simpa using this
  have e1 : W0.cell? ⟨q, o + 1, none⟩ = some (B y) := by have := hcell 1 (by omega); rw [hbe] at this; simpa using this
  have e2 : W0.cell? ⟨q, o + 2, none⟩ = some (B z) := by have := hcell 2 (by omega); rw [hbe] at this; simpa using this
  have hx8 := x.toNat_lt
  have hy8 := y.toNat_lt
  have hz8 := z.toNat_lt
  have HKD := Lib.hid hkd
  have HCT := Lib.hid hct
  have HD3 := Lib.hid hd3
  have hi0 : 0 < n := by omega
  have hi1 : (1 : Int) < (n : Int) := by omega
  have hi2 : (2 : Int) < (n : Int) := by omega
  obtain ⟨ct, hcte⟩ : ∃ ct : Nat, y.toNat * 256 + z.toNat = ct := ⟨_, rfl⟩
  have hctl : ct ≤ 65535 := by omega
  have q1 : IntKind.i64.wrap (256 * (y.toNat : Int)) = 256 * (y.toNat : Int) := IntWalk.i64_in _ (by omega)
  have q2 : IntKind.i64.wrap (256 * (y.toNat : Int) + (z.toNat : Int)) = (ct : Int) := by rw [IntWalk.i64_in _ (by omega)]; omega
  have q3 : IntKind.i64.wrap (y.toNat : Int) = (y.toNat : Int) := IntWalk.i64_in _ (by omega)
  have q4 : IntKind.i64.wrap (z.toNat : Int) = (z.toNat : Int) := IntWalk.i64_in _ (by omega)
  rw [hcte] at HCT
  have HCELL := Lib.hid hcell
  clear hrd hbe hkd hct hd3 hcell hcte
  by_cases hx1 : x = 1
  · subst hx1
    have HK1 : Hid (knd b = 1) := HKD.out
    have HRDN : Hid (rdN b = (⟨true, (prs ct (l, false)).1, [], []⟩, (prs ct (l, false)).2)) := by
      show rdN b = _
      unfold rdN
      rw [if_pos HK1.out, HCT.out]
    obtain ⟨W1, hW1⟩ : ∃ W1, W0.alloc (.cells #[.bool true, .slice none 0 0, .slice none 0 0, .slice none 0 0] 26) = W1 := ⟨_, rfl⟩
    have HMO1 : Hid (Mo W1 g (g + 1) (g + 2) true (.slice none 0 0) (.slice none 0 0) (.slice none 0 0) ⟨true, [], [], []⟩) := by
      refine ⟨?_, ?_, own_nil _ _ _ _, own_nil _ _ _ _, own_nil _ _ _ _, fun i h => by simp [Value.ownBlock] at h, fun i h => by simp [Value.ownBlock] at h, fun i h => by simp [Value.ownBlock] at h, by omega, by omega, by rw [← hW1]; simp [hs0]⟩
      · rw [← hW1, ← hs0]; exact heap_alloc_new _ _
      · rw [← hW1, heap_alloc_old _ _ (by omega)]; exact HZ0.out.row
    have HB1 : Hid (Below (g + 1) W0 W1) := by rw [← hW1]; exact (Below.refl _ _).alloc (by omega) _
    have e01 : W1.cell? ⟨q, o, none⟩ = some (B 1) := (HB1.out.cell (p := ⟨q, o, none⟩) (by rw [← hs0]; exact hq)).trans e0
    have e11 : W1.cell? ⟨q, o + 1, none⟩ = some (B y) := (HB1.out.cell (p := ⟨q, o + 1, none⟩) (by rw [← hs0]; exact hq)).trans e1
    have e21 : W1.cell? ⟨q, o + 2, none⟩ = some (B z) := (HB1.out.cell (p := ⟨q, o + 2, none⟩) (by rw [← hs0]; exact hq)).trans e2
    have HW1 := Lib.hid hW1
    clear hW1
    go_enter Try.func20, Try.ntmps20
    go_wp2_with fail
    refine (HRA.out _).mono ?_
    rintro e w1 ⟨rfl, rfl⟩
    go_wp2_with fail
    rw [HW1.out]
    refine wp_region_quiet_lit ?_ ?_ ?_
    · kernel_rfl
    · kernel_rfl
    repeat (first | (with_reducible refine wpQuiet_step (fun K hK => ?_); go_simp; (refine hK _ ?_; clear hK K)) | ((with_reducible refine wpQuiet_skip ?hwq ?_); (case hwq => rfl); simp only [Act.put, List.setIfInBounds_toArray, List.set_cons_zero, List.set_cons_succ]))
    with_reducible refine wpQuiet_nil ?_
    rintro _ ⟨nq, rfl⟩
    obtain ⟨W2, hW2⟩ : ∃ W2, W1.drewN nq = W2 := ⟨_, rfl⟩
    have hb12 : Below W1.heap.size W1 W2 := by rw [← hW2]; exact below_drewN (Below.refl _ _) _
    have HMO := Lib.hid (HMO1.out.keep hb12)
    have hs1 : W1.heap.size = g + 2 := by rw [← HW1.out]; simp [hs0]
    have HB2 : Hid (Below (g + 1) W0 W2) := HB1.out.trans (hb12.mono (by omega))
    have hs2 : g + 2 ≤ W2.heap.size := by have := hb12.size; omega
    clear e01 e11 e21 hb12
    go_wp2
    rw [hW2]
    clear hW2
    go_loopw [6, 7] (fun a i wr => a = .int .i64 3 ∧ i = .int .i64 0 ∧ wr = W2) (fun _ _ _ => 0)
    case atStart => exact ⟨rfl, rfl, rfl⟩
    case round =>
      obtain ⟨rfl, rfl, rfl⟩ := hrel
      clear e0 e1 e2 hi0 hi1 hi2 q1 q2 q3 q4
      obtain ⟨d0, d1, d2, d3, df⟩ := HMO.out.cells
      clear df
      go_wp2
      clear d0 d1 d2 d3
      have hat0 : atI n (l, false) = 3 := by
        show ((n - l.length : Nat) : Int) = 3
        rw [HD3.out, List.length_drop, HL.out]; omega
      go_loopw [6, 8] (fun a i wr => ∃ (j : Nat) (pv : Value) (PS : List Pr) (st : St), prs j (l, false) = (PS, st) ∧ j ≤ ct ∧ PS.length = j ∧ i = .int .i64 j ∧ a = .int .i64 (atI n st) ∧ Tl b st ∧ Mo wr g (g + 1) (g + 2) true pv (.slice none 0 0) (.slice none 0 0) ⟨true, PS, [], []⟩ ∧ Below (g + 1) W0 wr) (fun _ i _ => ct - (intOf i).toNat)
      case atStart => exact ⟨0, _, [], (l, false), rfl, Nat.zero_le _, rfl, rfl, by rw [hat0], fun _ => ⟨3, by rw [HL.out]; omega, HD3.out⟩, HMO.out, HB2.out⟩
      case round =>
        clear hs1 hs2 hat0
        obtain ⟨j, pv, PS, st, hp, hj, hlen, rfl, rfl, htl, hmo, hb⟩ := hrel
        have hpsz : ∀ p ∈ PS, p.1.size ≤ 255 ∧ p.2.size ≤ 255 := by have := prs_size (l, false) j; rw [hp] at this; exact this
        obtain ⟨A1, c1, hpv, hrd⟩ := rdP_own hmo.p (fun p hp => ⟨Nat.le_trans (hpsz p hp).1 (by omega), Nat.le_trans (hpsz p hp).2 (by omega)⟩)
        simp only at hpv hrd
        rw [hlen] at hpv hrd
        subst hpv
        have HP := Lib.hid hp
        have HLEN := Lib.hid hlen
        have HMOr := Lib.hid hmo
        have HBr := Lib.hid hb
        have HPSZ := Lib.hid hpsz
        have HTL := Lib.hid htl
        have hRr := (HRW.out.keep (by rw [hs0]; exact hb))
        have HRr := Lib.hid hRr
        have HNDr : Hid (NdAt wr ⟨A1, j, c1, none, 0, 0, none, 0, 0⟩ ⟨true, PS, [], []⟩) := ⟨hrd, RdS.nil _ _ _, RdI.nil _ _ _⟩
        have hneg := atI_neg (n := n) (s := st)
        obtain ⟨ai, hai⟩ : ∃ ai, atI n st = ai := ⟨_, rfl⟩
        rw [hai] at hneg
        obtain ⟨l3, sh⟩ := st
        have HAI := Lib.hid hai
        simp only at hneg
        clear hp hlen hmo hb hpsz htl hrd hRr
        have HFIN : Hid (prs ct (l, false) = (PS, (l3, sh)) → (rdN b).1 = ⟨true, PS, [], []⟩ ∧ (rdN b).2 = (l3, sh)) := fun he => by
          rw [HRDN.out, he]; exact ⟨rfl, rfl⟩
        by_cases hlt : j < ct
        · cases sh with
          | true =>
            have hlt0 : ai < 0 := hneg.2 rfl
            have he : prs ct (l, false) = (PS, (l3, true)) := by
              have h2 := prs_stop j (l, false) (by rw [HP.out]) (ct - j)
              rw [show j + (ct - j) = ct by omega, HP.out] at h2
              exact h2
            have HST := Lib.hid (HFIN.out he).2
            have HNO : Hid (¬ okP b) := fun h => by have := h.2.1; rw [HST.out] at this; cases this
            rw [hai]
            clear he hneg hai
            go_wp2_with fail
            obtain ⟨v0, hv0⟩ : ∃ v0, wr.drew = v0 := ⟨_, rfl⟩
            have hZd : Zb v0 g (.bool false) (.slice none 0 0) (.slice none 0 0) (.slice none 0 0) := by rw [← hv0]; exact ⟨HMOr.out.zero⟩
            have hbd : Below g w v0 := by rw [← hv0]; exact HB0.out.trans ((HBr.out.drew).mono (by omega))
            have HE := Lib.hid (HERR.out v0 hZd hbd HNO.out)
            have HZE := Lib.hid (hZd.set4 (.bool false) (.slice none 0 0) (.slice none 0 0) (.slice none 0 0))
            obtain ⟨z0, z1, z2, z3, f0, f1, f2, f3⟩ := hZd.cells
            have HV0 := Lib.hid hv0
            clear hZd hbd hv0
            refine wp_region_held_drew (S := fun _ => True) (by kernel_rfl) (trivial) (fun hHeld => ?_)
            refine wpAnyH_take (i := 0) (oi := { dst := some 129, op := Go.Op.move (Go.Operand.tmp 6), type := 3, pos := "ref.go:122", after := #[], guard := none }) (v := ?vra0) rfl (by kernel_rfl) (by kernel_rfl) (by kernel_rfl) (fun _ _ _ h => h) (Or.inl ⟨by rfl, ?hyra0⟩) hHeld ?_
            case hyra0 => (intro w hSw; (try dsimp only at hSw); go_simp; first | done | with_reducible rfl)
            try simp only [Act.put, List.setIfInBounds_toArray, List.set_cons_zero, List.set_cons_succ]
            refine wpAnyH_take (i := 1) (oi := { dst := some 130, op := Go.Op.binOp Go.BinOp.lss 3 (Go.Operand.tmp 129) (Go.Operand.const (Go.Value.int Go.IntKind.i64 0)) 3, type := 4, pos := "ref.go:122", after := #[{ on := 0, ground := Go.Ground.data }], guard := none }) (v := ?vra1) rfl (by kernel_rfl) (by kernel_rfl) (by kernel_rfl) (fun _ _ _ h => h) (Or.inl ⟨by rfl, ?hyra1⟩) hHeld ?_
            case hyra1 => (intro w hSw; (try dsimp only at hSw); go_simp; first | done | with_reducible rfl)
            try simp only [Act.put, List.setIfInBounds_toArray, List.set_cons_zero, List.set_cons_succ]
            refine wpAnyH_take (i := 2) (oi := { dst := some 131, op := Go.Op.move (Go.Operand.tmp 130), type := 4, pos := "ref.go:122", after := #[{ on := 1, ground := Go.Ground.data }], guard := none }) (v := ?vra2) rfl (by kernel_rfl) (by kernel_rfl) (by kernel_rfl) (fun _ _ _ h => h) (Or.inl ⟨by rfl, ?hyra2⟩) hHeld ?_
            case hyra2 => (intro w hSw; (try dsimp only at hSw); go_simp; first | done | with_reducible rfl)
            try simp only [Act.put, List.setIfInBounds_toArray, List.set_cons_zero, List.set_cons_succ]
            refine wpAnyH_take (i := 3) (oi := { dst := some 132, op := Go.Op.load 26 (Go.Operand.tmp 4), type := 26, pos := "ref.go:122", after := #[{ on := 2, ground := Go.Ground.guard }], guard := some (2, false) }) (v := undef) rfl (by kernel_rfl) (by kernel_rfl) (by kernel_rfl) (fun _ _ _ h => h) (Or.inr ⟨by rfl, rfl⟩) hHeld ?_
            try simp only [Act.put, List.setIfInBounds_toArray, List.set_cons_zero, List.set_cons_succ]
            refine wpAnyH_take (i := 4) (oi := { dst := some 133, op := Go.Op.move (Go.Operand.tmp 0), type := 30, pos := "ref.go:122", after := #[{ on := 2, ground := Go.Ground.guard }], guard := some (2, false) }) (v := undef) rfl (by kernel_rfl) (by kernel_rfl) (by kernel_rfl) (fun _ _ _ h => h) (Or.inr ⟨by rfl, rfl⟩) hHeld ?_
            try simp only [Act.put, List.setIfInBounds_toArray, List.set_cons_zero, List.set_cons_succ]
            refine wpAnyH_take (i := 5) (oi := { dst := some 134, op := Go.Op.call { callee := Go.Callee.builtin Go.Builtin.len, args := #[Go.Operand.tmp 133], argTypes := #[30] }, type := 3, pos := "ref.go:122", after := #[{ on := 4, ground := Go.Ground.data }, { on := 2, ground := Go.Ground.guard }], guard := some (2, false) }) (v := undef) rfl (by kernel_rfl) (by kernel_rfl) (by kernel_rfl) (fun _ _ _ h => h) (Or.inr ⟨by rfl, rfl⟩) hHeld ?_
            try simp only [Act.put, List.setIfInBounds_toArray, List.set_cons_zero, List.set_cons_succ]
            refine wpAnyH_take (i := 6) (oi := { dst := some 135, op := Go.Op.call { callee := Go.Callee.value (Go.Operand.func 9), args := #[Go.Operand.tmp 132, Go.Operand.tmp 134], argTypes := #[26, 3] }, type := 28, pos := "ref.go:122", after := #[{ on := 3, ground := Go.Ground.data }, { on := 5, ground := Go.Ground.data }, { on := 2, ground := Go.Ground.chain }, { on := 2, ground := Go.Ground.guard }], guard := some (2, false) }) (v := undef) rfl (by kernel_rfl) (by kernel_rfl) (by kernel_rfl) (fun _ _ _ h => h) (Or.inr ⟨by rfl, rfl⟩) hHeld ?_
            try simp only [Act.put, List.setIfInBounds_toArray, List.set_cons_zero, List.set_cons_succ]
            refine wpAnyH_take (i := 7) (oi := { dst := some 136, op := Go.Op.binOp Go.BinOp.neq 28 (Go.Operand.tmp 135) (Go.Operand.const (Go.Value.int Go.IntKind.i64 0)) 28, type := 4, pos := "ref.go:122", after := #[{ on := 6, ground := Go.Ground.data }, { on := 2, ground := Go.Ground.guard }], guard := some (2, false) }) (v := undef) rfl (by kernel_rfl) (by kernel_rfl) (by kernel_rfl) (fun _ _ _ h => h) (Or.inr ⟨by rfl, rfl⟩) hHeld ?_
            try simp only [Act.put, List.setIfInBounds_toArray, List.set_cons_zero, List.set_cons_succ]
            refine wpAnyH_take (i := 8) (oi := { dst := some 137, op := Go.Op.pick (Go.Operand.tmp 131) (Go.Operand.const (Go.Value.bool true)) (Go.Operand.tmp 136), type := 4, pos := "ref.go:122", after := #[{ on := 2, ground := Go.Ground.data }, { on := 7, ground := Go.Ground.data }], guard := none }) (v := ?vra8) rfl (by kernel_rfl) (by kernel_rfl) (by kernel_rfl) (fun _ _ _ h => h) (Or.inl ⟨by rfl, ?hyra8⟩) hHeld ?_
            case hyra8 => (intro w hSw; (try dsimp only at hSw); go_simp; first | done | with_reducible rfl)
            try simp only [Act.put, List.setIfInBounds_toArray, List.set_cons_zero, List.set_cons_succ]
            refine wpAnyH_take (i := 9) (oi := { dst := some 138, op := Go.Op.move (Go.Operand.tmp 137), type := 4, pos := "ref.go:122", after := #[{ on := 8, ground := Go.Ground.data }, { on := 6, ground := Go.Ground.chain }], guard := none }) (v := ?vra9) rfl (by kernel_rfl) (by kernel_rfl) (by kernel_rfl) (fun _ _ _ h => h) (Or.inl ⟨by rfl, ?hyra9⟩) hHeld ?_
            case hyra9 => (intro w hSw; (try dsimp only at hSw); go_simp; first | done | with_reducible rfl)
            try simp only [Act.put, List.setIfInBounds_toArray, List.set_cons_zero, List.set_cons_succ]
            refine wpAnyH_take (i := 10) (oi := { dst := some 139, op := Go.Op.load 26 (Go.Operand.tmp 4), type := 26, pos := "ref.go:122", after := #[{ on := 9, ground := Go.Ground.guard }], guard := some (9, false) }) (v := undef) rfl (by kernel_rfl) (by kernel_rfl) (by kernel_rfl) (fun _ _ _ h => h) (Or.inr ⟨by rfl, rfl⟩) hHeld ?_
            try simp only [Act.put, List.setIfInBounds_toArray, List.set_cons_zero, List.set_cons_succ]
            refine wpAnyH_take (i := 11) (oi := { dst := some 140, op := Go.Op.move (Go.Operand.tmp 0), type := 30, pos := "ref.go:122", after := #[{ on := 9, ground := Go.Ground.guard }], guard := some (9, false) }) (v := undef) rfl (by kernel_rfl) (by kernel_rfl) (by kernel_rfl) (fun _ _ _ h => h) (Or.inr ⟨by rfl, rfl⟩) hHeld ?_
            try simp only [Act.put, List.setIfInBounds_toArray, List.set_cons_zero, List.set_cons_succ]
            refine wpAnyH_take (i := 12) (oi := { dst := some 141, op := Go.Op.call { callee := Go.Callee.builtin Go.Builtin.len, args := #[Go.Operand.tmp 140], argTypes := #[30] }, type := 3, pos := "ref.go:122", after := #[{ on := 11, ground := Go.Ground.data }, { on := 9, ground := Go.Ground.guard }], guard := some (9, false) }) (v := undef) rfl (by kernel_rfl) (by kernel_rfl) (by kernel_rfl) (fun _ _ _ h => h) (Or.inr ⟨by rfl, rfl⟩) hHeld ?_
            try simp only [Act.put, List.setIfInBounds_toArray, List.set_cons_zero, List.set_cons_succ]
            refine wpAnyH_take (i := 13) (oi := { dst := some 142, op := Go.Op.call { callee := Go.Callee.value (Go.Operand.func 18), args := #[Go.Operand.tmp 139, Go.Operand.tmp 141], argTypes := #[26, 3] }, type := 30, pos := "ref.go:122", after := #[{ on := 10, ground := Go.Ground.data }, { on := 12, ground := Go.Ground.data }, { on := 9, ground := Go.Ground.chain }, { on := 9, ground := Go.Ground.guard }], guard := some (9, false) }) (v := undef) rfl (by kernel_rfl) (by kernel_rfl) (by kernel_rfl) (fun _ _ _ h => h) (Or.inr ⟨by rfl, rfl⟩) hHeld ?_
            try simp only [Act.put, List.setIfInBounds_toArray, List.set_cons_zero, List.set_cons_succ]
            refine wpAnyH_take (i := 14) (oi := { dst := some 143, op := Go.Op.convert 30 9 (Go.Operand.tmp 142), type := 9, pos := "ref.go:122", after := #[{ on := 13, ground := Go.Ground.data }, { on := 9, ground := Go.Ground.guard }], guard := some (9, false) }) (v := undef) rfl (by kernel_rfl) (by kernel_rfl) (by kernel_rfl) (fun _ _ _ h => h) (Or.inr ⟨by rfl, rfl⟩) hHeld ?_
            try simp only [Act.put, List.setIfInBounds_toArray, List.set_cons_zero, List.set_cons_succ]
            refine wpAnyH_take (i := 15) (oi := { dst := some 144, op := Go.Op.move (Go.Operand.tmp 0), type := 30, pos := "ref.go:122", after := #[{ on := 9, ground := Go.Ground.guard }], guard := some (9, false) }) (v := undef) rfl (by kernel_rfl) (by kernel_rfl) (by kernel_rfl) (fun _ _ _ h => h) (Or.inr ⟨by rfl, rfl⟩) hHeld ?_
            try simp only [Act.put, List.setIfInBounds_toArray, List.set_cons_zero, List.set_cons_succ]
            refine wpAnyH_take (i := 16) (oi := { dst := some 145, op := Go.Op.convert 30 9 (Go.Operand.tmp 144), type := 9, pos := "ref.go:122", after := #[{ on := 15, ground := Go.Ground.data }, { on := 9, ground := Go.Ground.guard }], guard := some (9, false) }) (v := undef) rfl (by kernel_rfl) (by kernel_rfl) (by kernel_rfl) (fun _ _ _ h => h) (Or.inr ⟨by rfl, rfl⟩) hHeld ?_
            try simp only [Act.put, List.setIfInBounds_toArray, List.set_cons_zero, List.set_cons_succ]
            refine wpAnyH_take (i := 17) (oi := { dst := some 146, op := Go.Op.binOp Go.BinOp.neq 9 (Go.Operand.tmp 143) (Go.Operand.tmp 145) 9, type := 4, pos := "ref.go:122", after := #[{ on := 14, ground := Go.Ground.data }, { on := 16, ground := Go.Ground.data }, { on := 9, ground := Go.Ground.guard }], guard := some (9, false) }) (v := undef) rfl (by kernel_rfl) (by kernel_rfl) (by kernel_rfl) (fun _ _ _ h => h) (Or.inr ⟨by rfl, rfl⟩) hHeld ?_
            try simp only [Act.put, List.setIfInBounds_toArray, List.set_cons_zero, List.set_cons_succ]
            refine wpAnyH_take (i := 18) (oi := { dst := some 147, op := Go.Op.pick (Go.Operand.tmp 138) (Go.Operand.const (Go.Value.bool true)) (Go.Operand.tmp 146), type := 4, pos := "ref.go:122", after := #[{ on := 9, ground := Go.Ground.data }, { on := 17, ground := Go.Ground.data }], guard := none }) (v := ?vra18) rfl (by kernel_rfl) (by kernel_rfl) (by kernel_rfl) (fun _ _ _ h => h) (Or.inl ⟨by rfl, ?hyra18⟩) hHeld ?_
            case hyra18 => (intro w hSw; (try dsimp only at hSw); go_simp; first | done | with_reducible rfl)
            try simp only [Act.put, List.setIfInBounds_toArray, List.set_cons_zero, List.set_cons_succ]
            refine wpAnyH_done (by kernel_rfl) ?_ _
            clear hHeld
            rw [HV0.out]
            go_wp2
            exact bodyPost_ret (results_cell2 (P := Try.prog) (fn := Try.f20) rfl _ _ rfl (run_loadVar_row _ g 26 26 _ (0, 0) _ HZE.out.row Try.underlying26 rfl (by kernel_rfl))) rfl HE.out
          | false =>
            have hge0 : ¬ ai < 0 := fun h => by have := hneg.1 h; cases this
            have hge1 : 0 ≤ ai := by omega
            obtain ⟨k0, hk0, hdk0⟩ := HTL.out rfl
            have HTX := Lib.hid (rText_any wr _ n c b HRr.out hn (l3, false) (fun _ => ⟨k0, by rw [← HL.out]; exact hk0, hdk0⟩))
            have htl2 := HTL.out.txt
            obtain ⟨x, hx⟩ : ∃ x, (stTxt (l3, false)).1 = x := ⟨_, rfl⟩
            obtain ⟨s2, hs2⟩ : ∃ s2, (stTxt (l3, false)).2 = s2 := ⟨_, rfl⟩
            rw [hai, hx, hs2] at HTX
            rw [hs2] at htl2
            have HTY := Lib.hid (rText_any wr _ n c b HRr.out hn s2 (fun h => by obtain ⟨k1, h1, h2⟩ := htl2 h; exact ⟨k1, by rw [← HL.out]; exact h1, h2⟩))
            have htl3 := htl2.txt
            obtain ⟨y, hy⟩ : ∃ y, (stTxt s2).1 = y := ⟨_, rfl⟩
            obtain ⟨s3, hs3⟩ : ∃ s3, (stTxt s2).2 = s3 := ⟨_, rfl⟩
            rw [hy, hs3] at HTY
            rw [hs3] at htl3
            have HTL3 := Lib.hid htl3
            have HNEW : Hid (prs (j + 1) (l, false) = (PS ++ [(x, y)], s3)) := by
              show prs (j + 1) (l, false) = _
              rw [prs_step j _ (by rw [HP.out]), HP.out, hx, hs2, hy, hs3]
            have hszx : x.size ≤ 255 := by rw [← hx]; exact stTxt_size _
            have hszy : y.size ≤ 255 := by rw [← hy]; exact stTxt_size _
            have HPSZ2 : Hid (∀ p ∈ PS ++ [(x, y)], p.1.size ≤ 140737488351232 ∧ p.2.size ≤ 140737488351232) := fun p hp => by
              rcases List.mem_append.1 hp with h | h
              · exact ⟨Nat.le_trans (HPSZ.out p h).1 (by omega), Nat.le_trans (HPSZ.out p h).2 (by omega)⟩
              · obtain rfl := List.mem_singleton.1 h
                exact ⟨by show x.size ≤ _; omega, by show y.size ≤ _; omega⟩
            have hl100 : PS.length ≤ 100000 := by rw [HLEN.out]; omega
            obtain ⟨a2, ha2⟩ : ∃ a2, atI n s2 = a2 := ⟨_, rfl⟩
            obtain ⟨a3, ha3⟩ : ∃ a3, atI n s3 = a3 := ⟨_, rfl⟩
            rw [ha2] at HTX HTY
            rw [ha3] at HTY
            have HA3 := Lib.hid ha3
            obtain ⟨v', w7, hrun, c7, f7, MO8, FR8⟩ := Mo.appP HMOr.out (by show _ ≤ 100000; omega) x y
            obtain ⟨X, hX⟩ : ∃ X, wr.alloc (.cells #[.string x, .string y] 49) = X := ⟨_, rfl⟩
            rw [hX] at hrun
            obtain ⟨A', c', hv', _⟩ := rdP_own MO8.p HPSZ2.out
            subst hv'
            have HMO8 := Lib.hid MO8
            have HFR8 : Hid (Below (g + 1) W0 _) := HBr.out.trans (FR8.below (fun k hk => hk) (by have := HMOr.out.bs; omega))
            obtain ⟨m', hm'⟩ : ∃ m', (PS ++ [(x, y)]).length = m' := ⟨_, rfl⟩
            rw [hm'] at hrun HMO8 HFR8
            have HRUN := Lib.hid hrun
            obtain ⟨d0, d1, d2, d3, df⟩ := HMOr.out.cells
            rw [hai]
            clear df hx hs2 hy hs3 ha2 ha3 hk0 hdk0 hneg hai MO8 FR8 hrun hm' htl2 htl3 HFIN
            go_wp2_with fail
            refine HTX.out.mono ?_
            rintro e wq ⟨rfl, rfl⟩
            go_wp2_with fail
            refine HTY.out.mono ?_
            rintro e wq ⟨rfl, rfl⟩
            go_wp2_with (at_builtin; refine wpList_runN _ rfl (.tmp 122) (.tmp 126) 22 22 rfl rfl _ _ _ _ rfl rfl HRUN.out ?_)
            go_roundw
            case rel => exact ⟨j + 1, _, PS ++ [(x, y)], s3, HNEW.out, by omega, by rw [List.length_append, HLEN.out]; rfl, by go_num, by rw [HA3.out], HTL3.out, HMO8.out, HFR8.out⟩
            case measure => simp [intOf]; omega
        · have he : prs ct (l, false) = (PS, (l3, sh)) := by
            rw [show ct = j by omega]
            exact HP.out
          obtain ⟨N, hN⟩ : ∃ N, (⟨true, PS, [], []⟩ : Nd) = N := ⟨_, rfl⟩
          have HNR : Hid ((rdN b).1 = N) := (HFIN.out he).1.trans hN
          have HST := Lib.hid (HFIN.out he).2
          have HLF : Hid (N.leaf = true) := by show N.leaf = true; rw [← hN]
          rw [hN] at HMOr HNDr
          rw [hai]
          cases sh with
          | true =>
            have hlt0 : ai < 0 := hneg.2 rfl
            have HNO : Hid (¬ okP b) := fun h => by have := h.2.1; rw [HST.out] at this; cases this
            clear he hneg hai hN HFIN
            go_wp2_with fail
            obtain ⟨v0, hv0⟩ : ∃ v0, wr.drew = v0 := ⟨_, rfl⟩
            have hZd : Zb v0 g (.bool false) (.slice none 0 0) (.slice none 0 0) (.slice none 0 0) := by rw [← hv0]; exact ⟨HMOr.out.zero⟩
            have hbd : Below g w v0 := by rw [← hv0]; exact HB0.out.trans ((HBr.out.drew).mono (by omega))
            have HE := Lib.hid (HERR.out v0 hZd hbd HNO.out)
            have HZE := Lib.hid (hZd.set4 (.bool false) (.slice none 0 0) (.slice none 0 0) (.slice none 0 0))
            obtain ⟨z0, z1, z2, z3, f0, f1, f2, f3⟩ := hZd.cells
            have HV0 := Lib.hid hv0
            clear hZd hbd hv0
            refine wp_region_held_drew (S := fun _ => True) (by kernel_rfl) (trivial) (fun hHeld => ?_)
            refine wpAnyH_take (i := 0) (oi := { dst := some 129, op := Go.Op.move (Go.Operand.tmp 6), type := 3, pos := "ref.go:122", after := #[], guard := none }) (v := ?vrb0) rfl (by kernel_rfl) (by kernel_rfl) (by kernel_rfl) (fun _ _ _ h => h) (Or.inl ⟨by rfl, ?hyrb0⟩) hHeld ?_
            case hyrb0 => (intro w hSw; (try dsimp only at hSw); go_simp; first | done | with_reducible rfl)
            try simp only [Act.put, List.setIfInBounds_toArray, List.set_cons_zero, List.set_cons_succ]
            refine wpAnyH_take (i := 1) (oi := { dst := some 130, op := Go.Op.binOp Go.BinOp.lss 3 (Go.Operand.tmp 129) (Go.Operand.const (Go.Value.int Go.IntKind.i64 0)) 3, type := 4, pos := "ref.go:122", after := #[{ on := 0, ground := Go.Ground.data }], guard := none }) (v := ?vrb1) rfl (by kernel_rfl) (by kernel_rfl) (by kernel_rfl) (fun _ _ _ h => h) (Or.inl ⟨by rfl, ?hyrb1⟩) hHeld ?_
            case hyrb1 => (intro w hSw; (try dsimp only at hSw); go_simp; first | done | with_reducible rfl)
            try simp only [Act.put, List.setIfInBounds_toArray, List.set_cons_zero, List.set_cons_succ]
            refine wpAnyH_take (i := 2) (oi := { dst := some 131, op := Go.Op.move (Go.Operand.tmp 130), type := 4, pos := "ref.go:122", after := #[{ on := 1, ground := Go.Ground.data }], guard := none }) (v := ?vrb2) rfl (by kernel_rfl) (by kernel_rfl) (by kernel_rfl) (fun _ _ _ h => h) (Or.inl ⟨by rfl, ?hyrb2⟩) hHeld ?_
            case hyrb2 => (intro w hSw; (try dsimp only at hSw); go_simp; first | done | with_reducible rfl)
            try simp only [Act.put, List.setIfInBounds_toArray, List.set_cons_zero, List.set_cons_succ]
            refine wpAnyH_take (i := 3) (oi := { dst := some 132, op := Go.Op.load 26 (Go.Operand.tmp 4), type := 26, pos := "ref.go:122", after := #[{ on := 2, ground := Go.Ground.guard }], guard := some (2, false) }) (v := undef) rfl (by kernel_rfl) (by kernel_rfl) (by kernel_rfl) (fun _ _ _ h => h) (Or.inr ⟨by rfl, rfl⟩) hHeld ?_
            try simp only [Act.put, List.setIfInBounds_toArray, List.set_cons_zero, List.set_cons_succ]
            refine wpAnyH_take (i := 4) (oi := { dst := some 133, op := Go.Op.move (Go.Operand.tmp 0), type := 30, pos := "ref.go:122", after := #[{ on := 2, ground := Go.Ground.guard }], guard := some (2, false) }) (v := undef) rfl (by kernel_rfl) (by kernel_rfl) (by kernel_rfl) (fun _ _ _ h => h) (Or.inr ⟨by rfl, rfl⟩) hHeld ?_
            try simp only [Act.put, List.setIfInBounds_toArray, List.set_cons_zero, List.set_cons_succ]
            refine wpAnyH_take (i := 5) (oi := { dst := some 134, op := Go.Op.call { callee := Go.Callee.builtin Go.Builtin.len, args := #[Go.Operand.tmp 133], argTypes := #[30] }, type := 3, pos := "ref.go:122", after := #[{ on := 4, ground := Go.Ground.data }, { on := 2, ground := Go.Ground.guard }], guard := some (2, false) }) (v := undef) rfl (by kernel_rfl) (by kernel_rfl) (by kernel_rfl) (fun _ _ _ h => h) (Or.inr ⟨by rfl, rfl⟩) hHeld ?_
            try simp only [Act.put, List.setIfInBounds_toArray, List.set_cons_zero, List.set_cons_succ]
            refine wpAnyH_take (i := 6) (oi := { dst := some 135, op := Go.Op.call { callee := Go.Callee.value (Go.Operand.func 9), args := #[Go.Operand.tmp 132, Go.Operand.tmp 134], argTypes := #[26, 3] }, type := 28, pos := "ref.go:122", after := #[{ on := 3, ground := Go.Ground.data }, { on := 5, ground := Go.Ground.data }, { on := 2, ground := Go.Ground.chain }, { on := 2, ground := Go.Ground.guard }], guard := some (2, false) }) (v := undef) rfl (by kernel_rfl) (by kernel_rfl) (by kernel_rfl) (fun _ _ _ h => h) (Or.inr ⟨by rfl, rfl⟩) hHeld ?_
            try simp only [Act.put, List.setIfInBounds_toArray, List.set_cons_zero, List.set_cons_succ]
            refine wpAnyH_take (i := 7) (oi := { dst := some 136, op := Go.Op.binOp Go.BinOp.neq 28 (Go.Operand.tmp 135) (Go.Operand.const (Go.Value.int Go.IntKind.i64 0)) 28, type := 4, pos := "ref.go:122", after := #[{ on := 6, ground := Go.Ground.data }, { on := 2, ground := Go.Ground.guard }], guard := some (2, false) }) (v := undef) rfl (by kernel_rfl) (by kernel_rfl) (by kernel_rfl) (fun _ _ _ h => h) (Or.inr ⟨by rfl, rfl⟩) hHeld ?_
            try simp only [Act.put, List.setIfInBounds_toArray, List.set_cons_zero, List.set_cons_succ]
            refine wpAnyH_take (i := 8) (oi := { dst := some 137, op := Go.Op.pick (Go.Operand.tmp 131) (Go.Operand.const (Go.Value.bool true)) (Go.Operand.tmp 136), type := 4, pos := "ref.go:122", after := #[{ on := 2, ground := Go.Ground.data }, { on := 7, ground := Go.Ground.data }], guard := none }) (v := ?vrb8) rfl (by kernel_rfl) (by kernel_rfl) (by kernel_rfl) (fun _ _ _ h => h) (Or.inl ⟨by rfl, ?hyrb8⟩) hHeld ?_
            case hyrb8 => (intro w hSw; (try dsimp only at hSw); go_simp; first | done | with_reducible rfl)
            try simp only [Act.put, List.setIfInBounds_toArray, List.set_cons_zero, List.set_cons_succ]
            refine wpAnyH_take (i := 9) (oi := { dst := some 138, op := Go.Op.move (Go.Operand.tmp 137), type := 4, pos := "ref.go:122", after := #[{ on := 8, ground := Go.Ground.data }, { on := 6, ground := Go.Ground.chain }], guard := none }) (v := ?vrb9) rfl (by kernel_rfl) (by kernel_rfl) (by kernel_rfl) (fun _ _ _ h => h) (Or.inl ⟨by rfl, ?hyrb9⟩) hHeld ?_
            case hyrb9 => (intro w hSw; (try dsimp only at hSw); go_simp; first | done | with_reducible rfl)
            try simp only [Act.put, List.setIfInBounds_toArray, List.set_cons_zero, List.set_cons_succ]
            refine wpAnyH_take (i := 10) (oi := { dst := some 139, op := Go.Op.load 26 (Go.Operand.tmp 4), type := 26, pos := "ref.go:122", after := #[{ on := 9, ground := Go.Ground.guard }], guard := some (9, false) }) (v := undef) rfl (by kernel_rfl) (by kernel_rfl) (by kernel_rfl) (fun _ _ _ h => h) (Or.inr ⟨by rfl, rfl⟩) hHeld ?_
            try simp only [Act.put, List.setIfInBounds_toArray, List.set_cons_zero, List.set_cons_succ]
            refine wpAnyH_take (i := 11) (oi := { dst := some 140, op := Go.Op.move (Go.Operand.tmp 0), type := 30, pos := "ref.go:122", after := #[{ on := 9, ground := Go.Ground.guard }], guard := some (9, false) }) (v := undef) rfl (by kernel_rfl) (by kernel_rfl) (by kernel_rfl) (fun _ _ _ h => h) (Or.inr ⟨by rfl, rfl⟩) hHeld ?_
            try simp only [Act.put, List.setIfInBounds_toArray, List.set_cons_zero, List.set_cons_succ]
            refine wpAnyH_take (i := 12) (oi := { dst := some 141, op := Go.Op.call { callee := Go.Callee.builtin Go.Builtin.len, args := #[Go.Operand.tmp 140], argTypes := #[30] }, type := 3, pos := "ref.go:122", after := #[{ on := 11, ground := Go.Ground.data }, { on := 9, ground := Go.Ground.guard }], guard := some (9, false) }) (v := undef) rfl (by kernel_rfl) (by kernel_rfl) (by kernel_rfl) (fun _ _ _ h => h) (Or.inr ⟨by rfl, rfl⟩) hHeld ?_
            try simp only [Act.put, List.setIfInBounds_toArray, List.set_cons_zero, List.set_cons_succ]
            refine wpAnyH_take (i := 13) (oi := { dst := some 142, op := Go.Op.call { callee := Go.Callee.value (Go.Operand.func 18), args := #[Go.Operand.tmp 139, Go.Operand.tmp 141], argTypes := #[26, 3] }, type := 30, pos := "ref.go:122", after := #[{ on := 10, ground := Go.Ground.data }, { on := 12, ground := Go.Ground.data }, { on := 9, ground := Go.Ground.chain }, { on := 9, ground := Go.Ground.guard }], guard := some (9, false) }) (v := undef) rfl (by kernel_rfl) (by kernel_rfl) (by kernel_rfl) (fun _ _ _ h => h) (Or.inr ⟨by rfl, rfl⟩) hHeld ?_
            try simp only [Act.put, List.setIfInBounds_toArray, List.set_cons_zero, List.set_cons_succ]
            refine wpAnyH_take (i := 14) (oi := { dst := some 143, op := Go.Op.convert 30 9 (Go.Operand.tmp 142), type := 9, pos := "ref.go:122", after := #[{ on := 13, ground := Go.Ground.data }, { on := 9, ground := Go.Ground.guard }], guard := some (9, false) }) (v := undef) rfl (by kernel_rfl) (by kernel_rfl) (by kernel_rfl) (fun _ _ _ h => h) (Or.inr ⟨by rfl, rfl⟩) hHeld ?_
            try simp only [Act.put, List.setIfInBounds_toArray, List.set_cons_zero, List.set_cons_succ]
            refine wpAnyH_take (i := 15) (oi := { dst := some 144, op := Go.Op.move (Go.Operand.tmp 0), type := 30, pos := "ref.go:122", after := #[{ on := 9, ground := Go.Ground.guard }], guard := some (9, false) }) (v := undef) rfl (by kernel_rfl) (by kernel_rfl) (by kernel_rfl) (fun _ _ _ h => h) (Or.inr ⟨by rfl, rfl⟩) hHeld ?_
            try simp only [Act.put, List.setIfInBounds_toArray, List.set_cons_zero, List.set_cons_succ]
            refine wpAnyH_take (i := 16) (oi := { dst := some 145, op := Go.Op.convert 30 9 (Go.Operand.tmp 144), type := 9, pos := "ref.go:122", after := #[{ on := 15, ground := Go.Ground.data }, { on := 9, ground := Go.Ground.guard }], guard := some (9, false) }) (v := undef) rfl (by kernel_rfl) (by kernel_rfl) (by kernel_rfl) (fun _ _ _ h => h) (Or.inr ⟨by rfl, rfl⟩) hHeld ?_
            try simp only [Act.put, List.setIfInBounds_toArray, List.set_cons_zero, List.set_cons_succ]
            refine wpAnyH_take (i := 17) (oi := { dst := some 146, op := Go.Op.binOp Go.BinOp.neq 9 (Go.Operand.tmp 143) (Go.Operand.tmp 145) 9, type := 4, pos := "ref.go:122", after := #[{ on := 14, ground := Go.Ground.data }, { on := 16, ground := Go.Ground.data }, { on := 9, ground := Go.Ground.guard }], guard := some (9, false) }) (v := undef) rfl (by kernel_rfl) (by kernel_rfl) (by kernel_rfl) (fun _ _ _ h => h) (Or.inr ⟨by rfl, rfl⟩) hHeld ?_
            try simp only [Act.put, List.setIfInBounds_toArray, List.set_cons_zero, List.set_cons_succ]
            refine wpAnyH_take (i := 18) (oi := { dst := some 147, op := Go.Op.pick (Go.Operand.tmp 138) (Go.Operand.const (Go.Value.bool true)) (Go.Operand.tmp 146), type := 4, pos := "ref.go:122", after := #[{ on := 9, ground := Go.Ground.data }, { on := 17, ground := Go.Ground.data }], guard := none }) (v := ?vrb18) rfl (by kernel_rfl) (by kernel_rfl) (by kernel_rfl) (fun _ _ _ h => h) (Or.inl ⟨by rfl, ?hyrb18⟩) hHeld ?_
            case hyrb18 => (intro w hSw; (try dsimp only at hSw); go_simp; first | done | with_reducible rfl)
            try simp only [Act.put, List.setIfInBounds_toArray, List.set_cons_zero, List.set_cons_succ]
            refine wpAnyH_done (by kernel_rfl) ?_ _
            clear hHeld
            rw [HV0.out]
            go_wp2
            exact bodyPost_ret (results_cell2 (P := Try.prog) (fn := Try.f20) rfl _ _ rfl (run_loadVar_row _ g 26 26 _ (0, 0) _ HZE.out.row Try.underlying26 rfl (by kernel_rfl))) rfl HE.out
          | false =>
            have hge0 : ¬ ai < 0 := fun h => by have := hneg.1 h; cases this
            have hdl : decide (ai < 0) = false := decide_eq_false hge0
            clear he hneg hai hN HFIN
            go_wp2_with fail
            have HF7 : Hid (N.Few 7000) := by
              have := rdN_few b (by rw [HL.out]; exact hn) (by rw [HST.out])
              rw [HNR.out] at this; exact this
            obtain ⟨SB, hSB⟩ : ∃ SB : ByteArray, ⟨b.toArray⟩ = SB := ⟨_, rfl⟩
            have HBd_v0 : Hid (Below wr.heap.size wr wr.drew) := (Below.refl _ _).drew
            have HSW : Hid (∀ W, Below wr.heap.size wr W → (W.cell? ⟨g + 1, 0, none⟩ = some (.bool true) ∧ W.cell? ⟨g + 1, 1, none⟩ = some (.slice A1 j c1) ∧ W.cell? ⟨g + 1, 2, none⟩ = some (.slice none 0 0) ∧ W.cell? ⟨g + 1, 3, none⟩ = some (.slice none 0 0)) ∧ (convert 30 9 (.slice (some ⟨q, o, none⟩) n c)).run Try.prog W = .ok (.string SB) W) := fun W hW => by
              have h1 := (HMOr.out.keep hW).cells
              refine ⟨⟨h1.1, h1.2.1, h1.2.2.1, h1.2.2.2.1⟩, ?_⟩
              rw [← hSB]
              exact string_rd W _ _ _ _ ((HRW.out.keep (by rw [hs0]; exact HBr.out)).keep hW)
            have HSB := Lib.hid hSB
            have HCK := Lib.hid (rCheck_any wr.drew ⟨A1, j, c1, none, 0, 0, none, 0, 0⟩ N (HNDr.out.keep HBd_v0.out) HF7.out (n : Int))
            simp only [nv, ncs] at HCK
            rw [HLF.out] at HCK
            obtain ⟨R, hR⟩ : ∃ R, N.chk (n : Int) = R := ⟨_, rfl⟩
            rw [hR] at HCK
            have HR := Lib.hid hR
            clear hSB hR
            by_cases hR0 : R = 0
            · subst hR0
              have HR0 : Hid (N.chk (n : Int) = 0) := HR.out
              obtain ⟨SX, hSX⟩ : ∃ SX : ByteArray, ⟨(N.body ++ zeros (n - N.body.length)).toArray⟩ = SX := ⟨_, rfl⟩
              have HSX := Lib.hid hSX
              obtain ⟨al, hal⟩ : ∃ al, l3.all (· == 0) = al := ⟨_, rfl⟩
              have hlb : b = N.body ++ l3 := by have := (rdN_back b (.inl HK1.out) (by rw [HST.out])).1; rw [HNR.out, HST.out] at this; exact this
              have heq : (SX.toList == SB.toList) = al := by
                have hn3 : n - N.body.length = l3.length := by have := congrArg List.length hlb; rw [HL.out, List.length_append] at this; omega
                rw [← hSX, ← HSB.out, ByteArray.toList_eq, ByteArray.toList_eq, hn3, ← hal]
                cases hA : l3.all (· == 0) with
                | true => rw [hlb, ← all_zeros l3 hA]; simp
                | false =>
                  rw [beq_eq_false_iff_ne]
                  intro h
                  rw [hlb] at h
                  have h2 : zeros l3.length = l3 := by simpa using h
                  rw [← h2] at hA
                  simp [zeros] at hA
              have hneq : (SX.toList != SB.toList) = !al := by rw [bne, heq]
              have HAL := Lib.hid hal
              clear hSX hal hlb
              go_wp2_with fail
              refine wp_region_held_drew (S := fun W => (W.cell? ⟨g + 1, 0, none⟩ = some (.bool true) ∧ W.cell? ⟨g + 1, 1, none⟩ = some (.slice A1 j c1) ∧ W.cell? ⟨g + 1, 2, none⟩ = some (.slice none 0 0) ∧ W.cell? ⟨g + 1, 3, none⟩ = some (.slice none 0 0)) ∧ (convert 30 9 (.slice (some ⟨q, o, none⟩) n c)).run Try.prog W = .ok (.string SB) W) (by kernel_rfl) (HSW.out wr.drew HBd_v0.out) (fun hHeld => ?_)
              refine wpAnyH_take (i := 0) (oi := { dst := some 129, op := Go.Op.move (Go.Operand.tmp 6), type := 3, pos := "ref.go:122", after := #[], guard := none }) (v := ?vrcy0) rfl (by kernel_rfl) (by kernel_rfl) (by kernel_rfl) (fun _ _ _ h => h) (Or.inl ⟨by rfl, ?hyrcy0⟩) hHeld ?_
              case hyrcy0 => (intro w hSw; (try dsimp only at hSw); go_simp; first | done | with_reducible rfl)
              try simp only [Act.put, List.setIfInBounds_toArray, List.set_cons_zero, List.set_cons_succ]
              refine wpAnyH_take (i := 1) (oi := { dst := some 130, op := Go.Op.binOp Go.BinOp.lss 3 (Go.Operand.tmp 129) (Go.Operand.const (Go.Value.int Go.IntKind.i64 0)) 3, type := 4, pos := "ref.go:122", after := #[{ on := 0, ground := Go.Ground.data }], guard := none }) (v := ?vrcy1) rfl (by kernel_rfl) (by kernel_rfl) (by kernel_rfl) (fun _ _ _ h => h) (Or.inl ⟨by rfl, ?hyrcy1⟩) hHeld ?_
              case hyrcy1 => (intro w hSw; (try dsimp only at hSw); go_simp; first | done | with_reducible rfl)
              try simp only [Act.put, List.setIfInBounds_toArray, List.set_cons_zero, List.set_cons_succ]
              refine wpAnyH_take (i := 2) (oi := { dst := some 131, op := Go.Op.move (Go.Operand.tmp 130), type := 4, pos := "ref.go:122", after := #[{ on := 1, ground := Go.Ground.data }], guard := none }) (v := ?vrcy2) rfl (by kernel_rfl) (by kernel_rfl) (by kernel_rfl) (fun _ _ _ h => h) (Or.inl ⟨by rfl, ?hyrcy2⟩) hHeld ?_
              case hyrcy2 => (intro w hSw; (try dsimp only at hSw); go_simp; first | done | with_reducible rfl)
              try simp only [Act.put, List.setIfInBounds_toArray, List.set_cons_zero, List.set_cons_succ]
              refine wpAnyH_take (i := 3) (oi := { dst := some 132, op := Go.Op.load 26 (Go.Operand.tmp 4), type := 26, pos := "ref.go:122", after := #[{ on := 2, ground := Go.Ground.guard }], guard := some (2, false) }) (v := ?vrcy3) rfl (by kernel_rfl) (by kernel_rfl) (by kernel_rfl) (fun _ _ _ h => h) (Or.inl ⟨by rfl, ?hyrcy3⟩) hHeld ?_
              case hyrcy3 => (intro w hSw; (try dsimp only at hSw); go_simp; first | done | with_reducible rfl)
              try simp only [Act.put, List.setIfInBounds_toArray, List.set_cons_zero, List.set_cons_succ]
              refine wpAnyH_take (i := 4) (oi := { dst := some 133, op := Go.Op.move (Go.Operand.tmp 0), type := 30, pos := "ref.go:122", after := #[{ on := 2, ground := Go.Ground.guard }], guard := some (2, false) }) (v := ?vrcy4) rfl (by kernel_rfl) (by kernel_rfl) (by kernel_rfl) (fun _ _ _ h => h) (Or.inl ⟨by rfl, ?hyrcy4⟩) hHeld ?_
              case hyrcy4 => (intro w hSw; (try dsimp only at hSw); go_simp; first | done | with_reducible rfl)
              try simp only [Act.put, List.setIfInBounds_toArray, List.set_cons_zero, List.set_cons_succ]
              refine wpAnyH_take (i := 5) (oi := { dst := some 134, op := Go.Op.call { callee := Go.Callee.builtin Go.Builtin.len, args := #[Go.Operand.tmp 133], argTypes := #[30] }, type := 3, pos := "ref.go:122", after := #[{ on := 4, ground := Go.Ground.data }, { on := 2, ground := Go.Ground.guard }], guard := some (2, false) }) (v := ?vrcy5) rfl (by kernel_rfl) (by kernel_rfl) (by kernel_rfl) (fun _ _ _ h => h) (Or.inl ⟨by rfl, ?hyrcy5⟩) hHeld ?_
              case hyrcy5 => (intro w hSw; (try dsimp only at hSw); go_simp; first | done | with_reducible rfl)
              try simp only [Act.put, List.setIfInBounds_toArray, List.set_cons_zero, List.set_cons_succ]
              refine wpAnyH_ready (rs := [6]) (by kernel_rfl) (by simp) ?_
              refine AllReadyH.cons (o := { dst := some 135, op := Go.Op.call { callee := Go.Callee.value (Go.Operand.func 9), args := #[Go.Operand.tmp 132, Go.Operand.tmp 134], argTypes := #[26, 3] }, type := 28, pos := "ref.go:122", after := #[{ on := 3, ground := Go.Ground.data }, { on := 5, ground := Go.Ground.data }, { on := 2, ground := Go.Ground.chain }, { on := 2, ground := Go.Ground.guard }], guard := some (2, false) }) rfl (fun K hK => ?_) AllReadyH.nil
              go_simp
              refine HCK.out.mono ?_
              rintro e v5 ⟨rfl, hb5⟩
              have HBd_v5 : Hid (Below wr.heap.size wr v5) := HBd_v0.out.trans hb5
              have HBY := Lib.hid (rBytes_any v5 ⟨A1, j, c1, none, 0, 0, none, 0, 0⟩ N (HNDr.out.keep HBd_v5.out) HF7.out n HR0.out)
              simp only [nv, ncs] at HBY
              rw [HLF.out] at HBY
              clear hb5
              go_wp2_with fail
              refine hK.out _ _ (HSW.out v5 HBd_v5.out) (fun hHeld => ?_)
              clear hK K
              try simp only [Act.put, List.setIfInBounds_toArray, List.set_cons_zero, List.set_cons_succ]
              refine wpAnyH_take (i := 7) (oi := { dst := some 136, op := Go.Op.binOp Go.BinOp.neq 28 (Go.Operand.tmp 135) (Go.Operand.const (Go.Value.int Go.IntKind.i64 0)) 28, type := 4, pos := "ref.go:122", after := #[{ on := 6, ground := Go.Ground.data }, { on := 2, ground := Go.Ground.guard }], guard := some (2, false) }) (v := ?vrcy7) rfl (by kernel_rfl) (by kernel_rfl) (by kernel_rfl) (fun _ _ _ h => h) (Or.inl ⟨by rfl, ?hyrcy7⟩) hHeld ?_
              case hyrcy7 => (intro w hSw; (try dsimp only at hSw); go_simp; first | done | with_reducible rfl)
              try simp only [Act.put, List.setIfInBounds_toArray, List.set_cons_zero, List.set_cons_succ]
              refine wpAnyH_take (i := 8) (oi := { dst := some 137, op := Go.Op.pick (Go.Operand.tmp 131) (Go.Operand.const (Go.Value.bool true)) (Go.Operand.tmp 136), type := 4, pos := "ref.go:122", after := #[{ on := 2, ground := Go.Ground.data }, { on := 7, ground := Go.Ground.data }], guard := none }) (v := ?vrcy8) rfl (by kernel_rfl) (by kernel_rfl) (by kernel_rfl) (fun _ _ _ h => h) (Or.inl ⟨by rfl, ?hyrcy8⟩) hHeld ?_
              case hyrcy8 => (intro w hSw; (try dsimp only at hSw); go_simp; first | done | with_reducible rfl)
              try simp only [Act.put, List.setIfInBounds_toArray, List.set_cons_zero, List.set_cons_succ]
              refine wpAnyH_take (i := 9) (oi := { dst := some 138, op := Go.Op.move (Go.Operand.tmp 137), type := 4, pos := "ref.go:122", after := #[{ on := 8, ground := Go.Ground.data }, { on := 6, ground := Go.Ground.chain }], guard := none }) (v := ?vrcy9) rfl (by kernel_rfl) (by kernel_rfl) (by kernel_rfl) (fun _ _ _ h => h) (Or.inl ⟨by rfl, ?hyrcy9⟩) hHeld ?_
              case hyrcy9 => (intro w hSw; (try dsimp only at hSw); go_simp; first | done | with_reducible rfl)
              try simp only [Act.put, List.setIfInBounds_toArray, List.set_cons_zero, List.set_cons_succ]
              refine wpAnyH_take (i := 10) (oi := { dst := some 139, op := Go.Op.load 26 (Go.Operand.tmp 4), type := 26, pos := "ref.go:122", after := #[{ on := 9, ground := Go.Ground.guard }], guard := some (9, false) }) (v := ?vrcy10) rfl (by kernel_rfl) (by kernel_rfl) (by kernel_rfl) (fun _ _ _ h => h) (Or.inl ⟨by rfl, ?hyrcy10⟩) hHeld ?_
              case hyrcy10 => (intro w hSw; (try dsimp only at hSw); go_simp; first | done | with_reducible rfl)
              try simp only [Act.put, List.setIfInBounds_toArray, List.set_cons_zero, List.set_cons_succ]
              refine wpAnyH_take (i := 11) (oi := { dst := some 140, op := Go.Op.move (Go.Operand.tmp 0), type := 30, pos := "ref.go:122", after := #[{ on := 9, ground := Go.Ground.guard }], guard := some (9, false) }) (v := ?vrcy11) rfl (by kernel_rfl) (by kernel_rfl) (by kernel_rfl) (fun _ _ _ h => h) (Or.inl ⟨by rfl, ?hyrcy11⟩) hHeld ?_
              case hyrcy11 => (intro w hSw; (try dsimp only at hSw); go_simp; first | done | with_reducible rfl)
              try simp only [Act.put, List.setIfInBounds_toArray, List.set_cons_zero, List.set_cons_succ]
              refine wpAnyH_take (i := 12) (oi := { dst := some 141, op := Go.Op.call { callee := Go.Callee.builtin Go.Builtin.len, args := #[Go.Operand.tmp 140], argTypes := #[30] }, type := 3, pos := "ref.go:122", after := #[{ on := 11, ground := Go.Ground.data }, { on := 9, ground := Go.Ground.guard }], guard := some (9, false) }) (v := ?vrcy12) rfl (by kernel_rfl) (by kernel_rfl) (by kernel_rfl) (fun _ _ _ h => h) (Or.inl ⟨by rfl, ?hyrcy12⟩) hHeld ?_
              case hyrcy12 => (intro w hSw; (try dsimp only at hSw); go_simp; first | done | with_reducible rfl)
              try simp only [Act.put, List.setIfInBounds_toArray, List.set_cons_zero, List.set_cons_succ]
              refine wpAnyH_take (i := 15) (oi := { dst := some 144, op := Go.Op.move (Go.Operand.tmp 0), type := 30, pos := "ref.go:122", after := #[{ on := 9, ground := Go.Ground.guard }], guard := some (9, false) }) (v := ?vrcy15) rfl (by kernel_rfl) (by kernel_rfl) (by kernel_rfl) (fun _ _ _ h => h) (Or.inl ⟨by rfl, ?hyrcy15⟩) hHeld ?_
              case hyrcy15 => (intro w hSw; (try dsimp only at hSw); go_simp; first | done | with_reducible rfl)
              try simp only [Act.put, List.setIfInBounds_toArray, List.set_cons_zero, List.set_cons_succ]
              refine wpAnyH_take (i := 16) (oi := { dst := some 145, op := Go.Op.convert 30 9 (Go.Operand.tmp 144), type := 9, pos := "ref.go:122", after := #[{ on := 15, ground := Go.Ground.data }, { on := 9, ground := Go.Ground.guard }], guard := some (9, false) }) (v := ?vrcy16) rfl (by kernel_rfl) (by kernel_rfl) (by kernel_rfl) (fun _ _ _ h => h) (Or.inl ⟨by rfl, ?hyrcy16⟩) hHeld ?_
              case hyrcy16 => (intro w hSw; (try dsimp only at hSw); go_simp; first | done | with_reducible rfl)
              try simp only [Act.put, List.setIfInBounds_toArray, List.set_cons_zero, List.set_cons_succ]
              refine wpAnyH_ready (rs := [13]) (by kernel_rfl) (by simp) ?_
              refine AllReadyH.cons (o := { dst := some 142, op := Go.Op.call { callee := Go.Callee.value (Go.Operand.func 18), args := #[Go.Operand.tmp 139, Go.Operand.tmp 141], argTypes := #[26, 3] }, type := 30, pos := "ref.go:122", after := #[{ on := 10, ground := Go.Ground.data }, { on := 12, ground := Go.Ground.data }, { on := 9, ground := Go.Ground.chain }, { on := 9, ground := Go.Ground.guard }], guard := some (9, false) }) rfl (fun K hK => ?_) AllReadyH.nil
              go_simp
              refine HBY.out.mono ?_
              rintro e v6 ⟨⟨Ab, cb, rfl, hrb⟩, hb6⟩
              have HBd_v6 : Hid (Below wr.heap.size wr v6) := HBd_v5.out.trans (hb6.mono (by have := HBd_v5.out.size; omega))
              have e5 := string_rd v6 _ _ _ _ hrb
              rw [HSX.out] at e5
              obtain ⟨vx, hvx⟩ : ∃ vx, Value.slice Ab n cb = vx := ⟨_, rfl⟩
              rw [hvx] at e5
              rw [hvx]
              clear hb6 hrb hvx
              go_wp2_with fail
              refine hK.out _ _ (HSW.out v6 HBd_v6.out) (fun hHeld => ?_)
              clear hK K
              try simp only [Act.put, List.setIfInBounds_toArray, List.set_cons_zero, List.set_cons_succ]
              refine wpAnyH_ready (rs := [14]) (by kernel_rfl) (by simp) ?_
              refine AllReadyH.cons (o := { dst := some 143, op := Go.Op.convert 30 9 (Go.Operand.tmp 142), type := 9, pos := "ref.go:122", after := #[{ on := 13, ground := Go.Ground.data }, { on := 9, ground := Go.Ground.guard }], guard := some (9, false) }) rfl (fun K hK => ?_) AllReadyH.nil
              go_simp
              refine hK.out _ _ (hHeld) (fun hHeld => ?_)
              clear hK K
              try simp only [Act.put, List.setIfInBounds_toArray, List.set_cons_zero, List.set_cons_succ]
              refine wpAnyH_take (i := 17) (oi := { dst := some 146, op := Go.Op.binOp Go.BinOp.neq 9 (Go.Operand.tmp 143) (Go.Operand.tmp 145) 9, type := 4, pos := "ref.go:122", after := #[{ on := 14, ground := Go.Ground.data }, { on := 16, ground := Go.Ground.data }, { on := 9, ground := Go.Ground.guard }], guard := some (9, false) }) (v := ?vrcy17) rfl (by kernel_rfl) (by kernel_rfl) (by kernel_rfl) (fun _ _ _ h => h) (Or.inl ⟨by rfl, ?hyrcy17⟩) hHeld ?_
              case hyrcy17 => (intro w hSw; (try dsimp only at hSw); go_simp; first | done | with_reducible rfl)
              try simp only [Act.put, List.setIfInBounds_toArray, List.set_cons_zero, List.set_cons_succ]
              refine wpAnyH_take (i := 18) (oi := { dst := some 147, op := Go.Op.pick (Go.Operand.tmp 138) (Go.Operand.const (Go.Value.bool true)) (Go.Operand.tmp 146), type := 4, pos := "ref.go:122", after := #[{ on := 9, ground := Go.Ground.data }, { on := 17, ground := Go.Ground.data }], guard := none }) (v := ?vrcy18) rfl (by kernel_rfl) (by kernel_rfl) (by kernel_rfl) (fun _ _ _ h => h) (Or.inl ⟨by rfl, ?hyrcy18⟩) hHeld ?_
              case hyrcy18 => (intro w hSw; (try dsimp only at hSw); go_simp; first | done | with_reducible rfl)
              try simp only [Act.put, List.setIfInBounds_toArray, List.set_cons_zero, List.set_cons_succ]
              refine wpAnyH_done (by kernel_rfl) ?_ _
              clear hHeld e5 heq hneq HCK HBY
              have hbw : Below g w v6 := HB0.out.trans ((HBr.out.trans (HBd_v6.out.mono (by have := HBr.out.size; omega))).mono (by omega))
              have hZ6 : Zb v6 g (.bool false) (.slice none 0 0) (.slice none 0 0) (.slice none 0 0) := ⟨(HMOr.out.keep HBd_v6.out).zero⟩
              obtain ⟨z0, z1, z2, z3, f0, f1, f2, f3⟩ := hZ6.cells
              cases al with
              | true =>
                have HOKP : Hid (okP b) := ⟨.inl HK1.out, by rw [HST.out], by rw [HNR.out, HL.out]; exact HR0.out, by rw [HST.out]; exact HAL.out⟩
                have HZE := Lib.hid (hZ6.set4 (.bool true) (.slice A1 j c1) (.slice none 0 0) (.slice none 0 0))
                have HE : Hid (rParseR (set4 v6 g (.bool true) (.slice A1 j c1) (.slice none 0 0) (.slice none 0 0)) b (.returned (.tuple #[.agg #[.bool true, .slice A1 j c1, .slice none 0 0, .slice none 0 0], .bool true])) ∧ Below g w (set4 v6 g (.bool true) (.slice A1 j c1) (.slice none 0 0) (.slice none 0 0))) := by
                  have hfs := fr_set4 v6 g (.bool true) (.slice A1 j c1) (.slice none 0 0) (.slice none 0 0)
                  refine ⟨.inl ⟨HOKP.out, ⟨A1, j, c1, none, 0, 0, none, 0, 0⟩, ?_, ?_⟩, hbw.trans (hfs.below (fun k hk => by have : k = g := hk; omega) (by have := (Array.getElem?_eq_some_iff.1 hZ6.row).1; omega))⟩
                  · rw [HNR.out, HLF.out]; rfl
                  · rw [HNR.out]
                    exact (HNDr.out.keep HBd_v6.out).fr hfs hZ6
                obtain ⟨d0, d1, d2, d3, df⟩ := (HMOr.out.keep HBd_v6.out).cells
                clear df hZ6 hbw
                go_wp2
                exact bodyPost_ret (results_cell2 (P := Try.prog) (fn := Try.f20) rfl _ _ rfl (run_loadVar_row _ g 26 26 _ (0, 0) _ HZE.out.row Try.underlying26 rfl (by kernel_rfl))) rfl HE.out
              | false =>
                have hno : ¬ okP b := fun h => by have := h.2.2.2; rw [HST.out] at this; simp only at this; rw [HAL.out] at this; cases this
                have HE := Lib.hid (HERR.out v6 hZ6 hbw hno)
                have HZE := Lib.hid (hZ6.set4 (.bool false) (.slice none 0 0) (.slice none 0 0) (.slice none 0 0))
                clear hno hZ6 hbw
                go_wp2
                exact bodyPost_ret (results_cell2 (P := Try.prog) (fn := Try.f20) rfl _ _ rfl (run_loadVar_row _ g 26 26 _ (0, 0) _ HZE.out.row Try.underlying26 rfl (by kernel_rfl))) rfl HE.out
            · have hno : ¬ okP b := fun h => hR0 (by rw [← HR.out, ← HNR.out, ← HL.out]; exact h.2.2.1)
              have hRn : (R != 0) = true := by simpa using hR0
              have HNO := Lib.hid hno
              clear hno hR0
              go_wp2_with fail
              refine wp_region_held_drew (S := fun W => (W.cell? ⟨g + 1, 0, none⟩ = some (.bool true) ∧ W.cell? ⟨g + 1, 1, none⟩ = some (.slice A1 j c1) ∧ W.cell? ⟨g + 1, 2, none⟩ = some (.slice none 0 0) ∧ W.cell? ⟨g + 1, 3, none⟩ = some (.slice none 0 0)) ∧ (convert 30 9 (.slice (some ⟨q, o, none⟩) n c)).run Try.prog W = .ok (.string SB) W) (by kernel_rfl) (HSW.out wr.drew HBd_v0.out) (fun hHeld => ?_)
              refine wpAnyH_take (i := 0) (oi := { dst := some 129, op := Go.Op.move (Go.Operand.tmp 6), type := 3, pos := "ref.go:122", after := #[], guard := none }) (v := ?vrcn0) rfl (by kernel_rfl) (by kernel_rfl) (by kernel_rfl) (fun _ _ _ h => h) (Or.inl ⟨by rfl, ?hyrcn0⟩) hHeld ?_
              case hyrcn0 => (intro w hSw; (try dsimp only at hSw); go_simp; first | done | with_reducible rfl)
              try simp only [Act.put, List.setIfInBounds_toArray, List.set_cons_zero, List.set_cons_succ]
              refine wpAnyH_take (i := 1) (oi := { dst := some 130, op := Go.Op.binOp Go.BinOp.lss 3 (Go.Operand.tmp 129) (Go.Operand.const (Go.Value.int Go.IntKind.i64 0)) 3, type := 4, pos := "ref.go:122", after := #[{ on := 0, ground := Go.Ground.data }], guard := none }) (v := ?vrcn1) rfl (by kernel_rfl) (by kernel_rfl) (by kernel_rfl) (fun _ _ _ h => h) (Or.inl ⟨by rfl, ?hyrcn1⟩) hHeld ?_
              case hyrcn1 => (intro w hSw; (try dsimp only at hSw); go_simp; first | done | with_reducible rfl)
              try simp only [Act.put, List.setIfInBounds_toArray, List.set_cons_zero, List.set_cons_succ]
              refine wpAnyH_take (i := 2) (oi := { dst := some 131, op := Go.Op.move (Go.Operand.tmp 130), type := 4, pos := "ref.go:122", after := #[{ on := 1, ground := Go.Ground.data }], guard := none }) (v := ?vrcn2) rfl (by kernel_rfl) (by kernel_rfl) (by kernel_rfl) (fun _ _ _ h => h) (Or.inl ⟨by rfl, ?hyrcn2⟩) hHeld ?_
              case hyrcn2 => (intro w hSw; (try dsimp only at hSw); go_simp; first | done | with_reducible rfl)
              try simp only [Act.put, List.setIfInBounds_toArray, List.set_cons_zero, List.set_cons_succ]
              refine wpAnyH_take (i := 3) (oi := { dst := some 132, op := Go.Op.load 26 (Go.Operand.tmp 4), type := 26, pos := "ref.go:122", after := #[{ on := 2, ground := Go.Ground.guard }], guard := some (2, false) }) (v := ?vrcn3) rfl (by kernel_rfl) (by kernel_rfl) (by kernel_rfl) (fun _ _ _ h => h) (Or.inl ⟨by rfl, ?hyrcn3⟩) hHeld ?_
              case hyrcn3 => (intro w hSw; (try dsimp only at hSw); go_simp; first | done | with_reducible rfl)
              try simp only [Act.put, List.setIfInBounds_toArray, List.set_cons_zero, List.set_cons_succ]
              refine wpAnyH_take (i := 4) (oi := { dst := some 133, op := Go.Op.move (Go.Operand.tmp 0), type := 30, pos := "ref.go:122", after := #[{ on := 2, ground := Go.Ground.guard }], guard := some (2, false) }) (v := ?vrcn4) rfl (by kernel_rfl) (by kernel_rfl) (by kernel_rfl) (fun _ _ _ h => h) (Or.inl ⟨by rfl, ?hyrcn4⟩) hHeld ?_
              case hyrcn4 => (intro w hSw; (try dsimp only at hSw); go_simp; first | done | with_reducible rfl)
              try simp only [Act.put, List.setIfInBounds_toArray, List.set_cons_zero, List.set_cons_succ]
              refine wpAnyH_take (i := 5) (oi := { dst := some 134, op := Go.Op.call { callee := Go.Callee.builtin Go.Builtin.len, args := #[Go.Operand.tmp 133], argTypes := #[30] }, type := 3, pos := "ref.go:122", after := #[{ on := 4, ground := Go.Ground.data }, { on := 2, ground := Go.Ground.guard }], guard := some (2, false) }) (v := ?vrcn5) rfl (by kernel_rfl) (by kernel_rfl) (by kernel_rfl) (fun _ _ _ h => h) (Or.inl ⟨by rfl, ?hyrcn5⟩) hHeld ?_
              case hyrcn5 => (intro w hSw; (try dsimp only at hSw); go_simp; first | done | with_reducible rfl)
              try simp only [Act.put, List.setIfInBounds_toArray, List.set_cons_zero, List.set_cons_succ]
              refine wpAnyH_ready (rs := [6]) (by kernel_rfl) (by simp) ?_
              refine AllReadyH.cons (o := { dst := some 135, op := Go.Op.call { callee := Go.Callee.value (Go.Operand.func 9), args := #[Go.Operand.tmp 132, Go.Operand.tmp 134], argTypes := #[26, 3] }, type := 28, pos := "ref.go:122", after := #[{ on := 3, ground := Go.Ground.data }, { on := 5, ground := Go.Ground.data }, { on := 2, ground := Go.Ground.chain }, { on := 2, ground := Go.Ground.guard }], guard := some (2, false) }) rfl (fun K hK => ?_) AllReadyH.nil
              go_simp
              refine HCK.out.mono ?_
              rintro e v5 ⟨rfl, hb5⟩
              have HBd_v5 : Hid (Below wr.heap.size wr v5) := HBd_v0.out.trans hb5
              clear hb5
              go_wp2_with fail
              refine hK.out _ _ (HSW.out v5 HBd_v5.out) (fun hHeld => ?_)
              clear hK K
              try simp only [Act.put, List.setIfInBounds_toArray, List.set_cons_zero, List.set_cons_succ]
              refine wpAnyH_take (i := 7) (oi := { dst := some 136, op := Go.Op.binOp Go.BinOp.neq 28 (Go.Operand.tmp 135) (Go.Operand.const (Go.Value.int Go.IntKind.i64 0)) 28, type := 4, pos := "ref.go:122", after := #[{ on := 6, ground := Go.Ground.data }, { on := 2, ground := Go.Ground.guard }], guard := some (2, false) }) (v := ?vrcn7) rfl (by kernel_rfl) (by kernel_rfl) (by kernel_rfl) (fun _ _ _ h => h) (Or.inl ⟨by rfl, ?hyrcn7⟩) hHeld ?_
              case hyrcn7 => (intro w hSw; (try dsimp only at hSw); go_simp; first | done | with_reducible rfl)
              try simp only [Act.put, List.setIfInBounds_toArray, List.set_cons_zero, List.set_cons_succ]
              refine wpAnyH_take (i := 8) (oi := { dst := some 137, op := Go.Op.pick (Go.Operand.tmp 131) (Go.Operand.const (Go.Value.bool true)) (Go.Operand.tmp 136), type := 4, pos := "ref.go:122", after := #[{ on := 2, ground := Go.Ground.data }, { on := 7, ground := Go.Ground.data }], guard := none }) (v := ?vrcn8) rfl (by kernel_rfl) (by kernel_rfl) (by kernel_rfl) (fun _ _ _ h => h) (Or.inl ⟨by rfl, ?hyrcn8⟩) hHeld ?_
              case hyrcn8 => (intro w hSw; (try dsimp only at hSw); go_simp; first | done | with_reducible rfl)
              try simp only [Act.put, List.setIfInBounds_toArray, List.set_cons_zero, List.set_cons_succ]
              refine wpAnyH_take (i := 9) (oi := { dst := some 138, op := Go.Op.move (Go.Operand.tmp 137), type := 4, pos := "ref.go:122", after := #[{ on := 8, ground := Go.Ground.data }, { on := 6, ground := Go.Ground.chain }], guard := none }) (v := ?vrcn9) rfl (by kernel_rfl) (by kernel_rfl) (by kernel_rfl) (fun _ _ _ h => h) (Or.inl ⟨by rfl, ?hyrcn9⟩) hHeld ?_
              case hyrcn9 => (intro w hSw; (try dsimp only at hSw); go_simp; first | done | with_reducible rfl)
              try simp only [Act.put, List.setIfInBounds_toArray, List.set_cons_zero, List.set_cons_succ]
              refine wpAnyH_take (i := 10) (oi := { dst := some 139, op := Go.Op.load 26 (Go.Operand.tmp 4), type := 26, pos := "ref.go:122", after := #[{ on := 9, ground := Go.Ground.guard }], guard := some (9, false) }) (v := undef) rfl (by kernel_rfl) (by kernel_rfl) (by kernel_rfl) (fun _ _ _ h => h) (Or.inr ⟨by rfl, rfl⟩) hHeld ?_
              try simp only [Act.put, List.setIfInBounds_toArray, List.set_cons_zero, List.set_cons_succ]
              refine wpAnyH_take (i := 11) (oi := { dst := some 140, op := Go.Op.move (Go.Operand.tmp 0), type := 30, pos := "ref.go:122", after := #[{ on := 9, ground := Go.Ground.guard }], guard := some (9, false) }) (v := undef) rfl (by kernel_rfl) (by kernel_rfl) (by kernel_rfl) (fun _ _ _ h => h) (Or.inr ⟨by rfl, rfl⟩) hHeld ?_
              try simp only [Act.put, List.setIfInBounds_toArray, List.set_cons_zero, List.set_cons_succ]
              refine wpAnyH_take (i := 12) (oi := { dst := some 141, op := Go.Op.call { callee := Go.Callee.builtin Go.Builtin.len, args := #[Go.Operand.tmp 140], argTypes := #[30] }, type := 3, pos := "ref.go:122", after := #[{ on := 11, ground := Go.Ground.data }, { on := 9, ground := Go.Ground.guard }], guard := some (9, false) }) (v := undef) rfl (by kernel_rfl) (by kernel_rfl) (by kernel_rfl) (fun _ _ _ h => h) (Or.inr ⟨by rfl, rfl⟩) hHeld ?_
              try simp only [Act.put, List.setIfInBounds_toArray, List.set_cons_zero, List.set_cons_succ]
              refine wpAnyH_take (i := 13) (oi := { dst := some 142, op := Go.Op.call { callee := Go.Callee.value (Go.Operand.func 18), args := #[Go.Operand.tmp 139, Go.Operand.tmp 141], argTypes := #[26, 3] }, type := 30, pos := "ref.go:122", after := #[{ on := 10, ground := Go.Ground.data }, { on := 12, ground := Go.Ground.data }, { on := 9, ground := Go.Ground.chain }, { on := 9, ground := Go.Ground.guard }], guard := some (9, false) }) (v := undef) rfl (by kernel_rfl) (by kernel_rfl) (by kernel_rfl) (fun _ _ _ h => h) (Or.inr ⟨by rfl, rfl⟩) hHeld ?_
              try simp only [Act.put, List.setIfInBounds_toArray, List.set_cons_zero, List.set_cons_succ]
              refine wpAnyH_take (i := 14) (oi := { dst := some 143, op := Go.Op.convert 30 9 (Go.Operand.tmp 142), type := 9, pos := "ref.go:122", after := #[{ on := 13, ground := Go.Ground.data }, { on := 9, ground := Go.Ground.guard }], guard := some (9, false) }) (v := undef) rfl (by kernel_rfl) (by kernel_rfl) (by kernel_rfl) (fun _ _ _ h => h) (Or.inr ⟨by rfl, rfl⟩) hHeld ?_
              try simp only [Act.put, List.setIfInBounds_toArray, List.set_cons_zero, List.set_cons_succ]
              refine wpAnyH_take (i := 15) (oi := { dst := some 144, op := Go.Op.move (Go.Operand.tmp 0), type := 30, pos := "ref.go:122", after := #[{ on := 9, ground := Go.Ground.guard }], guard := some (9, false) }) (v := undef) rfl (by kernel_rfl) (by kernel_rfl) (by kernel_rfl) (fun _ _ _ h => h) (Or.inr ⟨by rfl, rfl⟩) hHeld ?_
              try simp only [Act.put, List.setIfInBounds_toArray, List.set_cons_zero, List.set_cons_succ]
              refine wpAnyH_take (i := 16) (oi := { dst := some 145, op := Go.Op.convert 30 9 (Go.Operand.tmp 144), type := 9, pos := "ref.go:122", after := #[{ on := 15, ground := Go.Ground.data }, { on := 9, ground := Go.Ground.guard }], guard := some (9, false) }) (v := undef) rfl (by kernel_rfl) (by kernel_rfl) (by kernel_rfl) (fun _ _ _ h => h) (Or.inr ⟨by rfl, rfl⟩) hHeld ?_
              try simp only [Act.put, List.setIfInBounds_toArray, List.set_cons_zero, List.set_cons_succ]
              refine wpAnyH_take (i := 17) (oi := { dst := some 146, op := Go.Op.binOp Go.BinOp.neq 9 (Go.Operand.tmp 143) (Go.Operand.tmp 145) 9, type := 4, pos := "ref.go:122", after := #[{ on := 14, ground := Go.Ground.data }, { on := 16, ground := Go.Ground.data }, { on := 9, ground := Go.Ground.guard }], guard := some (9, false) }) (v := undef) rfl (by kernel_rfl) (by kernel_rfl) (by kernel_rfl) (fun _ _ _ h => h) (Or.inr ⟨by rfl, rfl⟩) hHeld ?_
              try simp only [Act.put, List.setIfInBounds_toArray, List.set_cons_zero, List.set_cons_succ]
              refine wpAnyH_take (i := 18) (oi := { dst := some 147, op := Go.Op.pick (Go.Operand.tmp 138) (Go.Operand.const (Go.Value.bool true)) (Go.Operand.tmp 146), type := 4, pos := "ref.go:122", after := #[{ on := 9, ground := Go.Ground.data }, { on := 17, ground := Go.Ground.data }], guard := none }) (v := ?vrcn18) rfl (by kernel_rfl) (by kernel_rfl) (by kernel_rfl) (fun _ _ _ h => h) (Or.inl ⟨by rfl, ?hyrcn18⟩) hHeld ?_
              case hyrcn18 => (intro w hSw; (try dsimp only at hSw); go_simp; first | done | with_reducible rfl)
              try simp only [Act.put, List.setIfInBounds_toArray, List.set_cons_zero, List.set_cons_succ]
              refine wpAnyH_done (by kernel_rfl) ?_ _
              clear hHeld HCK
              have hbw : Below g w v5 := HB0.out.trans ((HBr.out.trans (HBd_v5.out.mono (by have := HBr.out.size; omega))).mono (by omega))
              have hZ6 : Zb v5 g (.bool false) (.slice none 0 0) (.slice none 0 0) (.slice none 0 0) := ⟨(HMOr.out.keep HBd_v5.out).zero⟩
              obtain ⟨z0, z1, z2, z3, f0, f1, f2, f3⟩ := hZ6.cells
              have HE := Lib.hid (HERR.out v5 hZ6 hbw HNO.out)
              have HZE := Lib.hid (hZ6.set4 (.bool false) (.slice none 0 0) (.slice none 0 0) (.slice none 0 0))
              clear hZ6 hbw
              go_wp2
              exact bodyPost_ret (results_cell2 (P := Try.prog) (fn := Try.f20) rfl _ _ rfl (run_loadVar_row _ g 26 26 _ (0, 0) _ HZE.out.row Try.underlying26 rfl (by kernel_rfl))) rfl HE.out
  · by_cases hx2 : x = 2
    · subst hx2
      have HK1 : Hid (knd b = 2) := HKD.out
      have HRDN : Hid (rdN b = (⟨false, [], (kys ct (chs (ct + 1) (l, false)).2).1, (chs (ct + 1) (l, false)).1⟩, (kys ct (chs (ct + 1) (l, false)).2).2)) := by
        show rdN b = _
        unfold rdN
        rw [if_neg (by rw [HK1.out]; omega), HCT.out]
      obtain ⟨W1, hW1⟩ : ∃ W1, W0.alloc (.cells #[.bool false, .slice none 0 0, .slice none 0 0, .slice none 0 0] 26) = W1 := ⟨_, rfl⟩
      have HMO1 : Hid (Mo W1 g (g + 1) (g + 2) false (.slice none 0 0) (.slice none 0 0) (.slice none 0 0) ⟨false, [], [], []⟩) := by
        refine ⟨?_, ?_, own_nil _ _ _ _, own_nil _ _ _ _, own_nil _ _ _ _, fun i h => by simp [Value.ownBlock] at h, fun i h => by simp [Value.ownBlock] at h, fun i h => by simp [Value.ownBlock] at h, by omega, by omega, by rw [← hW1]; simp [hs0]⟩
        · rw [← hW1, ← hs0]; exact heap_alloc_new _ _
        · rw [← hW1, heap_alloc_old _ _ (by omega)]; exact HZ0.out.row
      have HB1 : Hid (Below (g + 1) W0 W1) := by rw [← hW1]; exact (Below.refl _ _).alloc (by omega) _
      have e01 : W1.cell? ⟨q, o, none⟩ = some (B 2) := (HB1.out.cell (p := ⟨q, o, none⟩) (by rw [← hs0]; exact hq)).trans e0
      have e11 : W1.cell? ⟨q, o + 1, none⟩ = some (B y) := (HB1.out.cell (p := ⟨q, o + 1, none⟩) (by rw [← hs0]; exact hq)).trans e1
      have e21 : W1.cell? ⟨q, o + 2, none⟩ = some (B z) := (HB1.out.cell (p := ⟨q, o + 2, none⟩) (by rw [← hs0]; exact hq)).trans e2
      have HW1 := Lib.hid hW1
      clear hW1
      go_enter Try.func20, Try.ntmps20
      go_wp2_with fail
      refine (HRA.out _).mono ?_
      rintro e w1 ⟨rfl, rfl⟩
      go_wp2_with fail
      rw [HW1.out]
      refine wp_region_quiet_lit ?_ ?_ ?_
      · kernel_rfl
      · kernel_rfl
      repeat (first | (with_reducible refine wpQuiet_step (fun K hK => ?_); go_simp; (refine hK _ ?_; clear hK K)) | ((with_reducible refine wpQuiet_skip ?hwq ?_); (case hwq => rfl); simp only [Act.put, List.setIfInBounds_toArray, List.set_cons_zero, List.set_cons_succ]))
      with_reducible refine wpQuiet_nil ?_
      rintro _ ⟨nq, rfl⟩
      obtain ⟨W2, hW2⟩ : ∃ W2, W1.drewN nq = W2 := ⟨_, rfl⟩
      have hb12 : Below W1.heap.size W1 W2 := by rw [← hW2]; exact below_drewN (Below.refl _ _) _
      have HMO := Lib.hid (HMO1.out.keep hb12)
      have hs1 : W1.heap.size = g + 2 := by rw [← HW1.out]; simp [hs0]
      have HB2 : Hid (Below (g + 1) W0 W2) := HB1.out.trans (hb12.mono (by omega))
      have hs2 : g + 2 ≤ W2.heap.size := by have := hb12.size; omega
      clear e01 e11 e21 hb12
      go_wp2
      rw [hW2]
      clear hW2
      have hat0 : atI n (l, false) = 3 := by
        show ((n - l.length : Nat) : Int) = 3
        rw [HD3.out, List.length_drop, HL.out]; omega
      clear e0 e1 e2 hi0 hi1 hi2 q1 q2 q3 q4 hx1 hx8 hy8 hz8
      go_loopw [6, 7] (fun a i wr => ∃ (j : Nat) (cv : Value) (CS : List Int) (st : St), chs j (l, false) = (CS, st) ∧ st.2 = false ∧ j ≤ ct + 1 ∧ CS.length = j ∧ i = .int .i64 j ∧ a = .int .i64 (atI n st) ∧ Tl b st ∧ Mo wr g (g + 1) (g + 2) false (.slice none 0 0) (.slice none 0 0) cv ⟨false, [], [], CS⟩ ∧ Below (g + 1) W0 wr) (fun _ i _ => ct + 1 - (intOf i).toNat)
      case atStart => exact ⟨0, _, [], (l, false), rfl, rfl, Nat.zero_le _, rfl, rfl, by rw [hat0], fun _ => ⟨3, by rw [HL.out]; omega, HD3.out⟩, HMO.out, HB2.out⟩
      case round =>
        clear hs1 hs2 hat0
        obtain ⟨j, cv, CS, st, hp, hsf, hj, hlen, rfl, rfl, htl, hmo, hb⟩ := hrel
        have hpsz : ∀ p ∈ CS, -9223372036854775808 ≤ p ∧ p ≤ 9223372036854775807 := by
          intro p hq
          have := chs_size (l, false) j
          rw [hp] at this
          have := this p hq
          omega
        obtain ⟨A, c1, hpv, hrd⟩ := rdI_own hmo.c hpsz
        simp only at hpv hrd
        rw [hlen] at hpv hrd
        subst hpv
        obtain ⟨l3, sh⟩ := st
        simp only at hsf
        subst hsf
        have HP := Lib.hid hp
        have HLEN := Lib.hid hlen
        have HMOr := Lib.hid hmo
        have HBr := Lib.hid hb
        have HPSZ := Lib.hid hpsz
        have HTL := Lib.hid htl
        have HRr := Lib.hid (HRW.out.keep (by rw [hs0]; exact hb))
        obtain ⟨k0, hk0, hdk0⟩ := htl rfl
        simp only at hdk0
        have hat : atI n (l3, false) = (k0 : Int) := by
          show ((n - l3.length : Nat) : Int) = _
          rw [hdk0, List.length_drop, HL.out]; rw [HL.out] at hk0; omega
        rw [HL.out] at hk0
        have HDK := Lib.hid hdk0
        obtain ⟨d0, d1, d2, d3, df⟩ := hmo.cells
        clear df hp hlen hb hpsz htl hrd hdk0
        by_cases hlt : j < ct + 1
        · have hle : (j : Int) ≤ (ct : Int) := by omega
          by_cases hsh : n < k0 + 3
          · have hshi : (n : Int) < (k0 : Int) + 3 := by omega
            have HNO : Hid (¬ okP b) := fun h => by
              have h2 := h.2.1
              rw [HRDN.out] at h2
              have h3 := kys_use _ _ h2
              have h4 : (chs (j + 1) (l, false)).2.2 = true := by
                rw [chs_step j _ (by rw [HP.out]), HP.out]
                show (stTake (l3, false) 3).2.2 = true
                unfold stTake
                rw [if_pos (.inr (by show l3.length < 3; rw [HDK.out, List.length_drop, HL.out]; omega))]
              have h5 := chs_stop (j + 1) (l, false) h4 (ct - j)
              rw [show j + 1 + (ct - j) = ct + 1 by omega] at h5
              rw [h5, h4] at h3
              cases h3.2.2
            have hZd : Zb wr g (.bool false) (.slice none 0 0) (.slice none 0 0) (.slice none 0 0) := ⟨hmo.zero⟩
            have HE := Lib.hid (HERR.out wr hZd (HB0.out.trans (HBr.out.mono (by omega))) HNO.out)
            have HZE := Lib.hid (hZd.set4 (.bool false) (.slice none 0 0) (.slice none 0 0) (.slice none 0 0))
            obtain ⟨z0, z1, z2, z3, f0, f1, f2, f3⟩ := hZd.cells
            rw [hat]
            clear hZd hmo hat
            go_wp2
            exact bodyPost_ret (results_cell2 (P := Try.prog) (fn := Try.f20) rfl _ _ rfl (run_loadVar_row _ g 26 26 _ (0, 0) _ HZE.out.row Try.underlying26 rfl (by kernel_rfl))) rfl HE.out
          · have hshi : ¬ (n : Int) < (k0 : Int) + 3 := by omega
            obtain ⟨k1, hk1⟩ : ∃ k1 : Nat, k0 + 1 = k1 := ⟨_, rfl⟩
            obtain ⟨k2, hk2⟩ : ∃ k2 : Nat, k0 + 2 = k2 := ⟨_, rfl⟩
            obtain ⟨v0, hv0⟩ : ∃ v0, wr.drew = v0 := ⟨_, rfl⟩
            have hbv : Below wr.heap.size wr v0 := by rw [← hv0]; exact (Below.refl _ _).drew
            have hcb : ∀ i, i < n → v0.cell? ⟨q, o + i, none⟩ = some (B (b.getD i 0)) := fun i hi => by
              have h1 := HBr.out.cell (p := ⟨q, o + i, none⟩) (by rw [← hs0]; exact hq)
              have h2 := hbv.cell (p := ⟨q, o + i, none⟩) (by have := HBr.out.size; show q < _; omega)
              rw [h2, h1]; exact HCELL.out i hi
            have f0 := hcb k0 (by omega)
            have f1 := hcb k1 (by omega)
            have f2 := hcb k2 (by omega)
            obtain ⟨x, hx⟩ : ∃ x, b.getD k0 0 = x := ⟨_, rfl⟩
            obtain ⟨y, hy⟩ : ∃ y, b.getD k1 0 = y := ⟨_, rfl⟩
            obtain ⟨z, hz⟩ : ∃ z, b.getD k2 0 = z := ⟨_, rfl⟩
            rw [hx] at f0
            rw [hy] at f1
            rw [hz] at f2
            have hl3 : l3 = x :: y :: z :: b.drop (k0 + 3) := by
              have hd : ∀ i, i < n → b.drop i = b.getD i 0 :: b.drop (i + 1) := fun i hi => by
                rw [getD_get b i (by rw [HL.out]; exact hi), List.drop_eq_getElem_cons (by rw [HL.out]; exact hi)]
              rw [HDK.out, hd k0 (by omega), hd (k0 + 1) (by omega), hd (k0 + 1 + 1) (by omega), hx, show b.getD (k0 + 1) 0 = y by rw [hk1]; exact hy, show b.getD (k0 + 1 + 1) 0 = z by rw [show k0 + 1 + 1 = k2 from hk2]; exact hz]
            have hx8 := x.toNat_lt
            have hy8 := y.toNat_lt
            have hz8 := z.toNat_lt
            obtain ⟨v, hv⟩ : ∃ v : Nat, (x.toNat * 256 + y.toNat) * 256 + z.toNat = v := ⟨_, rfl⟩
            have hnum : stNum (l3, false) 3 = (v, (b.drop (k0 + 3), false)) := by
              rw [hl3, ← hv]
              unfold stNum stTake
              rw [if_neg (by simp)]
              simp [beN]
            have HNEW : Hid (chs (j + 1) (l, false) = (CS ++ [(v : Int)], (b.drop (k0 + 3), false))) := by
              show chs (j + 1) (l, false) = _
              rw [chs_step j _ (by rw [HP.out]), HP.out, hnum]
            have hA3 : atI n (b.drop (k0 + 3), false) = (k0 : Int) + 3 := by
              show ((n - (b.drop (k0 + 3)).length : Nat) : Int) = _
              rw [List.length_drop, HL.out]; omega
            have HA3 := Lib.hid hA3
            have HTL3 : Hid (Tl b (b.drop (k0 + 3), false)) := fun _ => ⟨k0 + 3, by rw [HL.out]; omega, rfl⟩
            have HPSZ2 : Hid (∀ p ∈ CS ++ [(v : Int)], -9223372036854775808 ≤ p ∧ p ≤ 9223372036854775807) := fun p hp => by
              rcases List.mem_append.1 hp with h | h
              · exact HPSZ.out p h
              · obtain rfl := List.mem_singleton.1 h
                omega
            have q1 : IntKind.i64.wrap (x.toNat : Int) = (x.toNat : Int) := IntWalk.i64_in _ (by omega)
            have q2 : IntKind.i64.wrap (y.toNat : Int) = (y.toNat : Int) := IntWalk.i64_in _ (by omega)
            have q3 : IntKind.i64.wrap (z.toNat : Int) = (z.toNat : Int) := IntWalk.i64_in _ (by omega)
            have q4 : IntKind.i64.wrap (65536 * (x.toNat : Int)) = 65536 * (x.toNat : Int) := IntWalk.i64_in _ (by omega)
            have q5 : IntKind.i64.wrap (256 * (y.toNat : Int)) = 256 * (y.toNat : Int) := IntWalk.i64_in _ (by omega)
            have q6 : IntKind.i64.wrap (65536 * (x.toNat : Int) + 256 * (y.toNat : Int)) = 65536 * (x.toNat : Int) + 256 * (y.toNat : Int) := IntWalk.i64_in _ (by omega)
            have q7 : IntKind.i64.wrap (65536 * (x.toNat : Int) + 256 * (y.toNat : Int) + (z.toNat : Int)) = (v : Int) := by rw [IntWalk.i64_in _ (by omega)]; omega
            have q8 : IntKind.i64.wrap ((k0 : Int) + 1) = (k1 : Int) := by rw [IntWalk.i64_in _ (by omega)]; omega
            have q9 : IntKind.i64.wrap ((k0 : Int) + 2) = (k2 : Int) := by rw [IntWalk.i64_in _ (by omega)]; omega
            have i0 : k0 < n := by omega
            have i1 : k1 < n := by omega
            have i2 : k2 < n := by omega
            have MOd := HMOr.out.keep hbv
            obtain ⟨v', w7, hrun, c7, f7, MO8, FR8⟩ := Mo.appC MOd (by show CS.length ≤ 100000; rw [HLEN.out]; omega) (v : Int)
            obtain ⟨X, hX⟩ : ∃ X, v0.alloc (.cells #[.int .i64 (v : Int)] 3) = X := ⟨_, rfl⟩
            have hbX : Below v0.heap.size v0 X := by rw [← hX]; exact (Below.refl _ _).alloc (Nat.le_refl _) _
            rw [hX] at hrun
            have ld := MOd.cells.2.2.2.1
            have lX := (MOd.keep hbX).cells.2.2.2.1
            obtain ⟨A', c', hv', _⟩ := rdI_own MO8.c HPSZ2.out
            subst hv'
            have HMO8 := Lib.hid MO8
            have HFRv : Hid (Below (g + 1) W0 v0) := HBr.out.trans (hbv.mono (by have := HMOr.out.bs; omega))
            have HFR8 : Hid (Below (g + 1) W0 _) := HFRv.out.trans (FR8.below (fun k hk => hk) (by have := MOd.bs; omega))
            obtain ⟨m', hm'⟩ : ∃ m', (CS ++ [(v : Int)]).length = m' := ⟨_, rfl⟩
            rw [hm'] at hrun HMO8 HFR8 FR8
            have HRUN := Lib.hid hrun
            have hS : ∀ W, Below (g + 1) W0 W → W.cell? ⟨q, o + k0, none⟩ = some (B x) ∧ W.cell? ⟨q, o + k1, none⟩ = some (B y) ∧ W.cell? ⟨q, o + k2, none⟩ = some (B z) := fun W hW => by
              have h1 : ∀ i, i < n → W.cell? ⟨q, o + i, none⟩ = some (B (b.getD i 0)) := fun i hi => (hW.cell (p := ⟨q, o + i, none⟩) (by rw [← hs0]; exact hq)).trans (HCELL.out i hi)
              refine ⟨?_, ?_, ?_⟩
              · rw [h1 k0 i0, hx]
              · rw [h1 k1 i1, hy]
              · rw [h1 k2 i2, hz]
            have HS0 := Lib.hid (hS v0 HFRv.out)
            have HSX := Lib.hid (hS X (HFRv.out.trans (hbX.mono (by have := MOd.bs; omega))))
            have HS8 := Lib.hid (hS _ HFR8.out)
            have HS7 : Hid (w7.cell? ⟨q, o + k0, none⟩ = some (B x) ∧ w7.cell? ⟨q, o + k1, none⟩ = some (B y) ∧ w7.cell? ⟨q, o + k2, none⟩ = some (B z)) := by
              have hne : q ≠ g + 1 := by omega
              have h8 := HS8.out
              have hh : ∀ i, (w7.setCell ⟨g + 1, 3, none⟩ (.slice A' m' c')).cell? ⟨q, o + i, none⟩ = w7.cell? ⟨q, o + i, none⟩ := fun i => cell_of_blk (set_other w7 (g + 1) 3 q _ hne)
              rw [hh, hh, hh] at h8
              exact h8
            have HV0 := Lib.hid hv0
            rw [hat]
            clear hbX MOd MO8 FR8 hrun hm' hS hx hy hz hl3 hnum hA3 hk1 hk2 hcb f0 f1 f2 hbv hmo hat hv0 hv
            go_wp2_with fail
            refine wp_region_held_drew (S := fun W => W.cell? ⟨q, o + k0, none⟩ = some (B x) ∧ W.cell? ⟨q, o + k1, none⟩ = some (B y) ∧ W.cell? ⟨q, o + k2, none⟩ = some (B z)) (by kernel_rfl) (by rw [HV0.out]; exact HS0.out) (fun hHeld => ?_)
            rw [HV0.out] at hHeld ⊢
            refine wpAnyH_take (i := 0) (oi := { dst := some 61, op := Go.Op.fieldAddr 26 (Go.Operand.tmp 4) 3, type := 0, pos := "ref.go:108", after := #[], guard := none }) (v := ?vtt0) rfl (by kernel_rfl) (by kernel_rfl) (by kernel_rfl) (fun _ _ _ h => h) (Or.inl ⟨by rfl, ?hytt0⟩) hHeld ?_
            case hytt0 => (intro w hSw; (try dsimp only at hSw); go_simp; first | done | with_reducible rfl)
            try simp only [Act.put, List.setIfInBounds_toArray, List.set_cons_zero, List.set_cons_succ]
            refine wpAnyH_take (i := 2) (oi := { dst := some 63, op := Go.Op.move (Go.Operand.tmp 0), type := 30, pos := "ref.go:108", after := #[], guard := none }) (v := ?vtt2) rfl (by kernel_rfl) (by kernel_rfl) (by kernel_rfl) (fun _ _ _ h => h) (Or.inl ⟨by rfl, ?hytt2⟩) hHeld ?_
            case hytt2 => (intro w hSw; (try dsimp only at hSw); go_simp; first | done | with_reducible rfl)
            try simp only [Act.put, List.setIfInBounds_toArray, List.set_cons_zero, List.set_cons_succ]
            refine wpAnyH_take (i := 3) (oi := { dst := some 64, op := Go.Op.move (Go.Operand.tmp 6), type := 3, pos := "ref.go:108", after := #[], guard := none }) (v := ?vtt3) rfl (by kernel_rfl) (by kernel_rfl) (by kernel_rfl) (fun _ _ _ h => h) (Or.inl ⟨by rfl, ?hytt3⟩) hHeld ?_
            case hytt3 => (intro w hSw; (try dsimp only at hSw); go_simp; first | done | with_reducible rfl)
            try simp only [Act.put, List.setIfInBounds_toArray, List.set_cons_zero, List.set_cons_succ]
            refine wpAnyH_take (i := 4) (oi := { dst := some 65, op := Go.Op.indexAddr 30 (Go.Operand.tmp 63) (Go.Operand.tmp 64), type := 0, pos := "ref.go:108", after := #[{ on := 2, ground := Go.Ground.data }, { on := 3, ground := Go.Ground.data }], guard := none }) (v := ?vtt4) rfl (by kernel_rfl) (by kernel_rfl) (by kernel_rfl) (fun _ _ _ h => h) (Or.inl ⟨by rfl, ?hytt4⟩) hHeld ?_
            case hytt4 => (intro w hSw; (try dsimp only at hSw); go_simp; first | done | with_reducible rfl)
            try simp only [Act.put, List.setIfInBounds_toArray, List.set_cons_zero, List.set_cons_succ]
            refine wpAnyH_take (i := 5) (oi := { dst := some 66, op := Go.Op.load 5 (Go.Operand.tmp 65), type := 5, pos := "ref.go:108", after := #[{ on := 4, ground := Go.Ground.data }], guard := none }) (v := ?vtt5) rfl (by kernel_rfl) (by kernel_rfl) (by kernel_rfl) (fun _ _ _ h => h) (Or.inl ⟨by rfl, ?hytt5⟩) hHeld ?_
            case hytt5 => (intro w hSw; (try dsimp only at hSw); go_simp; first | done | with_reducible rfl)
            try simp only [Act.put, List.setIfInBounds_toArray, List.set_cons_zero, List.set_cons_succ]
            refine wpAnyH_take (i := 6) (oi := { dst := some 67, op := Go.Op.convert 5 3 (Go.Operand.tmp 66), type := 3, pos := "ref.go:108", after := #[{ on := 5, ground := Go.Ground.data }], guard := none }) (v := ?vtt6) rfl (by kernel_rfl) (by kernel_rfl) (by kernel_rfl) (fun _ _ _ h => h) (Or.inl ⟨by rfl, ?hytt6⟩) hHeld ?_
            case hytt6 => (intro w hSw; (try dsimp only at hSw); go_simp; first | done | with_reducible rfl)
            try simp only [Act.put, List.setIfInBounds_toArray, List.set_cons_zero, List.set_cons_succ]
            refine wpAnyH_take (i := 7) (oi := { dst := some 68, op := Go.Op.binOp Go.BinOp.mul 3 (Go.Operand.const (Go.Value.int Go.IntKind.i64 65536)) (Go.Operand.tmp 67) 3, type := 3, pos := "ref.go:108", after := #[{ on := 6, ground := Go.Ground.data }], guard := none }) (v := ?vtt7) rfl (by kernel_rfl) (by kernel_rfl) (by kernel_rfl) (fun _ _ _ h => h) (Or.inl ⟨by rfl, ?hytt7⟩) hHeld ?_
            case hytt7 => (intro w hSw; (try dsimp only at hSw); go_simp; first | done | with_reducible rfl)
            try simp only [Act.put, List.setIfInBounds_toArray, List.set_cons_zero, List.set_cons_succ]
            refine wpAnyH_take (i := 8) (oi := { dst := some 69, op := Go.Op.move (Go.Operand.tmp 0), type := 30, pos := "ref.go:108", after := #[], guard := none }) (v := ?vtt8) rfl (by kernel_rfl) (by kernel_rfl) (by kernel_rfl) (fun _ _ _ h => h) (Or.inl ⟨by rfl, ?hytt8⟩) hHeld ?_
            case hytt8 => (intro w hSw; (try dsimp only at hSw); go_simp; first | done | with_reducible rfl)
            try simp only [Act.put, List.setIfInBounds_toArray, List.set_cons_zero, List.set_cons_succ]
            refine wpAnyH_take (i := 9) (oi := { dst := some 70, op := Go.Op.move (Go.Operand.tmp 6), type := 3, pos := "ref.go:108", after := #[], guard := none }) (v := ?vtt9) rfl (by kernel_rfl) (by kernel_rfl) (by kernel_rfl) (fun _ _ _ h => h) (Or.inl ⟨by rfl, ?hytt9⟩) hHeld ?_
            case hytt9 => (intro w hSw; (try dsimp only at hSw); go_simp; first | done | with_reducible rfl)
            try simp only [Act.put, List.setIfInBounds_toArray, List.set_cons_zero, List.set_cons_succ]
            refine wpAnyH_take (i := 10) (oi := { dst := some 71, op := Go.Op.binOp Go.BinOp.add 3 (Go.Operand.tmp 70) (Go.Operand.const (Go.Value.int Go.IntKind.i64 1)) 3, type := 3, pos := "ref.go:108", after := #[{ on := 9, ground := Go.Ground.data }], guard := none }) (v := ?vtt10) rfl (by kernel_rfl) (by kernel_rfl) (by kernel_rfl) (fun _ _ _ h => h) (Or.inl ⟨by rfl, ?hytt10⟩) hHeld ?_
            case hytt10 => (intro w hSw; (try dsimp only at hSw); go_simp; first | done | with_reducible rfl)
            try simp only [Act.put, List.setIfInBounds_toArray, List.set_cons_zero, List.set_cons_succ]
            refine wpAnyH_take (i := 11) (oi := { dst := some 72, op := Go.Op.indexAddr 30 (Go.Operand.tmp 69) (Go.Operand.tmp 71), type := 0, pos := "ref.go:108", after := #[{ on := 8, ground := Go.Ground.data }, { on := 10, ground := Go.Ground.data }], guard := none }) (v := ?vtt11) rfl (by kernel_rfl) (by kernel_rfl) (by kernel_rfl) (fun _ _ _ h => h) (Or.inl ⟨by rfl, ?hytt11⟩) hHeld ?_
            case hytt11 => (intro w hSw; (try dsimp only at hSw); go_simp; first | done | with_reducible rfl)
            try simp only [Act.put, List.setIfInBounds_toArray, List.set_cons_zero, List.set_cons_succ]
            refine wpAnyH_take (i := 12) (oi := { dst := some 73, op := Go.Op.load 5 (Go.Operand.tmp 72), type := 5, pos := "ref.go:108", after := #[{ on := 11, ground := Go.Ground.data }], guard := none }) (v := ?vtt12) rfl (by kernel_rfl) (by kernel_rfl) (by kernel_rfl) (fun _ _ _ h => h) (Or.inl ⟨by rfl, ?hytt12⟩) hHeld ?_
            case hytt12 => (intro w hSw; (try dsimp only at hSw); go_simp; first | done | with_reducible rfl)
            try simp only [Act.put, List.setIfInBounds_toArray, List.set_cons_zero, List.set_cons_succ]
            refine wpAnyH_take (i := 13) (oi := { dst := some 74, op := Go.Op.convert 5 3 (Go.Operand.tmp 73), type := 3, pos := "ref.go:108", after := #[{ on := 12, ground := Go.Ground.data }], guard := none }) (v := ?vtt13) rfl (by kernel_rfl) (by kernel_rfl) (by kernel_rfl) (fun _ _ _ h => h) (Or.inl ⟨by rfl, ?hytt13⟩) hHeld ?_
            case hytt13 => (intro w hSw; (try dsimp only at hSw); go_simp; first | done | with_reducible rfl)
            try simp only [Act.put, List.setIfInBounds_toArray, List.set_cons_zero, List.set_cons_succ]
            refine wpAnyH_take (i := 14) (oi := { dst := some 75, op := Go.Op.binOp Go.BinOp.mul 3 (Go.Operand.const (Go.Value.int Go.IntKind.i64 256)) (Go.Operand.tmp 74) 3, type := 3, pos := "ref.go:108", after := #[{ on := 13, ground := Go.Ground.data }], guard := none }) (v := ?vtt14) rfl (by kernel_rfl) (by kernel_rfl) (by kernel_rfl) (fun _ _ _ h => h) (Or.inl ⟨by rfl, ?hytt14⟩) hHeld ?_
            case hytt14 => (intro w hSw; (try dsimp only at hSw); go_simp; first | done | with_reducible rfl)
            try simp only [Act.put, List.setIfInBounds_toArray, List.set_cons_zero, List.set_cons_succ]
            refine wpAnyH_take (i := 15) (oi := { dst := some 76, op := Go.Op.binOp Go.BinOp.add 3 (Go.Operand.tmp 68) (Go.Operand.tmp 75) 3, type := 3, pos := "ref.go:108", after := #[{ on := 7, ground := Go.Ground.data }, { on := 14, ground := Go.Ground.data }], guard := none }) (v := ?vtt15) rfl (by kernel_rfl) (by kernel_rfl) (by kernel_rfl) (fun _ _ _ h => h) (Or.inl ⟨by rfl, ?hytt15⟩) hHeld ?_
            case hytt15 => (intro w hSw; (try dsimp only at hSw); go_simp; first | done | with_reducible rfl)
            try simp only [Act.put, List.setIfInBounds_toArray, List.set_cons_zero, List.set_cons_succ]
            refine wpAnyH_take (i := 16) (oi := { dst := some 77, op := Go.Op.move (Go.Operand.tmp 0), type := 30, pos := "ref.go:108", after := #[], guard := none }) (v := ?vtt16) rfl (by kernel_rfl) (by kernel_rfl) (by kernel_rfl) (fun _ _ _ h => h) (Or.inl ⟨by rfl, ?hytt16⟩) hHeld ?_
            case hytt16 => (intro w hSw; (try dsimp only at hSw); go_simp; first | done | with_reducible rfl)
            try simp only [Act.put, List.setIfInBounds_toArray, List.set_cons_zero, List.set_cons_succ]
            refine wpAnyH_take (i := 17) (oi := { dst := some 78, op := Go.Op.move (Go.Operand.tmp 6), type := 3, pos := "ref.go:108", after := #[], guard := none }) (v := ?vtt17) rfl (by kernel_rfl) (by kernel_rfl) (by kernel_rfl) (fun _ _ _ h => h) (Or.inl ⟨by rfl, ?hytt17⟩) hHeld ?_
            case hytt17 => (intro w hSw; (try dsimp only at hSw); go_simp; first | done | with_reducible rfl)
            try simp only [Act.put, List.setIfInBounds_toArray, List.set_cons_zero, List.set_cons_succ]
            refine wpAnyH_take (i := 18) (oi := { dst := some 79, op := Go.Op.binOp Go.BinOp.add 3 (Go.Operand.tmp 78) (Go.Operand.const (Go.Value.int Go.IntKind.i64 2)) 3, type := 3, pos := "ref.go:108", after := #[{ on := 17, ground := Go.Ground.data }], guard := none }) (v := ?vtt18) rfl (by kernel_rfl) (by kernel_rfl) (by kernel_rfl) (fun _ _ _ h => h) (Or.inl ⟨by rfl, ?hytt18⟩) hHeld ?_
            case hytt18 => (intro w hSw; (try dsimp only at hSw); go_simp; first | done | with_reducible rfl)
            try simp only [Act.put, List.setIfInBounds_toArray, List.set_cons_zero, List.set_cons_succ]
            refine wpAnyH_take (i := 19) (oi := { dst := some 80, op := Go.Op.indexAddr 30 (Go.Operand.tmp 77) (Go.Operand.tmp 79), type := 0, pos := "ref.go:108", after := #[{ on := 16, ground := Go.Ground.data }, { on := 18, ground := Go.Ground.data }], guard := none }) (v := ?vtt19) rfl (by kernel_rfl) (by kernel_rfl) (by kernel_rfl) (fun _ _ _ h => h) (Or.inl ⟨by rfl, ?hytt19⟩) hHeld ?_
            case hytt19 => (intro w hSw; (try dsimp only at hSw); go_simp; first | done | with_reducible rfl)
            try simp only [Act.put, List.setIfInBounds_toArray, List.set_cons_zero, List.set_cons_succ]
            refine wpAnyH_take (i := 20) (oi := { dst := some 81, op := Go.Op.load 5 (Go.Operand.tmp 80), type := 5, pos := "ref.go:108", after := #[{ on := 19, ground := Go.Ground.data }], guard := none }) (v := ?vtt20) rfl (by kernel_rfl) (by kernel_rfl) (by kernel_rfl) (fun _ _ _ h => h) (Or.inl ⟨by rfl, ?hytt20⟩) hHeld ?_
            case hytt20 => (intro w hSw; (try dsimp only at hSw); go_simp; first | done | with_reducible rfl)
            try simp only [Act.put, List.setIfInBounds_toArray, List.set_cons_zero, List.set_cons_succ]
            refine wpAnyH_take (i := 21) (oi := { dst := some 82, op := Go.Op.convert 5 3 (Go.Operand.tmp 81), type := 3, pos := "ref.go:108", after := #[{ on := 20, ground := Go.Ground.data }], guard := none }) (v := ?vtt21) rfl (by kernel_rfl) (by kernel_rfl) (by kernel_rfl) (fun _ _ _ h => h) (Or.inl ⟨by rfl, ?hytt21⟩) hHeld ?_
            case hytt21 => (intro w hSw; (try dsimp only at hSw); go_simp; first | done | with_reducible rfl)
            try simp only [Act.put, List.setIfInBounds_toArray, List.set_cons_zero, List.set_cons_succ]
            refine wpAnyH_take (i := 22) (oi := { dst := some 83, op := Go.Op.binOp Go.BinOp.add 3 (Go.Operand.tmp 76) (Go.Operand.tmp 82) 3, type := 3, pos := "ref.go:108", after := #[{ on := 15, ground := Go.Ground.data }, { on := 21, ground := Go.Ground.data }], guard := none }) (v := ?vtt22) rfl (by kernel_rfl) (by kernel_rfl) (by kernel_rfl) (fun _ _ _ h => h) (Or.inl ⟨by rfl, ?hytt22⟩) hHeld ?_
            case hytt22 => (intro w hSw; (try dsimp only at hSw); go_simp; first | done | with_reducible rfl)
            try simp only [Act.put, List.setIfInBounds_toArray, List.set_cons_zero, List.set_cons_succ]
            refine wpAnyH_ready (rs := [1, 23]) (by kernel_rfl) (by simp) ?_
            refine AllReadyH.cons (o := { dst := some 62, op := Go.Op.load 24 (Go.Operand.tmp 61), type := 24, pos := "ref.go:108", after := #[{ on := 0, ground := Go.Ground.data }], guard := none }) rfl (fun K hK => ?_) (AllReadyH.cons (o := { dst := some 84, op := Go.Op.buildSlice 24 1 #[(0, Go.Operand.tmp 83)], type := 24, pos := "ref.go:108", after := #[{ on := 22, ground := Go.Ground.data }], guard := none }) rfl (fun K hK => ?_) AllReadyH.nil)
            · go_simp
              refine hK.out _ _ (HS0.out) (fun hHeld => ?_)
              clear hK K
              try simp only [Act.put, List.setIfInBounds_toArray, List.set_cons_zero, List.set_cons_succ]
              refine wpAnyH_ready (rs := [23]) (by kernel_rfl) (by simp) ?_
              refine AllReadyH.cons (o := { dst := some 84, op := Go.Op.buildSlice 24 1 #[(0, Go.Operand.tmp 83)], type := 24, pos := "ref.go:108", after := #[{ on := 22, ground := Go.Ground.data }], guard := none }) rfl (fun K hK => ?_) AllReadyH.nil
              go_simp
              refine hK.out _ _ (HSX.out) (fun hHeld => ?_)
              clear hK K
              try simp only [Act.put, List.setIfInBounds_toArray, List.set_cons_zero, List.set_cons_succ]
              refine wpAnyH_ready (rs := [24]) (by kernel_rfl) (by simp) ?_
              refine AllReadyH.cons (o := { dst := some 85, op := Go.Op.call { callee := Go.Callee.builtin Go.Builtin.append, args := #[Go.Operand.tmp 62, Go.Operand.tmp 84], argTypes := #[24, 24] }, type := 24, pos := "ref.go:108", after := #[{ on := 1, ground := Go.Ground.data }, { on := 23, ground := Go.Ground.data }], guard := none }) rfl (fun K hK => ?_) AllReadyH.nil
              refine step_appN rfl (.tmp 62) (.tmp 84) 24 24 rfl rfl _ _ _ _ (by simp [Act.eval, Act.put]) (by simp [Act.eval, Act.put]) HRUN.out ?_
              refine hK.out _ _ (HS7.out) (fun hHeld => ?_)
              clear hK K
              try simp only [Act.put, List.setIfInBounds_toArray, List.set_cons_zero, List.set_cons_succ]
              refine wpAnyH_take (i := 25) (oi := { dst := some 86, op := Go.Op.fieldAddr 26 (Go.Operand.tmp 4) 3, type := 0, pos := "ref.go:108", after := #[{ on := 0, ground := Go.Ground.phase }, { on := 1, ground := Go.Ground.phase }, { on := 2, ground := Go.Ground.phase }, { on := 3, ground := Go.Ground.phase }, { on := 4, ground := Go.Ground.phase }, { on := 5, ground := Go.Ground.phase }, { on := 6, ground := Go.Ground.phase }, { on := 7, ground := Go.Ground.phase }, { on := 8, ground := Go.Ground.phase }, { on := 9, ground := Go.Ground.phase }, { on := 10, ground := Go.Ground.phase }, { on := 11, ground := Go.Ground.phase }, { on := 12, ground := Go.Ground.phase }, { on := 13, ground := Go.Ground.phase }, { on := 14, ground := Go.Ground.phase }, { on := 15, ground := Go.Ground.phase }, { on := 16, ground := Go.Ground.phase }, { on := 17, ground := Go.Ground.phase }, { on := 18, ground := Go.Ground.phase }, { on := 19, ground := Go.Ground.phase }, { on := 20, ground := Go.Ground.phase }, { on := 21, ground := Go.Ground.phase }, { on := 22, ground := Go.Ground.phase }, { on := 23, ground := Go.Ground.phase }, { on := 24, ground := Go.Ground.phase }], guard := none }) (v := ?vta25) rfl (by kernel_rfl) (by kernel_rfl) (by kernel_rfl) (fun _ _ _ h => h) (Or.inl ⟨by rfl, ?hyta25⟩) hHeld ?_
              case hyta25 => (intro w hSw; (try dsimp only at hSw); go_simp; first | done | with_reducible rfl)
              try simp only [Act.put, List.setIfInBounds_toArray, List.set_cons_zero, List.set_cons_succ]
              refine wpAnyH_ready (rs := [26]) (by kernel_rfl) (by simp) ?_
              refine AllReadyH.cons (o := { dst := none, op := Go.Op.store 24 (Go.Operand.tmp 86) (Go.Operand.tmp 85), type := 0, pos := "ref.go:108", after := #[{ on := 25, ground := Go.Ground.data }, { on := 24, ground := Go.Ground.data }, { on := 24, ground := Go.Ground.chain }, { on := 0, ground := Go.Ground.phase }, { on := 1, ground := Go.Ground.phase }, { on := 2, ground := Go.Ground.phase }, { on := 3, ground := Go.Ground.phase }, { on := 4, ground := Go.Ground.phase }, { on := 5, ground := Go.Ground.phase }, { on := 6, ground := Go.Ground.phase }, { on := 7, ground := Go.Ground.phase }, { on := 8, ground := Go.Ground.phase }, { on := 9, ground := Go.Ground.phase }, { on := 10, ground := Go.Ground.phase }, { on := 11, ground := Go.Ground.phase }, { on := 12, ground := Go.Ground.phase }, { on := 13, ground := Go.Ground.phase }, { on := 14, ground := Go.Ground.phase }, { on := 15, ground := Go.Ground.phase }, { on := 16, ground := Go.Ground.phase }, { on := 17, ground := Go.Ground.phase }, { on := 18, ground := Go.Ground.phase }, { on := 19, ground := Go.Ground.phase }, { on := 20, ground := Go.Ground.phase }, { on := 21, ground := Go.Ground.phase }, { on := 22, ground := Go.Ground.phase }, { on := 23, ground := Go.Ground.phase }, { on := 24, ground := Go.Ground.phase }], guard := none }) rfl (fun K hK => ?_) AllReadyH.nil
              go_simp
              refine hK.out _ _ (HS8.out) (fun hHeld => ?_)
              clear hK K
              try simp only [Act.put, List.setIfInBounds_toArray, List.set_cons_zero, List.set_cons_succ]
              refine wpAnyH_done (by kernel_rfl) ?_ _
              clear hHeld
              go_wp2
              go_roundw
              case rel => exact ⟨j + 1, _, CS ++ [(v : Int)], _, HNEW.out, rfl, by omega, by rw [List.length_append, HLEN.out]; rfl, by go_num, by rw [HA3.out], HTL3.out, HMO8.out, HFR8.out⟩
              case measure => simp [intOf]; omega
            · go_simp
              refine hK.out _ _ (HSX.out) (fun hHeld => ?_)
              clear hK K
              try simp only [Act.put, List.setIfInBounds_toArray, List.set_cons_zero, List.set_cons_succ]
              refine wpAnyH_ready (rs := [1]) (by kernel_rfl) (by simp) ?_
              refine AllReadyH.cons (o := { dst := some 62, op := Go.Op.load 24 (Go.Operand.tmp 61), type := 24, pos := "ref.go:108", after := #[{ on := 0, ground := Go.Ground.data }], guard := none }) rfl (fun K hK => ?_) AllReadyH.nil
              go_simp
              refine hK.out _ _ (HSX.out) (fun hHeld => ?_)
              clear hK K
              try simp only [Act.put, List.setIfInBounds_toArray, List.set_cons_zero, List.set_cons_succ]
              refine wpAnyH_ready (rs := [24]) (by kernel_rfl) (by simp) ?_
              refine AllReadyH.cons (o := { dst := some 85, op := Go.Op.call { callee := Go.Callee.builtin Go.Builtin.append, args := #[Go.Operand.tmp 62, Go.Operand.tmp 84], argTypes := #[24, 24] }, type := 24, pos := "ref.go:108", after := #[{ on := 1, ground := Go.Ground.data }, { on := 23, ground := Go.Ground.data }], guard := none }) rfl (fun K hK => ?_) AllReadyH.nil
              refine step_appN rfl (.tmp 62) (.tmp 84) 24 24 rfl rfl _ _ _ _ (by simp [Act.eval, Act.put]) (by simp [Act.eval, Act.put]) HRUN.out ?_
              refine hK.out _ _ (HS7.out) (fun hHeld => ?_)
              clear hK K
              try simp only [Act.put, List.setIfInBounds_toArray, List.set_cons_zero, List.set_cons_succ]
              refine wpAnyH_take (i := 25) (oi := { dst := some 86, op := Go.Op.fieldAddr 26 (Go.Operand.tmp 4) 3, type := 0, pos := "ref.go:108", after := #[{ on := 0, ground := Go.Ground.phase }, { on := 1, ground := Go.Ground.phase }, { on := 2, ground := Go.Ground.phase }, { on := 3, ground := Go.Ground.phase }, { on := 4, ground := Go.Ground.phase }, { on := 5, ground := Go.Ground.phase }, { on := 6, ground := Go.Ground.phase }, { on := 7, ground := Go.Ground.phase }, { on := 8, ground := Go.Ground.phase }, { on := 9, ground := Go.Ground.phase }, { on := 10, ground := Go.Ground.phase }, { on := 11, ground := Go.Ground.phase }, { on := 12, ground := Go.Ground.phase }, { on := 13, ground := Go.Ground.phase }, { on := 14, ground := Go.Ground.phase }, { on := 15, ground := Go.Ground.phase }, { on := 16, ground := Go.Ground.phase }, { on := 17, ground := Go.Ground.phase }, { on := 18, ground := Go.Ground.phase }, { on := 19, ground := Go.Ground.phase }, { on := 20, ground := Go.Ground.phase }, { on := 21, ground := Go.Ground.phase }, { on := 22, ground := Go.Ground.phase }, { on := 23, ground := Go.Ground.phase }, { on := 24, ground := Go.Ground.phase }], guard := none }) (v := ?vtb25) rfl (by kernel_rfl) (by kernel_rfl) (by kernel_rfl) (fun _ _ _ h => h) (Or.inl ⟨by rfl, ?hytb25⟩) hHeld ?_
              case hytb25 => (intro w hSw; (try dsimp only at hSw); go_simp; first | done | with_reducible rfl)
              try simp only [Act.put, List.setIfInBounds_toArray, List.set_cons_zero, List.set_cons_succ]
              refine wpAnyH_ready (rs := [26]) (by kernel_rfl) (by simp) ?_
              refine AllReadyH.cons (o := { dst := none, op := Go.Op.store 24 (Go.Operand.tmp 86) (Go.Operand.tmp 85), type := 0, pos := "ref.go:108", after := #[{ on := 25, ground := Go.Ground.data }, { on := 24, ground := Go.Ground.data }, { on := 24, ground := Go.Ground.chain }, { on := 0, ground := Go.Ground.phase }, { on := 1, ground := Go.Ground.phase }, { on := 2, ground := Go.Ground.phase }, { on := 3, ground := Go.Ground.phase }, { on := 4, ground := Go.Ground.phase }, { on := 5, ground := Go.Ground.phase }, { on := 6, ground := Go.Ground.phase }, { on := 7, ground := Go.Ground.phase }, { on := 8, ground := Go.Ground.phase }, { on := 9, ground := Go.Ground.phase }, { on := 10, ground := Go.Ground.phase }, { on := 11, ground := Go.Ground.phase }, { on := 12, ground := Go.Ground.phase }, { on := 13, ground := Go.Ground.phase }, { on := 14, ground := Go.Ground.phase }, { on := 15, ground := Go.Ground.phase }, { on := 16, ground := Go.Ground.phase }, { on := 17, ground := Go.Ground.phase }, { on := 18, ground := Go.Ground.phase }, { on := 19, ground := Go.Ground.phase }, { on := 20, ground := Go.Ground.phase }, { on := 21, ground := Go.Ground.phase }, { on := 22, ground := Go.Ground.phase }, { on := 23, ground := Go.Ground.phase }, { on := 24, ground := Go.Ground.phase }], guard := none }) rfl (fun K hK => ?_) AllReadyH.nil
              go_simp
              refine hK.out _ _ (HS8.out) (fun hHeld => ?_)
              clear hK K
              try simp only [Act.put, List.setIfInBounds_toArray, List.set_cons_zero, List.set_cons_succ]
              refine wpAnyH_done (by kernel_rfl) ?_ _
              clear hHeld
              go_wp2
              go_roundw
              case rel => exact ⟨j + 1, _, CS ++ [(v : Int)], _, HNEW.out, rfl, by omega, by rw [List.length_append, HLEN.out]; rfl, by go_num, by rw [HA3.out], HTL3.out, HMO8.out, HFR8.out⟩
              case measure => simp [intOf]; omega
        · have hle : ¬ (j : Int) ≤ (ct : Int) := by omega
          have hj2 : chs (ct + 1) (l, false) = (CS, (l3, false)) := by
            rw [show ct + 1 = j by omega]
            exact HP.out
          obtain ⟨s1, hs1⟩ : ∃ s1, ((l3, false) : St) = s1 := ⟨_, rfl⟩
          rw [hs1] at hj2 HTL hat ⊢
          have HJ2 := Lib.hid hj2
          have HAT := Lib.hid hat
          clear hj2 hs1 hmo hk0 hat hj
          go_wp2
          clear d0 d1 d2 d3 hlt hle
          go_loopw [6, 8] (fun a i wr => ∃ (m : Nat) (kv : Value) (KS : List ByteArray) (st : St), kys m s1 = (KS, st) ∧ m ≤ ct ∧ KS.length = m ∧ i = .int .i64 m ∧ a = .int .i64 (atI n st) ∧ Tl b st ∧ Mo wr g (g + 1) (g + 2) false (.slice none 0 0) kv (.slice A j c1) ⟨false, [], KS, CS⟩ ∧ Below (g + 1) W0 wr) (fun _ i _ => ct - (intOf i).toNat)
          case atStart => exact ⟨0, _, [], s1, rfl, Nat.zero_le _, rfl, rfl, by rw [HAT.out], HTL.out, HMOr.out, HBr.out⟩
          case round =>
            have HCS := Lib.hid HPSZ.out
            have HCL := Lib.hid HLEN.out
            clear HMOr HBr HPSZ HLEN HTL HP HRr HAT
            obtain ⟨m, kv, KS, st, hp, hj, hlen, rfl, rfl, htl, hmo, hb⟩ := hrel
            have hpsz : ∀ p ∈ KS, p.size ≤ 255 := by have := kys_size s1 m; rw [hp] at this; exact this
            obtain ⟨A1, cb1, hpv, hrd⟩ := rdS_own hmo.k (fun p hp => Nat.le_trans (hpsz p hp) (by unfold maxLen; omega))
            obtain ⟨A9, c9, hpv9, hrd9⟩ := rdI_own hmo.c HCS.out
            simp only at hpv hrd hpv9 hrd9
            rw [hlen] at hpv hrd
            rw [HCL.out] at hpv9 hrd9
            subst hpv
            cases hpv9
            have HP := Lib.hid hp
            have HLEN := Lib.hid hlen
            have HMOr := Lib.hid hmo
            have HBr := Lib.hid hb
            have HPSZ := Lib.hid hpsz
            have HTL := Lib.hid htl
            have hRr := (HRW.out.keep (by rw [hs0]; exact hb))
            have HRr := Lib.hid hRr
            have HNDr : Hid (NdAt wr ⟨none, 0, 0, A1, m, cb1, A, j, c1⟩ ⟨false, [], KS, CS⟩) := ⟨RdP.nil _ _ _, hrd, hrd9⟩
            have hneg := atI_neg (n := n) (s := st)
            obtain ⟨ai, hai⟩ : ∃ ai, atI n st = ai := ⟨_, rfl⟩
            rw [hai] at hneg
            obtain ⟨l3, sh⟩ := st
            have HAI := Lib.hid hai
            simp only at hneg
            clear hp hlen hmo hb hpsz htl hrd hRr hrd9
            have HFIN : Hid (kys ct s1 = (KS, (l3, sh)) → (rdN b).1 = ⟨false, [], KS, CS⟩ ∧ (rdN b).2 = (l3, sh)) := fun he => by
              rw [HRDN.out, HJ2.out]; simp only; rw [he]; exact ⟨rfl, rfl⟩
            by_cases hlt : m < ct
            · cases sh with
              | true =>
                have hlt0 : ai < 0 := hneg.2 rfl
                have he : kys ct s1 = (KS, (l3, true)) := by
                  have h2 := kys_stop m s1 (by rw [HP.out]) (ct - m)
                  rw [show m + (ct - m) = ct by omega, HP.out] at h2
                  exact h2
                have HST := Lib.hid (HFIN.out he).2
                have HNO : Hid (¬ okP b) := fun h => by have := h.2.1; rw [HST.out] at this; cases this
                rw [hai]
                clear he hneg hai
                go_wp2_with fail
                obtain ⟨v0, hv0⟩ : ∃ v0, wr.drew = v0 := ⟨_, rfl⟩
                have hZd : Zb v0 g (.bool false) (.slice none 0 0) (.slice none 0 0) (.slice none 0 0) := by rw [← hv0]; exact ⟨HMOr.out.zero⟩
                have hbd : Below g w v0 := by rw [← hv0]; exact HB0.out.trans ((HBr.out.drew).mono (by omega))
                have HE := Lib.hid (HERR.out v0 hZd hbd HNO.out)
                have HZE := Lib.hid (hZd.set4 (.bool false) (.slice none 0 0) (.slice none 0 0) (.slice none 0 0))
                obtain ⟨z0, z1, z2, z3, f0, f1, f2, f3⟩ := hZd.cells
                have HV0 := Lib.hid hv0
                clear hZd hbd hv0
                refine wp_region_held_drew (S := fun _ => True) (by kernel_rfl) (trivial) (fun hHeld => ?_)
                refine wpAnyH_take (i := 0) (oi := { dst := some 129, op := Go.Op.move (Go.Operand.tmp 6), type := 3, pos := "ref.go:122", after := #[], guard := none }) (v := ?vsa0) rfl (by kernel_rfl) (by kernel_rfl) (by kernel_rfl) (fun _ _ _ h => h) (Or.inl ⟨by rfl, ?hysa0⟩) hHeld ?_
                case hysa0 => (intro w hSw; (try dsimp only at hSw); go_simp; first | done | with_reducible rfl)
                try simp only [Act.put, List.setIfInBounds_toArray, List.set_cons_zero, List.set_cons_succ]
                refine wpAnyH_take (i := 1) (oi := { dst := some 130, op := Go.Op.binOp Go.BinOp.lss 3 (Go.Operand.tmp 129) (Go.Operand.const (Go.Value.int Go.IntKind.i64 0)) 3, type := 4, pos := "ref.go:122", after := #[{ on := 0, ground := Go.Ground.data }], guard := none }) (v := ?vsa1) rfl (by kernel_rfl) (by kernel_rfl) (by kernel_rfl) (fun _ _ _ h => h) (Or.inl ⟨by rfl, ?hysa1⟩) hHeld ?_
                case hysa1 => (intro w hSw; (try dsimp only at hSw); go_simp; first | done | with_reducible rfl)
                try simp only [Act.put, List.setIfInBounds_toArray, List.set_cons_zero, List.set_cons_succ]
                refine wpAnyH_take (i := 2) (oi := { dst := some 131, op := Go.Op.move (Go.Operand.tmp 130), type := 4, pos := "ref.go:122", after := #[{ on := 1, ground := Go.Ground.data }], guard := none }) (v := ?vsa2) rfl (by kernel_rfl) (by kernel_rfl) (by kernel_rfl) (fun _ _ _ h => h) (Or.inl ⟨by rfl, ?hysa2⟩) hHeld ?_
                case hysa2 => (intro w hSw; (try dsimp only at hSw); go_simp; first | done | with_reducible rfl)
                try simp only [Act.put, List.setIfInBounds_toArray, List.set_cons_zero, List.set_cons_succ]
                refine wpAnyH_take (i := 3) (oi := { dst := some 132, op := Go.Op.load 26 (Go.Operand.tmp 4), type := 26, pos := "ref.go:122", after := #[{ on := 2, ground := Go.Ground.guard }], guard := some (2, false) }) (v := undef) rfl (by kernel_rfl) (by kernel_rfl) (by kernel_rfl) (fun _ _ _ h => h) (Or.inr ⟨by rfl, rfl⟩) hHeld ?_
                try simp only [Act.put, List.setIfInBounds_toArray, List.set_cons_zero, List.set_cons_succ]
                refine wpAnyH_take (i := 4) (oi := { dst := some 133, op := Go.Op.move (Go.Operand.tmp 0), type := 30, pos := "ref.go:122", after := #[{ on := 2, ground := Go.Ground.guard }], guard := some (2, false) }) (v := undef) rfl (by kernel_rfl) (by kernel_rfl) (by kernel_rfl) (fun _ _ _ h => h) (Or.inr ⟨by rfl, rfl⟩) hHeld ?_
                try simp only [Act.put, List.setIfInBounds_toArray, List.set_cons_zero, List.set_cons_succ]
                refine wpAnyH_take (i := 5) (oi := { dst := some 134, op := Go.Op.call { callee := Go.Callee.builtin Go.Builtin.len, args := #[Go.Operand.tmp 133], argTypes := #[30] }, type := 3, pos := "ref.go:122", after := #[{ on := 4, ground := Go.Ground.data }, { on := 2, ground := Go.Ground.guard }], guard := some (2, false) }) (v := undef) rfl (by kernel_rfl) (by kernel_rfl) (by kernel_rfl) (fun _ _ _ h => h) (Or.inr ⟨by rfl, rfl⟩) hHeld ?_
                try simp only [Act.put, List.setIfInBounds_toArray, List.set_cons_zero, List.set_cons_succ]
                refine wpAnyH_take (i := 6) (oi := { dst := some 135, op := Go.Op.call { callee := Go.Callee.value (Go.Operand.func 9), args := #[Go.Operand.tmp 132, Go.Operand.tmp 134], argTypes := #[26, 3] }, type := 28, pos := "ref.go:122", after := #[{ on := 3, ground := Go.Ground.data }, { on := 5, ground := Go.Ground.data }, { on := 2, ground := Go.Ground.chain }, { on := 2, ground := Go.Ground.guard }], guard := some (2, false) }) (v := undef) rfl (by kernel_rfl) (by kernel_rfl) (by kernel_rfl) (fun _ _ _ h => h) (Or.inr ⟨by rfl, rfl⟩) hHeld ?_
                try simp only [Act.put, List.setIfInBounds_toArray, List.set_cons_zero, List.set_cons_succ]
                refine wpAnyH_take (i := 7) (oi := { dst := some 136, op := Go.Op.binOp Go.BinOp.neq 28 (Go.Operand.tmp 135) (Go.Operand.const (Go.Value.int Go.IntKind.i64 0)) 28, type := 4, pos := "ref.go:122", after := #[{ on := 6, ground := Go.Ground.data }, { on := 2, ground := Go.Ground.guard }], guard := some (2, false) }) (v := undef) rfl (by kernel_rfl) (by kernel_rfl) (by kernel_rfl) (fun _ _ _ h => h) (Or.inr ⟨by rfl, rfl⟩) hHeld ?_
                try simp only [Act.put, List.setIfInBounds_toArray, List.set_cons_zero, List.set_cons_succ]
                refine wpAnyH_take (i := 8) (oi := { dst := some 137, op := Go.Op.pick (Go.Operand.tmp 131) (Go.Operand.const (Go.Value.bool true)) (Go.Operand.tmp 136), type := 4, pos := "ref.go:122", after := #[{ on := 2, ground := Go.Ground.data }, { on := 7, ground := Go.Ground.data }], guard := none }) (v := ?vsa8) rfl (by kernel_rfl) (by kernel_rfl) (by kernel_rfl) (fun _ _ _ h => h) (Or.inl ⟨by rfl, ?hysa8⟩) hHeld ?_
                case hysa8 => (intro w hSw; (try dsimp only at hSw); go_simp; first | done | with_reducible rfl)
                try simp only [Act.put, List.setIfInBounds_toArray, List.set_cons_zero, List.set_cons_succ]
                refine wpAnyH_take (i := 9) (oi := { dst := some 138, op := Go.Op.move (Go.Operand.tmp 137), type := 4, pos := "ref.go:122", after := #[{ on := 8, ground := Go.Ground.data }, { on := 6, ground := Go.Ground.chain }], guard := none }) (v := ?vsa9) rfl (by kernel_rfl) (by kernel_rfl) (by kernel_rfl) (fun _ _ _ h => h) (Or.inl ⟨by rfl, ?hysa9⟩) hHeld ?_
                case hysa9 => (intro w hSw; (try dsimp only at hSw); go_simp; first | done | with_reducible rfl)
                try simp only [Act.put, List.setIfInBounds_toArray, List.set_cons_zero, List.set_cons_succ]
                refine wpAnyH_take (i := 10) (oi := { dst := some 139, op := Go.Op.load 26 (Go.Operand.tmp 4), type := 26, pos := "ref.go:122", after := #[{ on := 9, ground := Go.Ground.guard }], guard := some (9, false) }) (v := undef) rfl (by kernel_rfl) (by kernel_rfl) (by kernel_rfl) (fun _ _ _ h => h) (Or.inr ⟨by rfl, rfl⟩) hHeld ?_
                try simp only [Act.put, List.setIfInBounds_toArray, List.set_cons_zero, List.set_cons_succ]
                refine wpAnyH_take (i := 11) (oi := { dst := some 140, op := Go.Op.move (Go.Operand.tmp 0), type := 30, pos := "ref.go:122", after := #[{ on := 9, ground := Go.Ground.guard }], guard := some (9, false) }) (v := undef) rfl (by kernel_rfl) (by kernel_rfl) (by kernel_rfl) (fun _ _ _ h => h) (Or.inr ⟨by rfl, rfl⟩) hHeld ?_
                try simp only [Act.put, List.setIfInBounds_toArray, List.set_cons_zero, List.set_cons_succ]
                refine wpAnyH_take (i := 12) (oi := { dst := some 141, op := Go.Op.call { callee := Go.Callee.builtin Go.Builtin.len, args := #[Go.Operand.tmp 140], argTypes := #[30] }, type := 3, pos := "ref.go:122", after := #[{ on := 11, ground := Go.Ground.data }, { on := 9, ground := Go.Ground.guard }], guard := some (9, false) }) (v := undef) rfl (by kernel_rfl) (by kernel_rfl) (by kernel_rfl) (fun _ _ _ h => h) (Or.inr ⟨by rfl, rfl⟩) hHeld ?_
                try simp only [Act.put, List.setIfInBounds_toArray, List.set_cons_zero, List.set_cons_succ]
                refine wpAnyH_take (i := 13) (oi := { dst := some 142, op := Go.Op.call { callee := Go.Callee.value (Go.Operand.func 18), args := #[Go.Operand.tmp 139, Go.Operand.tmp 141], argTypes := #[26, 3] }, type := 30, pos := "ref.go:122", after := #[{ on := 10, ground := Go.Ground.data }, { on := 12, ground := Go.Ground.data }, { on := 9, ground := Go.Ground.chain }, { on := 9, ground := Go.Ground.guard }], guard := some (9, false) }) (v := undef) rfl (by kernel_rfl) (by kernel_rfl) (by kernel_rfl) (fun _ _ _ h => h) (Or.inr ⟨by rfl, rfl⟩) hHeld ?_
                try simp only [Act.put, List.setIfInBounds_toArray, List.set_cons_zero, List.set_cons_succ]
                refine wpAnyH_take (i := 14) (oi := { dst := some 143, op := Go.Op.convert 30 9 (Go.Operand.tmp 142), type := 9, pos := "ref.go:122", after := #[{ on := 13, ground := Go.Ground.data }, { on := 9, ground := Go.Ground.guard }], guard := some (9, false) }) (v := undef) rfl (by kernel_rfl) (by kernel_rfl) (by kernel_rfl) (fun _ _ _ h => h) (Or.inr ⟨by rfl, rfl⟩) hHeld ?_
                try simp only [Act.put, List.setIfInBounds_toArray, List.set_cons_zero, List.set_cons_succ]
                refine wpAnyH_take (i := 15) (oi := { dst := some 144, op := Go.Op.move (Go.Operand.tmp 0), type := 30, pos := "ref.go:122", after := #[{ on := 9, ground := Go.Ground.guard }], guard := some (9, false) }) (v := undef) rfl (by kernel_rfl) (by kernel_rfl) (by kernel_rfl) (fun _ _ _ h => h) (Or.inr ⟨by rfl, rfl⟩) hHeld ?_
                try simp only [Act.put, List.setIfInBounds_toArray, List.set_cons_zero, List.set_cons_succ]
                refine wpAnyH_take (i := 16) (oi := { dst := some 145, op := Go.Op.convert 30 9 (Go.Operand.tmp 144), type := 9, pos := "ref.go:122", after := #[{ on := 15, ground := Go.Ground.data }, { on := 9, ground := Go.Ground.guard }], guard := some (9, false) }) (v := undef) rfl (by kernel_rfl) (by kernel_rfl) (by kernel_rfl) (fun _ _ _ h => h) (Or.inr ⟨by rfl, rfl⟩) hHeld ?_
                try simp only [Act.put, List.setIfInBounds_toArray, List.set_cons_zero, List.set_cons_succ]
                refine wpAnyH_take (i := 17) (oi := { dst := some 146, op := Go.Op.binOp Go.BinOp.neq 9 (Go.Operand.tmp 143) (Go.Operand.tmp 145) 9, type := 4, pos := "ref.go:122", after := #[{ on := 14, ground := Go.Ground.data }, { on := 16, ground := Go.Ground.data }, { on := 9, ground := Go.Ground.guard }], guard := some (9, false) }) (v := undef) rfl (by kernel_rfl) (by kernel_rfl) (by kernel_rfl) (fun _ _ _ h => h) (Or.inr ⟨by rfl, rfl⟩) hHeld ?_
                try simp only [Act.put, List.setIfInBounds_toArray, List.set_cons_zero, List.set_cons_succ]
                refine wpAnyH_take (i := 18) (oi := { dst := some 147, op := Go.Op.pick (Go.Operand.tmp 138) (Go.Operand.const (Go.Value.bool true)) (Go.Operand.tmp 146), type := 4, pos := "ref.go:122", after := #[{ on := 9, ground := Go.Ground.data }, { on := 17, ground := Go.Ground.data }], guard := none }) (v := ?vsa18) rfl (by kernel_rfl) (by kernel_rfl) (by kernel_rfl) (fun _ _ _ h => h) (Or.inl ⟨by rfl, ?hysa18⟩) hHeld ?_
                case hysa18 => (intro w hSw; (try dsimp only at hSw); go_simp; first | done | with_reducible rfl)
                try simp only [Act.put, List.setIfInBounds_toArray, List.set_cons_zero, List.set_cons_succ]
                refine wpAnyH_done (by kernel_rfl) ?_ _
                clear hHeld
                rw [HV0.out]
                go_wp2
                exact bodyPost_ret (results_cell2 (P := Try.prog) (fn := Try.f20) rfl _ _ rfl (run_loadVar_row _ g 26 26 _ (0, 0) _ HZE.out.row Try.underlying26 rfl (by kernel_rfl))) rfl HE.out
              | false =>
                have hge0 : ¬ ai < 0 := fun h => by have := hneg.1 h; cases this
                have hge1 : 0 ≤ ai := by omega
                obtain ⟨k0, hk0, hdk0⟩ := HTL.out rfl
                have HTX := Lib.hid (rText_any wr _ n c b HRr.out hn (l3, false) (fun _ => ⟨k0, by rw [← HL.out]; exact hk0, hdk0⟩))
                have htl2 := HTL.out.txt
                obtain ⟨x, hx⟩ : ∃ x, (stTxt (l3, false)).1 = x := ⟨_, rfl⟩
                obtain ⟨s2, hs2⟩ : ∃ s2, (stTxt (l3, false)).2 = s2 := ⟨_, rfl⟩
                rw [hai, hx, hs2] at HTX
                rw [hs2] at htl2
                have HTL2 := Lib.hid htl2
                have HNEW : Hid (kys (m + 1) s1 = (KS ++ [x], s2)) := by
                  show kys (m + 1) s1 = _
                  rw [kys_step m _ (by rw [HP.out]), HP.out, hx, hs2]
                have hszx : x.size ≤ 255 := by rw [← hx]; exact stTxt_size _
                have HPSZ2 : Hid (∀ p ∈ KS ++ [x], p.size ≤ maxLen) := fun p hp => by
                  rcases List.mem_append.1 hp with h | h
                  · exact Nat.le_trans (HPSZ.out p h) (by unfold maxLen; omega)
                  · obtain rfl := List.mem_singleton.1 h
                    unfold maxLen; omega
                have hl100 : KS.length ≤ 100000 := by rw [HLEN.out]; omega
                obtain ⟨a2, ha2⟩ : ∃ a2, atI n s2 = a2 := ⟨_, rfl⟩
                rw [ha2] at HTX
                have HA2 := Lib.hid ha2
                obtain ⟨v', w7, hrun, c7, f7, MO8, FR8⟩ := Mo.appK HMOr.out (by show _ ≤ 100000; omega) x
                obtain ⟨X, hX⟩ : ∃ X, wr.alloc (.cells #[.string x] 9) = X := ⟨_, rfl⟩
                rw [hX] at hrun
                obtain ⟨A', c', hv', _⟩ := rdS_own MO8.k HPSZ2.out
                subst hv'
                have HMO8 := Lib.hid MO8
                have HFR8 : Hid (Below (g + 1) W0 _) := HBr.out.trans (FR8.below (fun k hk => hk) (by have := HMOr.out.bs; omega))
                obtain ⟨m', hm'⟩ : ∃ m', (KS ++ [x]).length = m' := ⟨_, rfl⟩
                rw [hm'] at hrun HMO8 HFR8
                have HRUN := Lib.hid hrun
                obtain ⟨d0, d1, d2, d3, df⟩ := HMOr.out.cells
                rw [hai]
                clear df hx hs2 ha2 hk0 hdk0 hneg hai MO8 FR8 hrun hm' htl2 HFIN
                go_wp2_with fail
                refine HTX.out.mono ?_
                rintro e wq ⟨rfl, rfl⟩
                go_wp2_with (at_builtin; refine wpList_runN _ rfl (.tmp 109) (.tmp 111) 23 23 rfl rfl _ _ _ _ rfl rfl HRUN.out ?_)
                go_roundw
                case rel => exact ⟨m + 1, _, KS ++ [x], s2, HNEW.out, by omega, by rw [List.length_append, HLEN.out]; rfl, by go_num, by rw [HA2.out], HTL2.out, HMO8.out, HFR8.out⟩
                case measure => simp [intOf]; omega
            · have he : kys ct s1 = (KS, (l3, sh)) := by
                rw [show ct = m by omega]
                exact HP.out
              obtain ⟨N, hN⟩ : ∃ N, (⟨false, [], KS, CS⟩ : Nd) = N := ⟨_, rfl⟩
              have HNR : Hid ((rdN b).1 = N) := (HFIN.out he).1.trans hN
              have HST := Lib.hid (HFIN.out he).2
              have HLF : Hid (N.leaf = false) := by show N.leaf = false; rw [← hN]
              rw [hN] at HMOr HNDr
              rw [hai]
              cases sh with
              | true =>
                have hlt0 : ai < 0 := hneg.2 rfl
                have HNO : Hid (¬ okP b) := fun h => by have := h.2.1; rw [HST.out] at this; cases this
                clear he hneg hai hN HFIN
                go_wp2_with fail
                obtain ⟨v0, hv0⟩ : ∃ v0, wr.drew = v0 := ⟨_, rfl⟩
                have hZd : Zb v0 g (.bool false) (.slice none 0 0) (.slice none 0 0) (.slice none 0 0) := by rw [← hv0]; exact ⟨HMOr.out.zero⟩
                have hbd : Below g w v0 := by rw [← hv0]; exact HB0.out.trans ((HBr.out.drew).mono (by omega))
                have HE := Lib.hid (HERR.out v0 hZd hbd HNO.out)
                have HZE := Lib.hid (hZd.set4 (.bool false) (.slice none 0 0) (.slice none 0 0) (.slice none 0 0))
                obtain ⟨z0, z1, z2, z3, f0, f1, f2, f3⟩ := hZd.cells
                have HV0 := Lib.hid hv0
                clear hZd hbd hv0
                refine wp_region_held_drew (S := fun _ => True) (by kernel_rfl) (trivial) (fun hHeld => ?_)
                refine wpAnyH_take (i := 0) (oi := { dst := some 129, op := Go.Op.move (Go.Operand.tmp 6), type := 3, pos := "ref.go:122", after := #[], guard := none }) (v := ?vsb0) rfl (by kernel_rfl) (by kernel_rfl) (by kernel_rfl) (fun _ _ _ h => h) (Or.inl ⟨by rfl, ?hysb0⟩) hHeld ?_
                case hysb0 => (intro w hSw; (try dsimp only at hSw); go_simp; first | done | with_reducible rfl)
                try simp only [Act.put, List.setIfInBounds_toArray, List.set_cons_zero, List.set_cons_succ]
                refine wpAnyH_take (i := 1) (oi := { dst := some 130, op := Go.Op.binOp Go.BinOp.lss 3 (Go.Operand.tmp 129) (Go.Operand.const (Go.Value.int Go.IntKind.i64 0)) 3, type := 4, pos := "ref.go:122", after := #[{ on := 0, ground := Go.Ground.data }], guard := none }) (v := ?vsb1) rfl (by kernel_rfl) (by kernel_rfl) (by kernel_rfl) (fun _ _ _ h => h) (Or.inl ⟨by rfl, ?hysb1⟩) hHeld ?_
                case hysb1 => (intro w hSw; (try dsimp only at hSw); go_simp; first | done | with_reducible rfl)
                try simp only [Act.put, List.setIfInBounds_toArray, List.set_cons_zero, List.set_cons_succ]
                refine wpAnyH_take (i := 2) (oi := { dst := some 131, op := Go.Op.move (Go.Operand.tmp 130), type := 4, pos := "ref.go:122", after := #[{ on := 1, ground := Go.Ground.data }], guard := none }) (v := ?vsb2) rfl (by kernel_rfl) (by kernel_rfl) (by kernel_rfl) (fun _ _ _ h => h) (Or.inl ⟨by rfl, ?hysb2⟩) hHeld ?_
                case hysb2 => (intro w hSw; (try dsimp only at hSw); go_simp; first | done | with_reducible rfl)
                try simp only [Act.put, List.setIfInBounds_toArray, List.set_cons_zero, List.set_cons_succ]
                refine wpAnyH_take (i := 3) (oi := { dst := some 132, op := Go.Op.load 26 (Go.Operand.tmp 4), type := 26, pos := "ref.go:122", after := #[{ on := 2, ground := Go.Ground.guard }], guard := some (2, false) }) (v := undef) rfl (by kernel_rfl) (by kernel_rfl) (by kernel_rfl) (fun _ _ _ h => h) (Or.inr ⟨by rfl, rfl⟩) hHeld ?_
                try simp only [Act.put, List.setIfInBounds_toArray, List.set_cons_zero, List.set_cons_succ]
                refine wpAnyH_take (i := 4) (oi := { dst := some 133, op := Go.Op.move (Go.Operand.tmp 0), type := 30, pos := "ref.go:122", after := #[{ on := 2, ground := Go.Ground.guard }], guard := some (2, false) }) (v := undef) rfl (by kernel_rfl) (by kernel_rfl) (by kernel_rfl) (fun _ _ _ h => h) (Or.inr ⟨by rfl, rfl⟩) hHeld ?_
                try simp only [Act.put, List.setIfInBounds_toArray, List.set_cons_zero, List.set_cons_succ]
                refine wpAnyH_take (i := 5) (oi := { dst := some 134, op := Go.Op.call { callee := Go.Callee.builtin Go.Builtin.len, args := #[Go.Operand.tmp 133], argTypes := #[30] }, type := 3, pos := "ref.go:122", after := #[{ on := 4, ground := Go.Ground.data }, { on := 2, ground := Go.Ground.guard }], guard := some (2, false) }) (v := undef) rfl (by kernel_rfl) (by kernel_rfl) (by kernel_rfl) (fun _ _ _ h => h) (Or.inr ⟨by rfl, rfl⟩) hHeld ?_
                try simp only [Act.put, List.setIfInBounds_toArray, List.set_cons_zero, List.set_cons_succ]
                refine wpAnyH_take (i := 6) (oi := { dst := some 135, op := Go.Op.call { callee := Go.Callee.value (Go.Operand.func 9), args := #[Go.Operand.tmp 132, Go.Operand.tmp 134], argTypes := #[26, 3] }, type := 28, pos := "ref.go:122", after := #[{ on := 3, ground := Go.Ground.data }, { on := 5, ground := Go.Ground.data }, { on := 2, ground := Go.Ground.chain }, { on := 2, ground := Go.Ground.guard }], guard := some (2, false) }) (v := undef) rfl (by kernel_rfl) (by kernel_rfl) (by kernel_rfl) (fun _ _ _ h => h) (Or.inr ⟨by rfl, rfl⟩) hHeld ?_
                try simp only [Act.put, List.setIfInBounds_toArray, List.set_cons_zero, List.set_cons_succ]
                refine wpAnyH_take (i := 7) (oi := { dst := some 136, op := Go.Op.binOp Go.BinOp.neq 28 (Go.Operand.tmp 135) (Go.Operand.const (Go.Value.int Go.IntKind.i64 0)) 28, type := 4, pos := "ref.go:122", after := #[{ on := 6, ground := Go.Ground.data }, { on := 2, ground := Go.Ground.guard }], guard := some (2, false) }) (v := undef) rfl (by kernel_rfl) (by kernel_rfl) (by kernel_rfl) (fun _ _ _ h => h) (Or.inr ⟨by rfl, rfl⟩) hHeld ?_
                try simp only [Act.put, List.setIfInBounds_toArray, List.set_cons_zero, List.set_cons_succ]
                refine wpAnyH_take (i := 8) (oi := { dst := some 137, op := Go.Op.pick (Go.Operand.tmp 131) (Go.Operand.const (Go.Value.bool true)) (Go.Operand.tmp 136), type := 4, pos := "ref.go:122", after := #[{ on := 2, ground := Go.Ground.data }, { on := 7, ground := Go.Ground.data }], guard := none }) (v := ?vsb8) rfl (by kernel_rfl) (by kernel_rfl) (by kernel_rfl) (fun _ _ _ h => h) (Or.inl ⟨by rfl, ?hysb8⟩) hHeld ?_
                case hysb8 => (intro w hSw; (try dsimp only at hSw); go_simp; first | done | with_reducible rfl)
                try simp only [Act.put, List.setIfInBounds_toArray, List.set_cons_zero, List.set_cons_succ]
                refine wpAnyH_take (i := 9) (oi := { dst := some 138, op := Go.Op.move (Go.Operand.tmp 137), type := 4, pos := "ref.go:122", after := #[{ on := 8, ground := Go.Ground.data }, { on := 6, ground := Go.Ground.chain }], guard := none }) (v := ?vsb9) rfl (by kernel_rfl) (by kernel_rfl) (by kernel_rfl) (fun _ _ _ h => h) (Or.inl ⟨by rfl, ?hysb9⟩) hHeld ?_
                case hysb9 => (intro w hSw; (try dsimp only at hSw); go_simp; first | done | with_reducible rfl)
                try simp only [Act.put, List.setIfInBounds_toArray, List.set_cons_zero, List.set_cons_succ]
                refine wpAnyH_take (i := 10) (oi := { dst := some 139, op := Go.Op.load 26 (Go.Operand.tmp 4), type := 26, pos := "ref.go:122", after := #[{ on := 9, ground := Go.Ground.guard }], guard := some (9, false) }) (v := undef) rfl (by kernel_rfl) (by kernel_rfl) (by kernel_rfl) (fun _ _ _ h => h) (Or.inr ⟨by rfl, rfl⟩) hHeld ?_
                try simp only [Act.put, List.setIfInBounds_toArray, List.set_cons_zero, List.set_cons_succ]
                refine wpAnyH_take (i := 11) (oi := { dst := some 140, op := Go.Op.move (Go.Operand.tmp 0), type := 30, pos := "ref.go:122", after := #[{ on := 9, ground := Go.Ground.guard }], guard := some (9, false) }) (v := undef) rfl (by kernel_rfl) (by kernel_rfl) (by kernel_rfl) (fun _ _ _ h => h) (Or.inr ⟨by rfl, rfl⟩) hHeld ?_
                try simp only [Act.put, List.setIfInBounds_toArray, List.set_cons_zero, List.set_cons_succ]
                refine wpAnyH_take (i := 12) (oi := { dst := some 141, op := Go.Op.call { callee := Go.Callee.builtin Go.Builtin.len, args := #[Go.Operand.tmp 140], argTypes := #[30] }, type := 3, pos := "ref.go:122", after := #[{ on := 11, ground := Go.Ground.data }, { on := 9, ground := Go.Ground.guard }], guard := some (9, false) }) (v := undef) rfl (by kernel_rfl) (by kernel_rfl) (by kernel_rfl) (fun _ _ _ h => h) (Or.inr ⟨by rfl, rfl⟩) hHeld ?_
                try simp only [Act.put, List.setIfInBounds_toArray, List.set_cons_zero, List.set_cons_succ]
                refine wpAnyH_take (i := 13) (oi := { dst := some 142, op := Go.Op.call { callee := Go.Callee.value (Go.Operand.func 18), args := #[Go.Operand.tmp 139, Go.Operand.tmp 141], argTypes := #[26, 3] }, type := 30, pos := "ref.go:122", after := #[{ on := 10, ground := Go.Ground.data }, { on := 12, ground := Go.Ground.data }, { on := 9, ground := Go.Ground.chain }, { on := 9, ground := Go.Ground.guard }], guard := some (9, false) }) (v := undef) rfl (by kernel_rfl) (by kernel_rfl) (by kernel_rfl) (fun _ _ _ h => h) (Or.inr ⟨by rfl, rfl⟩) hHeld ?_
                try simp only [Act.put, List.setIfInBounds_toArray, List.set_cons_zero, List.set_cons_succ]
                refine wpAnyH_take (i := 14) (oi := { dst := some 143, op := Go.Op.convert 30 9 (Go.Operand.tmp 142), type := 9, pos := "ref.go:122", after := #[{ on := 13, ground := Go.Ground.data }, { on := 9, ground := Go.Ground.guard }], guard := some (9, false) }) (v := undef) rfl (by kernel_rfl) (by kernel_rfl) (by kernel_rfl) (fun _ _ _ h => h) (Or.inr ⟨by rfl, rfl⟩) hHeld ?_
                try simp only [Act.put, List.setIfInBounds_toArray, List.set_cons_zero, List.set_cons_succ]
                refine wpAnyH_take (i := 15) (oi := { dst := some 144, op := Go.Op.move (Go.Operand.tmp 0), type := 30, pos := "ref.go:122", after := #[{ on := 9, ground := Go.Ground.guard }], guard := some (9, false) }) (v := undef) rfl (by kernel_rfl) (by kernel_rfl) (by kernel_rfl) (fun _ _ _ h => h) (Or.inr ⟨by rfl, rfl⟩) hHeld ?_
                try simp only [Act.put, List.setIfInBounds_toArray, List.set_cons_zero, List.set_cons_succ]
                refine wpAnyH_take (i := 16) (oi := { dst := some 145, op := Go.Op.convert 30 9 (Go.Operand.tmp 144), type := 9, pos := "ref.go:122", after := #[{ on := 15, ground := Go.Ground.data }, { on := 9, ground := Go.Ground.guard }], guard := some (9, false) }) (v := undef) rfl (by kernel_rfl) (by kernel_rfl) (by kernel_rfl) (fun _ _ _ h => h) (Or.inr ⟨by rfl, rfl⟩) hHeld ?_
                try simp only [Act.put, List.setIfInBounds_toArray, List.set_cons_zero, List.set_cons_succ]
                refine wpAnyH_take (i := 17) (oi := { dst := some 146, op := Go.Op.binOp Go.BinOp.neq 9 (Go.Operand.tmp 143) (Go.Operand.tmp 145) 9, type := 4, pos := "ref.go:122", after := #[{ on := 14, ground := Go.Ground.data }, { on := 16, ground := Go.Ground.data }, { on := 9, ground := Go.Ground.guard }], guard := some (9, false) }) (v := undef) rfl (by kernel_rfl) (by kernel_rfl) (by kernel_rfl) (fun _ _ _ h => h) (Or.inr ⟨by rfl, rfl⟩) hHeld ?_
                try simp only [Act.put, List.setIfInBounds_toArray, List.set_cons_zero, List.set_cons_succ]
                refine wpAnyH_take (i := 18) (oi := { dst := some 147, op := Go.Op.pick (Go.Operand.tmp 138) (Go.Operand.const (Go.Value.bool true)) (Go.Operand.tmp 146), type := 4, pos := "ref.go:122", after := #[{ on := 9, ground := Go.Ground.data }, { on := 17, ground := Go.Ground.data }], guard := none }) (v := ?vsb18) rfl (by kernel_rfl) (by kernel_rfl) (by kernel_rfl) (fun _ _ _ h => h) (Or.inl ⟨by rfl, ?hysb18⟩) hHeld ?_
                case hysb18 => (intro w hSw; (try dsimp only at hSw); go_simp; first | done | with_reducible rfl)
                try simp only [Act.put, List.setIfInBounds_toArray, List.set_cons_zero, List.set_cons_succ]
                refine wpAnyH_done (by kernel_rfl) ?_ _
                clear hHeld
                rw [HV0.out]
                go_wp2
                exact bodyPost_ret (results_cell2 (P := Try.prog) (fn := Try.f20) rfl _ _ rfl (run_loadVar_row _ g 26 26 _ (0, 0) _ HZE.out.row Try.underlying26 rfl (by kernel_rfl))) rfl HE.out
              | false =>
                have hge0 : ¬ ai < 0 := fun h => by have := hneg.1 h; cases this
                have hdl : decide (ai < 0) = false := decide_eq_false hge0
                clear he hneg hai hN HFIN
                go_wp2_with fail
                have HF7 : Hid (N.Few 7000) := by
                  have := rdN_few b (by rw [HL.out]; exact hn) (by rw [HST.out])
                  rw [HNR.out] at this; exact this
                obtain ⟨SB, hSB⟩ : ∃ SB : ByteArray, ⟨b.toArray⟩ = SB := ⟨_, rfl⟩
                have HBd_v0 : Hid (Below wr.heap.size wr wr.drew) := (Below.refl _ _).drew
                have HSW : Hid (∀ W, Below wr.heap.size wr W → (W.cell? ⟨g + 1, 0, none⟩ = some (.bool false) ∧ W.cell? ⟨g + 1, 1, none⟩ = some (.slice none 0 0) ∧ W.cell? ⟨g + 1, 2, none⟩ = some (.slice A1 m cb1) ∧ W.cell? ⟨g + 1, 3, none⟩ = some (.slice A j c1)) ∧ (convert 30 9 (.slice (some ⟨q, o, none⟩) n c)).run Try.prog W = .ok (.string SB) W) := fun W hW => by
                  have h1 := (HMOr.out.keep hW).cells
                  refine ⟨⟨h1.1, h1.2.1, h1.2.2.1, h1.2.2.2.1⟩, ?_⟩
                  rw [← hSB]
                  exact string_rd W _ _ _ _ ((HRW.out.keep (by rw [hs0]; exact HBr.out)).keep hW)
                have HSB := Lib.hid hSB
                have HCK := Lib.hid (rCheck_any wr.drew ⟨none, 0, 0, A1, m, cb1, A, j, c1⟩ N (HNDr.out.keep HBd_v0.out) HF7.out (n : Int))
                simp only [nv, ncs] at HCK
                rw [HLF.out] at HCK
                obtain ⟨R, hR⟩ : ∃ R, N.chk (n : Int) = R := ⟨_, rfl⟩
                rw [hR] at HCK
                have HR := Lib.hid hR
                clear hSB hR
                by_cases hR0 : R = 0
                · subst hR0
                  have HR0 : Hid (N.chk (n : Int) = 0) := HR.out
                  obtain ⟨SX, hSX⟩ : ∃ SX : ByteArray, ⟨(N.body ++ zeros (n - N.body.length)).toArray⟩ = SX := ⟨_, rfl⟩
                  have HSX := Lib.hid hSX
                  obtain ⟨al, hal⟩ : ∃ al, l3.all (· == 0) = al := ⟨_, rfl⟩
                  have hlb : b = N.body ++ l3 := by have := (rdN_back b (.inr HK1.out) (by rw [HST.out])).1; rw [HNR.out, HST.out] at this; exact this
                  have heq : (SX.toList == SB.toList) = al := by
                    have hn3 : n - N.body.length = l3.length := by have := congrArg List.length hlb; rw [HL.out, List.length_append] at this; omega
                    rw [← hSX, ← HSB.out, ByteArray.toList_eq, ByteArray.toList_eq, hn3, ← hal]
                    cases hA : l3.all (· == 0) with
                    | true => rw [hlb, ← all_zeros l3 hA]; simp
                    | false =>
                      rw [beq_eq_false_iff_ne]
                      intro h
                      rw [hlb] at h
                      have h2 : zeros l3.length = l3 := by simpa using h
                      rw [← h2] at hA
                      simp [zeros] at hA
                  have hneq : (SX.toList != SB.toList) = !al := by rw [bne, heq]
                  have HAL := Lib.hid hal
                  clear hSX hal hlb
                  go_wp2_with fail
                  refine wp_region_held_drew (S := fun W => (W.cell? ⟨g + 1, 0, none⟩ = some (.bool false) ∧ W.cell? ⟨g + 1, 1, none⟩ = some (.slice none 0 0) ∧ W.cell? ⟨g + 1, 2, none⟩ = some (.slice A1 m cb1) ∧ W.cell? ⟨g + 1, 3, none⟩ = some (.slice A j c1)) ∧ (convert 30 9 (.slice (some ⟨q, o, none⟩) n c)).run Try.prog W = .ok (.string SB) W) (by kernel_rfl) (HSW.out wr.drew HBd_v0.out) (fun hHeld => ?_)
                  refine wpAnyH_take (i := 0) (oi := { dst := some 129, op := Go.Op.move (Go.Operand.tmp 6), type := 3, pos := "ref.go:122", after := #[], guard := none }) (v := ?vscy0) rfl (by kernel_rfl) (by kernel_rfl) (by kernel_rfl) (fun _ _ _ h => h) (Or.inl ⟨by rfl, ?hyscy0⟩) hHeld ?_
                  case hyscy0 => (intro w hSw; (try dsimp only at hSw); go_simp; first | done | with_reducible rfl)
                  try simp only [Act.put, List.setIfInBounds_toArray, List.set_cons_zero, List.set_cons_succ]
                  refine wpAnyH_take (i := 1) (oi := { dst := some 130, op := Go.Op.binOp Go.BinOp.lss 3 (Go.Operand.tmp 129) (Go.Operand.const (Go.Value.int Go.IntKind.i64 0)) 3, type := 4, pos := "ref.go:122", after := #[{ on := 0, ground := Go.Ground.data }], guard := none }) (v := ?vscy1) rfl (by kernel_rfl) (by kernel_rfl) (by kernel_rfl) (fun _ _ _ h => h) (Or.inl ⟨by rfl, ?hyscy1⟩) hHeld ?_
                  case hyscy1 => (intro w hSw; (try dsimp only at hSw); go_simp; first | done | with_reducible rfl)
                  try simp only [Act.put, List.setIfInBounds_toArray, List.set_cons_zero, List.set_cons_succ]
                  refine wpAnyH_take (i := 2) (oi := { dst := some 131, op := Go.Op.move (Go.Operand.tmp 130), type := 4, pos := "ref.go:122", after := #[{ on := 1, ground := Go.Ground.data }], guard := none }) (v := ?vscy2) rfl (by kernel_rfl) (by kernel_rfl) (by kernel_rfl) (fun _ _ _ h => h) (Or.inl ⟨by rfl, ?hyscy2⟩) hHeld ?_
                  case hyscy2 => (intro w hSw; (try dsimp only at hSw); go_simp; first | done | with_reducible rfl)
                  try simp only [Act.put, List.setIfInBounds_toArray, List.set_cons_zero, List.set_cons_succ]
                  refine wpAnyH_take (i := 3) (oi := { dst := some 132, op := Go.Op.load 26 (Go.Operand.tmp 4), type := 26, pos := "ref.go:122", after := #[{ on := 2, ground := Go.Ground.guard }], guard := some (2, false) }) (v := ?vscy3) rfl (by kernel_rfl) (by kernel_rfl) (by kernel_rfl) (fun _ _ _ h => h) (Or.inl ⟨by rfl, ?hyscy3⟩) hHeld ?_
                  case hyscy3 => (intro w hSw; (try dsimp only at hSw); go_simp; first | done | with_reducible rfl)
                  try simp only [Act.put, List.setIfInBounds_toArray, List.set_cons_zero, List.set_cons_succ]
                  refine wpAnyH_take (i := 4) (oi := { dst := some 133, op := Go.Op.move (Go.Operand.tmp 0), type := 30, pos := "ref.go:122", after := #[{ on := 2, ground := Go.Ground.guard }], guard := some (2, false) }) (v := ?vscy4) rfl (by kernel_rfl) (by kernel_rfl) (by kernel_rfl) (fun _ _ _ h => h) (Or.inl ⟨by rfl, ?hyscy4⟩) hHeld ?_
                  case hyscy4 => (intro w hSw; (try dsimp only at hSw); go_simp; first | done | with_reducible rfl)
                  try simp only [Act.put, List.setIfInBounds_toArray, List.set_cons_zero, List.set_cons_succ]
                  refine wpAnyH_take (i := 5) (oi := { dst := some 134, op := Go.Op.call { callee := Go.Callee.builtin Go.Builtin.len, args := #[Go.Operand.tmp 133], argTypes := #[30] }, type := 3, pos := "ref.go:122", after := #[{ on := 4, ground := Go.Ground.data }, { on := 2, ground := Go.Ground.guard }], guard := some (2, false) }) (v := ?vscy5) rfl (by kernel_rfl) (by kernel_rfl) (by kernel_rfl) (fun _ _ _ h => h) (Or.inl ⟨by rfl, ?hyscy5⟩) hHeld ?_
                  case hyscy5 => (intro w hSw; (try dsimp only at hSw); go_simp; first | done | with_reducible rfl)
                  try simp only [Act.put, List.setIfInBounds_toArray, List.set_cons_zero, List.set_cons_succ]
                  refine wpAnyH_ready (rs := [6]) (by kernel_rfl) (by simp) ?_
                  refine AllReadyH.cons (o := { dst := some 135, op := Go.Op.call { callee := Go.Callee.value (Go.Operand.func 9), args := #[Go.Operand.tmp 132, Go.Operand.tmp 134], argTypes := #[26, 3] }, type := 28, pos := "ref.go:122", after := #[{ on := 3, ground := Go.Ground.data }, { on := 5, ground := Go.Ground.data }, { on := 2, ground := Go.Ground.chain }, { on := 2, ground := Go.Ground.guard }], guard := some (2, false) }) rfl (fun K hK => ?_) AllReadyH.nil
                  go_simp
                  refine HCK.out.mono ?_
                  rintro e v5 ⟨rfl, hb5⟩
                  have HBd_v5 : Hid (Below wr.heap.size wr v5) := HBd_v0.out.trans hb5
                  have HBY := Lib.hid (rBytes_any v5 ⟨none, 0, 0, A1, m, cb1, A, j, c1⟩ N (HNDr.out.keep HBd_v5.out) HF7.out n HR0.out)
                  simp only [nv, ncs] at HBY
                  rw [HLF.out] at HBY
                  clear hb5
                  go_wp2_with fail
                  refine hK.out _ _ (HSW.out v5 HBd_v5.out) (fun hHeld => ?_)
                  clear hK K
                  try simp only [Act.put, List.setIfInBounds_toArray, List.set_cons_zero, List.set_cons_succ]
                  refine wpAnyH_take (i := 7) (oi := { dst := some 136, op := Go.Op.binOp Go.BinOp.neq 28 (Go.Operand.tmp 135) (Go.Operand.const (Go.Value.int Go.IntKind.i64 0)) 28, type := 4, pos := "ref.go:122", after := #[{ on := 6, ground := Go.Ground.data }, { on := 2, ground := Go.Ground.guard }], guard := some (2, false) }) (v := ?vscy7) rfl (by kernel_rfl) (by kernel_rfl) (by kernel_rfl) (fun _ _ _ h => h) (Or.inl ⟨by rfl, ?hyscy7⟩) hHeld ?_
                  case hyscy7 => (intro w hSw; (try dsimp only at hSw); go_simp; first | done | with_reducible rfl)
                  try simp only [Act.put, List.setIfInBounds_toArray, List.set_cons_zero, List.set_cons_succ]
                  refine wpAnyH_take (i := 8) (oi := { dst := some 137, op := Go.Op.pick (Go.Operand.tmp 131) (Go.Operand.const (Go.Value.bool true)) (Go.Operand.tmp 136), type := 4, pos := "ref.go:122", after := #[{ on := 2, ground := Go.Ground.data }, { on := 7, ground := Go.Ground.data }], guard := none }) (v := ?vscy8) rfl (by kernel_rfl) (by kernel_rfl) (by kernel_rfl) (fun _ _ _ h => h) (Or.inl ⟨by rfl, ?hyscy8⟩) hHeld ?_
                  case hyscy8 => (intro w hSw; (try dsimp only at hSw); go_simp; first | done | with_reducible rfl)
                  try simp only [Act.put, List.setIfInBounds_toArray, List.set_cons_zero, List.set_cons_succ]
                  refine wpAnyH_take (i := 9) (oi := { dst := some 138, op := Go.Op.move (Go.Operand.tmp 137), type := 4, pos := "ref.go:122", after := #[{ on := 8, ground := Go.Ground.data }, { on := 6, ground := Go.Ground.chain }], guard := none }) (v := ?vscy9) rfl (by kernel_rfl) (by kernel_rfl) (by kernel_rfl) (fun _ _ _ h => h) (Or.inl ⟨by rfl, ?hyscy9⟩) hHeld ?_
                  case hyscy9 => (intro w hSw; (try dsimp only at hSw); go_simp; first | done | with_reducible rfl)
                  try simp only [Act.put, List.setIfInBounds_toArray, List.set_cons_zero, List.set_cons_succ]
                  refine wpAnyH_take (i := 10) (oi := { dst := some 139, op := Go.Op.load 26 (Go.Operand.tmp 4), type := 26, pos := "ref.go:122", after := #[{ on := 9, ground := Go.Ground.guard }], guard := some (9, false) }) (v := ?vscy10) rfl (by kernel_rfl) (by kernel_rfl) (by kernel_rfl) (fun _ _ _ h => h) (Or.inl ⟨by rfl, ?hyscy10⟩) hHeld ?_
                  case hyscy10 => (intro w hSw; (try dsimp only at hSw); go_simp; first | done | with_reducible rfl)
                  try simp only [Act.put, List.setIfInBounds_toArray, List.set_cons_zero, List.set_cons_succ]
                  refine wpAnyH_take (i := 11) (oi := { dst := some 140, op := Go.Op.move (Go.Operand.tmp 0), type := 30, pos := "ref.go:122", after := #[{ on := 9, ground := Go.Ground.guard }], guard := some (9, false) }) (v := ?vscy11) rfl (by kernel_rfl) (by kernel_rfl) (by kernel_rfl) (fun _ _ _ h => h) (Or.inl ⟨by rfl, ?hyscy11⟩) hHeld ?_
                  case hyscy11 => (intro w hSw; (try dsimp only at hSw); go_simp; first | done | with_reducible rfl)
                  try simp only [Act.put, List.setIfInBounds_toArray, List.set_cons_zero, List.set_cons_succ]
                  refine wpAnyH_take (i := 12) (oi := { dst := some 141, op := Go.Op.call { callee := Go.Callee.builtin Go.Builtin.len, args := #[Go.Operand.tmp 140], argTypes := #[30] }, type := 3, pos := "ref.go:122", after := #[{ on := 11, ground := Go.Ground.data }, { on := 9, ground := Go.Ground.guard }], guard := some (9, false) }) (v := ?vscy12) rfl (by kernel_rfl) (by kernel_rfl) (by kernel_rfl) (fun _ _ _ h => h) (Or.inl ⟨by rfl, ?hyscy12⟩) hHeld ?_
                  case hyscy12 => (intro w hSw; (try dsimp only at hSw); go_simp; first | done | with_reducible rfl)
                  try simp only [Act.put, List.setIfInBounds_toArray, List.set_cons_zero, List.set_cons_succ]
                  refine wpAnyH_take (i := 15) (oi := { dst := some 144, op := Go.Op.move (Go.Operand.tmp 0), type := 30, pos := "ref.go:122", after := #[{ on := 9, ground := Go.Ground.guard }], guard := some (9, false) }) (v := ?vscy15) rfl (by kernel_rfl) (by kernel_rfl) (by kernel_rfl) (fun _ _ _ h => h) (Or.inl ⟨by rfl, ?hyscy15⟩) hHeld ?_
                  case hyscy15 => (intro w hSw; (try dsimp only at hSw); go_simp; first | done | with_reducible rfl)
                  try simp only [Act.put, List.setIfInBounds_toArray, List.set_cons_zero, List.set_cons_succ]
                  refine wpAnyH_take (i := 16) (oi := { dst := some 145, op := Go.Op.convert 30 9 (Go.Operand.tmp 144), type := 9, pos := "ref.go:122", after := #[{ on := 15, ground := Go.Ground.data }, { on := 9, ground := Go.Ground.guard }], guard := some (9, false) }) (v := ?vscy16) rfl (by kernel_rfl) (by kernel_rfl) (by kernel_rfl) (fun _ _ _ h => h) (Or.inl ⟨by rfl, ?hyscy16⟩) hHeld ?_
                  case hyscy16 => (intro w hSw; (try dsimp only at hSw); go_simp; first | done | with_reducible rfl)
                  try simp only [Act.put, List.setIfInBounds_toArray, List.set_cons_zero, List.set_cons_succ]
                  refine wpAnyH_ready (rs := [13]) (by kernel_rfl) (by simp) ?_
                  refine AllReadyH.cons (o := { dst := some 142, op := Go.Op.call { callee := Go.Callee.value (Go.Operand.func 18), args := #[Go.Operand.tmp 139, Go.Operand.tmp 141], argTypes := #[26, 3] }, type := 30, pos := "ref.go:122", after := #[{ on := 10, ground := Go.Ground.data }, { on := 12, ground := Go.Ground.data }, { on := 9, ground := Go.Ground.chain }, { on := 9, ground := Go.Ground.guard }], guard := some (9, false) }) rfl (fun K hK => ?_) AllReadyH.nil
                  go_simp
                  refine HBY.out.mono ?_
                  rintro e v6 ⟨⟨Ab, cb, rfl, hrb⟩, hb6⟩
                  have HBd_v6 : Hid (Below wr.heap.size wr v6) := HBd_v5.out.trans (hb6.mono (by have := HBd_v5.out.size; omega))
                  have e5 := string_rd v6 _ _ _ _ hrb
                  rw [HSX.out] at e5
                  obtain ⟨vx, hvx⟩ : ∃ vx, Value.slice Ab n cb = vx := ⟨_, rfl⟩
                  rw [hvx] at e5
                  rw [hvx]
                  clear hb6 hrb hvx
                  go_wp2_with fail
                  refine hK.out _ _ (HSW.out v6 HBd_v6.out) (fun hHeld => ?_)
                  clear hK K
                  try simp only [Act.put, List.setIfInBounds_toArray, List.set_cons_zero, List.set_cons_succ]
                  refine wpAnyH_ready (rs := [14]) (by kernel_rfl) (by simp) ?_
                  refine AllReadyH.cons (o := { dst := some 143, op := Go.Op.convert 30 9 (Go.Operand.tmp 142), type := 9, pos := "ref.go:122", after := #[{ on := 13, ground := Go.Ground.data }, { on := 9, ground := Go.Ground.guard }], guard := some (9, false) }) rfl (fun K hK => ?_) AllReadyH.nil
                  go_simp
                  refine hK.out _ _ (hHeld) (fun hHeld => ?_)
                  clear hK K
                  try simp only [Act.put, List.setIfInBounds_toArray, List.set_cons_zero, List.set_cons_succ]
                  refine wpAnyH_take (i := 17) (oi := { dst := some 146, op := Go.Op.binOp Go.BinOp.neq 9 (Go.Operand.tmp 143) (Go.Operand.tmp 145) 9, type := 4, pos := "ref.go:122", after := #[{ on := 14, ground := Go.Ground.data }, { on := 16, ground := Go.Ground.data }, { on := 9, ground := Go.Ground.guard }], guard := some (9, false) }) (v := ?vscy17) rfl (by kernel_rfl) (by kernel_rfl) (by kernel_rfl) (fun _ _ _ h => h) (Or.inl ⟨by rfl, ?hyscy17⟩) hHeld ?_
                  case hyscy17 => (intro w hSw; (try dsimp only at hSw); go_simp; first | done | with_reducible rfl)
                  try simp only [Act.put, List.setIfInBounds_toArray, List.set_cons_zero, List.set_cons_succ]
                  refine wpAnyH_take (i := 18) (oi := { dst := some 147, op := Go.Op.pick (Go.Operand.tmp 138) (Go.Operand.const (Go.Value.bool true)) (Go.Operand.tmp 146), type := 4, pos := "ref.go:122", after := #[{ on := 9, ground := Go.Ground.data }, { on := 17, ground := Go.Ground.data }], guard := none }) (v := ?vscy18) rfl (by kernel_rfl) (by kernel_rfl) (by kernel_rfl) (fun _ _ _ h => h) (Or.inl ⟨by rfl, ?hyscy18⟩) hHeld ?_
                  case hyscy18 => (intro w hSw; (try dsimp only at hSw); go_simp; first | done | with_reducible rfl)
                  try simp only [Act.put, List.setIfInBounds_toArray, List.set_cons_zero, List.set_cons_succ]
                  refine wpAnyH_done (by kernel_rfl) ?_ _
                  clear hHeld e5 heq hneq HCK HBY
                  have hbw : Below g w v6 := HB0.out.trans ((HBr.out.trans (HBd_v6.out.mono (by have := HBr.out.size; omega))).mono (by omega))
                  have hZ6 : Zb v6 g (.bool false) (.slice none 0 0) (.slice none 0 0) (.slice none 0 0) := ⟨(HMOr.out.keep HBd_v6.out).zero⟩
                  obtain ⟨z0, z1, z2, z3, f0, f1, f2, f3⟩ := hZ6.cells
                  cases al with
                  | true =>
                    have HOKP : Hid (okP b) := ⟨.inr HK1.out, by rw [HST.out], by rw [HNR.out, HL.out]; exact HR0.out, by rw [HST.out]; exact HAL.out⟩
                    have HZE := Lib.hid (hZ6.set4 (.bool false) (.slice none 0 0) (.slice A1 m cb1) (.slice A j c1))
                    have HE : Hid (rParseR (set4 v6 g (.bool false) (.slice none 0 0) (.slice A1 m cb1) (.slice A j c1)) b (.returned (.tuple #[.agg #[.bool false, .slice none 0 0, .slice A1 m cb1, .slice A j c1], .bool true])) ∧ Below g w (set4 v6 g (.bool false) (.slice none 0 0) (.slice A1 m cb1) (.slice A j c1))) := by
                      have hfs := fr_set4 v6 g (.bool false) (.slice none 0 0) (.slice A1 m cb1) (.slice A j c1)
                      refine ⟨.inl ⟨HOKP.out, ⟨none, 0, 0, A1, m, cb1, A, j, c1⟩, ?_, ?_⟩, hbw.trans (hfs.below (fun k hk => by have : k = g := hk; omega) (by have := (Array.getElem?_eq_some_iff.1 hZ6.row).1; omega))⟩
                      · rw [HNR.out, HLF.out]; rfl
                      · rw [HNR.out]
                        exact (HNDr.out.keep HBd_v6.out).fr hfs hZ6
                    obtain ⟨d0, d1, d2, d3, df⟩ := (HMOr.out.keep HBd_v6.out).cells
                    clear df hZ6 hbw
                    go_wp2
                    exact bodyPost_ret (results_cell2 (P := Try.prog) (fn := Try.f20) rfl _ _ rfl (run_loadVar_row _ g 26 26 _ (0, 0) _ HZE.out.row Try.underlying26 rfl (by kernel_rfl))) rfl HE.out
                  | false =>
                    have hno : ¬ okP b := fun h => by have := h.2.2.2; rw [HST.out] at this; simp only at this; rw [HAL.out] at this; cases this
                    have HE := Lib.hid (HERR.out v6 hZ6 hbw hno)
                    have HZE := Lib.hid (hZ6.set4 (.bool false) (.slice none 0 0) (.slice none 0 0) (.slice none 0 0))
                    clear hno hZ6 hbw
                    go_wp2
                    exact bodyPost_ret (results_cell2 (P := Try.prog) (fn := Try.f20) rfl _ _ rfl (run_loadVar_row _ g 26 26 _ (0, 0) _ HZE.out.row Try.underlying26 rfl (by kernel_rfl))) rfl HE.out
                · have hno : ¬ okP b := fun h => hR0 (by rw [← HR.out, ← HNR.out, ← HL.out]; exact h.2.2.1)
                  have hRn : (R != 0) = true := by simpa using hR0
                  have HNO := Lib.hid hno
                  clear hno hR0
                  go_wp2_with fail
                  refine wp_region_held_drew (S := fun W => (W.cell? ⟨g + 1, 0, none⟩ = some (.bool false) ∧ W.cell? ⟨g + 1, 1, none⟩ = some (.slice none 0 0) ∧ W.cell? ⟨g + 1, 2, none⟩ = some (.slice A1 m cb1) ∧ W.cell? ⟨g + 1, 3, none⟩ = some (.slice A j c1)) ∧ (convert 30 9 (.slice (some ⟨q, o, none⟩) n c)).run Try.prog W = .ok (.string SB) W) (by kernel_rfl) (HSW.out wr.drew HBd_v0.out) (fun hHeld => ?_)
                  refine wpAnyH_take (i := 0) (oi := { dst := some 129, op := Go.Op.move (Go.Operand.tmp 6), type := 3, pos := "ref.go:122", after := #[], guard := none }) (v := ?vscn0) rfl (by kernel_rfl) (by kernel_rfl) (by kernel_rfl) (fun _ _ _ h => h) (Or.inl ⟨by rfl, ?hyscn0⟩) hHeld ?_
                  case hyscn0 => (intro w hSw; (try dsimp only at hSw); go_simp; first | done | with_reducible rfl)
                  try simp only [Act.put, List.setIfInBounds_toArray, List.set_cons_zero, List.set_cons_succ]
                  refine wpAnyH_take (i := 1) (oi := { dst := some 130, op := Go.Op.binOp Go.BinOp.lss 3 (Go.Operand.tmp 129) (Go.Operand.const (Go.Value.int Go.IntKind.i64 0)) 3, type := 4, pos := "ref.go:122", after := #[{ on := 0, ground := Go.Ground.data }], guard := none }) (v := ?vscn1) rfl (by kernel_rfl) (by kernel_rfl) (by kernel_rfl) (fun _ _ _ h => h) (Or.inl ⟨by rfl, ?hyscn1⟩) hHeld ?_
                  case hyscn1 => (intro w hSw; (try dsimp only at hSw); go_simp; first | done | with_reducible rfl)
                  try simp only [Act.put, List.setIfInBounds_toArray, List.set_cons_zero, List.set_cons_succ]
                  refine wpAnyH_take (i := 2) (oi := { dst := some 131, op := Go.Op.move (Go.Operand.tmp 130), type := 4, pos := "ref.go:122", after := #[{ on := 1, ground := Go.Ground.data }], guard := none }) (v := ?vscn2) rfl (by kernel_rfl) (by kernel_rfl) (by kernel_rfl) (fun _ _ _ h => h) (Or.inl ⟨by rfl, ?hyscn2⟩) hHeld ?_
                  case hyscn2 => (intro w hSw; (try dsimp only at hSw); go_simp; first | done | with_reducible rfl)
                  try simp only [Act.put, List.setIfInBounds_toArray, List.set_cons_zero, List.set_cons_succ]
                  refine wpAnyH_take (i := 3) (oi := { dst := some 132, op := Go.Op.load 26 (Go.Operand.tmp 4), type := 26, pos := "ref.go:122", after := #[{ on := 2, ground := Go.Ground.guard }], guard := some (2, false) }) (v := ?vscn3) rfl (by kernel_rfl) (by kernel_rfl) (by kernel_rfl) (fun _ _ _ h => h) (Or.inl ⟨by rfl, ?hyscn3⟩) hHeld ?_
                  case hyscn3 => (intro w hSw; (try dsimp only at hSw); go_simp; first | done | with_reducible rfl)
                  try simp only [Act.put, List.setIfInBounds_toArray, List.set_cons_zero, List.set_cons_succ]
                  refine wpAnyH_take (i := 4) (oi := { dst := some 133, op := Go.Op.move (Go.Operand.tmp 0), type := 30, pos := "ref.go:122", after := #[{ on := 2, ground := Go.Ground.guard }], guard := some (2, false) }) (v := ?vscn4) rfl (by kernel_rfl) (by kernel_rfl) (by kernel_rfl) (fun _ _ _ h => h) (Or.inl ⟨by rfl, ?hyscn4⟩) hHeld ?_
                  case hyscn4 => (intro w hSw; (try dsimp only at hSw); go_simp; first | done | with_reducible rfl)
                  try simp only [Act.put, List.setIfInBounds_toArray, List.set_cons_zero, List.set_cons_succ]
                  refine wpAnyH_take (i := 5) (oi := { dst := some 134, op := Go.Op.call { callee := Go.Callee.builtin Go.Builtin.len, args := #[Go.Operand.tmp 133], argTypes := #[30] }, type := 3, pos := "ref.go:122", after := #[{ on := 4, ground := Go.Ground.data }, { on := 2, ground := Go.Ground.guard }], guard := some (2, false) }) (v := ?vscn5) rfl (by kernel_rfl) (by kernel_rfl) (by kernel_rfl) (fun _ _ _ h => h) (Or.inl ⟨by rfl, ?hyscn5⟩) hHeld ?_
                  case hyscn5 => (intro w hSw; (try dsimp only at hSw); go_simp; first | done | with_reducible rfl)
                  try simp only [Act.put, List.setIfInBounds_toArray, List.set_cons_zero, List.set_cons_succ]
                  refine wpAnyH_ready (rs := [6]) (by kernel_rfl) (by simp) ?_
                  refine AllReadyH.cons (o := { dst := some 135, op := Go.Op.call { callee := Go.Callee.value (Go.Operand.func 9), args := #[Go.Operand.tmp 132, Go.Operand.tmp 134], argTypes := #[26, 3] }, type := 28, pos := "ref.go:122", after := #[{ on := 3, ground := Go.Ground.data }, { on := 5, ground := Go.Ground.data }, { on := 2, ground := Go.Ground.chain }, { on := 2, ground := Go.Ground.guard }], guard := some (2, false) }) rfl (fun K hK => ?_) AllReadyH.nil
                  go_simp
                  refine HCK.out.mono ?_
                  rintro e v5 ⟨rfl, hb5⟩
                  have HBd_v5 : Hid (Below wr.heap.size wr v5) := HBd_v0.out.trans hb5
                  clear hb5
                  go_wp2_with fail
                  refine hK.out _ _ (HSW.out v5 HBd_v5.out) (fun hHeld => ?_)
                  clear hK K
                  try simp only [Act.put, List.setIfInBounds_toArray, List.set_cons_zero, List.set_cons_succ]
                  refine wpAnyH_take (i := 7) (oi := { dst := some 136, op := Go.Op.binOp Go.BinOp.neq 28 (Go.Operand.tmp 135) (Go.Operand.const (Go.Value.int Go.IntKind.i64 0)) 28, type := 4, pos := "ref.go:122", after := #[{ on := 6, ground := Go.Ground.data }, { on := 2, ground := Go.Ground.guard }], guard := some (2, false) }) (v := ?vscn7) rfl (by kernel_rfl) (by kernel_rfl) (by kernel_rfl) (fun _ _ _ h => h) (Or.inl ⟨by rfl, ?hyscn7⟩) hHeld ?_
                  case hyscn7 => (intro w hSw; (try dsimp only at hSw); go_simp; first | done | with_reducible rfl)
                  try simp only [Act.put, List.setIfInBounds_toArray, List.set_cons_zero, List.set_cons_succ]
                  refine wpAnyH_take (i := 8) (oi := { dst := some 137, op := Go.Op.pick (Go.Operand.tmp 131) (Go.Operand.const (Go.Value.bool true)) (Go.Operand.tmp 136), type := 4, pos := "ref.go:122", after := #[{ on := 2, ground := Go.Ground.data }, { on := 7, ground := Go.Ground.data }], guard := none }) (v := ?vscn8) rfl (by kernel_rfl) (by kernel_rfl) (by kernel_rfl) (fun _ _ _ h => h) (Or.inl ⟨by rfl, ?hyscn8⟩) hHeld ?_
                  case hyscn8 => (intro w hSw; (try dsimp only at hSw); go_simp; first | done | with_reducible rfl)
                  try simp only [Act.put, List.setIfInBounds_toArray, List.set_cons_zero, List.set_cons_succ]
                  refine wpAnyH_take (i := 9) (oi := { dst := some 138, op := Go.Op.move (Go.Operand.tmp 137), type := 4, pos := "ref.go:122", after := #[{ on := 8, ground := Go.Ground.data }, { on := 6, ground := Go.Ground.chain }], guard := none }) (v := ?vscn9) rfl (by kernel_rfl) (by kernel_rfl) (by kernel_rfl) (fun _ _ _ h => h) (Or.inl ⟨by rfl, ?hyscn9⟩) hHeld ?_
                  case hyscn9 => (intro w hSw; (try dsimp only at hSw); go_simp; first | done | with_reducible rfl)
                  try simp only [Act.put, List.setIfInBounds_toArray, List.set_cons_zero, List.set_cons_succ]
                  refine wpAnyH_take (i := 10) (oi := { dst := some 139, op := Go.Op.load 26 (Go.Operand.tmp 4), type := 26, pos := "ref.go:122", after := #[{ on := 9, ground := Go.Ground.guard }], guard := some (9, false) }) (v := undef) rfl (by kernel_rfl) (by kernel_rfl) (by kernel_rfl) (fun _ _ _ h => h) (Or.inr ⟨by rfl, rfl⟩) hHeld ?_
                  try simp only [Act.put, List.setIfInBounds_toArray, List.set_cons_zero, List.set_cons_succ]
                  refine wpAnyH_take (i := 11) (oi := { dst := some 140, op := Go.Op.move (Go.Operand.tmp 0), type := 30, pos := "ref.go:122", after := #[{ on := 9, ground := Go.Ground.guard }], guard := some (9, false) }) (v := undef) rfl (by kernel_rfl) (by kernel_rfl) (by kernel_rfl) (fun _ _ _ h => h) (Or.inr ⟨by rfl, rfl⟩) hHeld ?_
                  try simp only [Act.put, List.setIfInBounds_toArray, List.set_cons_zero, List.set_cons_succ]
                  refine wpAnyH_take (i := 12) (oi := { dst := some 141, op := Go.Op.call { callee := Go.Callee.builtin Go.Builtin.len, args := #[Go.Operand.tmp 140], argTypes := #[30] }, type := 3, pos := "ref.go:122", after := #[{ on := 11, ground := Go.Ground.data }, { on := 9, ground := Go.Ground.guard }], guard := some (9, false) }) (v := undef) rfl (by kernel_rfl) (by kernel_rfl) (by kernel_rfl) (fun _ _ _ h => h) (Or.inr ⟨by rfl, rfl⟩) hHeld ?_
                  try simp only [Act.put, List.setIfInBounds_toArray, List.set_cons_zero, List.set_cons_succ]
                  refine wpAnyH_take (i := 13) (oi := { dst := some 142, op := Go.Op.call { callee := Go.Callee.value (Go.Operand.func 18), args := #[Go.Operand.tmp 139, Go.Operand.tmp 141], argTypes := #[26, 3] }, type := 30, pos := "ref.go:122", after := #[{ on := 10, ground := Go.Ground.data }, { on := 12, ground := Go.Ground.data }, { on := 9, ground := Go.Ground.chain }, { on := 9, ground := Go.Ground.guard }], guard := some (9, false) }) (v := undef) rfl (by kernel_rfl) (by kernel_rfl) (by kernel_rfl) (fun _ _ _ h => h) (Or.inr ⟨by rfl, rfl⟩) hHeld ?_
                  try simp only [Act.put, List.setIfInBounds_toArray, List.set_cons_zero, List.set_cons_succ]
                  refine wpAnyH_take (i := 14) (oi := { dst := some 143, op := Go.Op.convert 30 9 (Go.Operand.tmp 142), type := 9, pos := "ref.go:122", after := #[{ on := 13, ground := Go.Ground.data }, { on := 9, ground := Go.Ground.guard }], guard := some (9, false) }) (v := undef) rfl (by kernel_rfl) (by kernel_rfl) (by kernel_rfl) (fun _ _ _ h => h) (Or.inr ⟨by rfl, rfl⟩) hHeld ?_
                  try simp only [Act.put, List.setIfInBounds_toArray, List.set_cons_zero, List.set_cons_succ]
                  refine wpAnyH_take (i := 15) (oi := { dst := some 144, op := Go.Op.move (Go.Operand.tmp 0), type := 30, pos := "ref.go:122", after := #[{ on := 9, ground := Go.Ground.guard }], guard := some (9, false) }) (v := undef) rfl (by kernel_rfl) (by kernel_rfl) (by kernel_rfl) (fun _ _ _ h => h) (Or.inr ⟨by rfl, rfl⟩) hHeld ?_
                  try simp only [Act.put, List.setIfInBounds_toArray, List.set_cons_zero, List.set_cons_succ]
                  refine wpAnyH_take (i := 16) (oi := { dst := some 145, op := Go.Op.convert 30 9 (Go.Operand.tmp 144), type := 9, pos := "ref.go:122", after := #[{ on := 15, ground := Go.Ground.data }, { on := 9, ground := Go.Ground.guard }], guard := some (9, false) }) (v := undef) rfl (by kernel_rfl) (by kernel_rfl) (by kernel_rfl) (fun _ _ _ h => h) (Or.inr ⟨by rfl, rfl⟩) hHeld ?_
                  try simp only [Act.put, List.setIfInBounds_toArray, List.set_cons_zero, List.set_cons_succ]
                  refine wpAnyH_take (i := 17) (oi := { dst := some 146, op := Go.Op.binOp Go.BinOp.neq 9 (Go.Operand.tmp 143) (Go.Operand.tmp 145) 9, type := 4, pos := "ref.go:122", after := #[{ on := 14, ground := Go.Ground.data }, { on := 16, ground := Go.Ground.data }, { on := 9, ground := Go.Ground.guard }], guard := some (9, false) }) (v := undef) rfl (by kernel_rfl) (by kernel_rfl) (by kernel_rfl) (fun _ _ _ h => h) (Or.inr ⟨by rfl, rfl⟩) hHeld ?_
                  try simp only [Act.put, List.setIfInBounds_toArray, List.set_cons_zero, List.set_cons_succ]
                  refine wpAnyH_take (i := 18) (oi := { dst := some 147, op := Go.Op.pick (Go.Operand.tmp 138) (Go.Operand.const (Go.Value.bool true)) (Go.Operand.tmp 146), type := 4, pos := "ref.go:122", after := #[{ on := 9, ground := Go.Ground.data }, { on := 17, ground := Go.Ground.data }], guard := none }) (v := ?vscn18) rfl (by kernel_rfl) (by kernel_rfl) (by kernel_rfl) (fun _ _ _ h => h) (Or.inl ⟨by rfl, ?hyscn18⟩) hHeld ?_
                  case hyscn18 => (intro w hSw; (try dsimp only at hSw); go_simp; first | done | with_reducible rfl)
                  try simp only [Act.put, List.setIfInBounds_toArray, List.set_cons_zero, List.set_cons_succ]
                  refine wpAnyH_done (by kernel_rfl) ?_ _
                  clear hHeld HCK
                  have hbw : Below g w v5 := HB0.out.trans ((HBr.out.trans (HBd_v5.out.mono (by have := HBr.out.size; omega))).mono (by omega))
                  have hZ6 : Zb v5 g (.bool false) (.slice none 0 0) (.slice none 0 0) (.slice none 0 0) := ⟨(HMOr.out.keep HBd_v5.out).zero⟩
                  obtain ⟨z0, z1, z2, z3, f0, f1, f2, f3⟩ := hZ6.cells
                  have HE := Lib.hid (HERR.out v5 hZ6 hbw HNO.out)
                  have HZE := Lib.hid (hZ6.set4 (.bool false) (.slice none 0 0) (.slice none 0 0) (.slice none 0 0))
                  clear hZ6 hbw
                  go_wp2
                  exact bodyPost_ret (results_cell2 (P := Try.prog) (fn := Try.f20) rfl _ _ rfl (run_loadVar_row _ g 26 26 _ (0, 0) _ HZE.out.row Try.underlying26 rfl (by kernel_rfl))) rfl HE.out
    · have hno : ¬ okP b := fun h => by
        rcases h.1 with h1 | h1
        · rw [HKD.out] at h1; exact hx1 (UInt8.toNat_inj.1 h1)
        · rw [HKD.out] at h1; exact hx2 (UInt8.toNat_inj.1 h1)
      have HE := Lib.hid (HERR.out W0 HZ0.out HB0.out hno)
      have HZE := Lib.hid (HZ0.out.set4 (.bool false) (.slice none 0 0) (.slice none 0 0) (.slice none 0 0))
      obtain ⟨z0, z1, z2, z3, f0, f1, f2, f3⟩ := HZ0.out.cells
      have hne1 : ((x.toNat : Int) != 1) = true := by
        simp only [bne_iff_ne, ne_eq]
        intro h
        exact hx1 (UInt8.toNat_inj.1 (by show x.toNat = 1; omega))
      have hne2 : ((x.toNat : Int) != 2) = true := by
        simp only [bne_iff_ne, ne_eq]
        intro h
        exact hx2 (UInt8.toNat_inj.1 (by show x.toNat = 2; omega))
      clear hno hx1 hx2
      go_enter Try.func20, Try.ntmps20
      go_wp2_with fail
      refine (HRA.out _).mono ?_
      rintro e w1 ⟨rfl, rfl⟩
      go_wp2
      exact bodyPost_ret (results_cell2 (P := Try.prog) (fn := Try.f20) rfl _ _ rfl (run_loadVar_row _ g 26 26 _ (0, 0) _ HZE.out.row Try.underlying26 rfl (by kernel_rfl))) rfl HE.out
end Go.Proofs.Ytedhcohpcdkgnaa
