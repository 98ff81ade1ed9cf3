/- fieldsOf. Conditions: none. -/
import Derived.Test.YtlnghdldecnmgaaK7
import Derived.Deep.RegionHeld3
set_option maxRecDepth 8000
set_option linter.unusedSimpArgs false
set_option linter.unusedVariables false
namespace Go.Kx
open Go.RowKit Go.Bs
/-- a row of fields. -/
def FsAt (w : World) (base : Nat) (v : Value) (fs : List Fld) : Prop :=
  (fs = [] ∧ v = .slice none 0 0) ∨ ∃ q c, v = .slice (some ⟨q, 0, none⟩) fs.length c ∧ base ≤ q ∧ fs.length ≤ c ∧
    ∀ j, j < fs.length → ∃ v1 v2, w.cell? ⟨q, j * 2, none⟩ = some v1 ∧ w.cell? ⟨q, j * 2 + 1, none⟩ = some v2 ∧ FAt w base v1 v2 (fs.getD j .end_)
theorem FsAt.fr {w w' : World} {base : Nat} {v : Value} {fs : List Fld} {D : Nat → Prop} (h : FsAt w base v fs) (hf : Fr D w w') (hD : ∀ i, D i → i < base) : FsAt w' base v fs := by
  rcases h with h | ⟨q, c, e, hq, hc, h⟩
  · exact .inl h
  · refine .inr ⟨q, c, e, hq, hc, fun j hj => ?_⟩
    obtain ⟨v1, v2, c1, c2, hfa⟩ := h j hj
    have hn : ¬ D q := fun hd => by have := hD q hd; omega
    exact ⟨v1, v2, hf.cell c1 hn, hf.cell c2 hn, hfa.fr hf hD⟩
theorem four_cells {w : World} {g t : Nat} {a b c d : Value} (h : w.heap[g]? = some (.cells #[a, b, c, d] t (0, 0))) : w.cell? ⟨g, 0, none⟩ = some a ∧ w.cell? ⟨g, 1, none⟩ = some b ∧ w.cell? ⟨g, 2, none⟩ = some c ∧ w.cell? ⟨g, 3, none⟩ = some d :=
  ⟨by rw [cell_of_row w g _ _ t (0, 0) h]; rfl, by rw [cell_of_row w g _ _ t (0, 0) h]; rfl, by rw [cell_of_row w g _ _ t (0, 0) h]; rfl, by rw [cell_of_row w g _ _ t (0, 0) h]; rfl⟩
theorem fs_one {w : World} {g base : Nat} {v1 v2 : Value} {f : Fld} (hf : FAt w base v1 v2 f) (hb : base ≤ w.heap.size) (hg : w.heap.size = g) : FsAt (w.alloc (.cells #[v1, v2] 56)) base (.slice (some ⟨g, 0, none⟩) 1 1) [f] := by
  subst hg
  have h := two_cells (w := w) (heap_alloc_new w (.cells #[v1, v2] 56))
  refine .inr ⟨_, 1, rfl, hb, Nat.le_refl _, fun j hj => ?_⟩
  have : j = 0 := by simpa using hj
  subst this
  exact ⟨v1, v2, h.1, h.2, hf.keep ((Below.refl _ _).alloc (Nat.le_refl _) _)⟩
theorem fs_two {w : World} {g base : Nat} {v1 v2 u1 u2 : Value} {f f' : Fld} (hf : FAt w base v1 v2 f) (hf' : FAt w base u1 u2 f') (hb : base ≤ w.heap.size) (hg : w.heap.size = g) : FsAt (w.alloc (.cells #[v1, v2, u1, u2] 56)) base (.slice (some ⟨g, 0, none⟩) 2 2) [f, f'] := by
  subst hg
  have h := four_cells (heap_alloc_new w (.cells #[v1, v2, u1, u2] 56))
  refine .inr ⟨_, 2, rfl, hb, Nat.le_refl _, fun j hj => ?_⟩
  have : j = 0 ∨ j = 1 := by simp at hj; omega
  rcases this with rfl | rfl
  · exact ⟨v1, v2, h.1, h.2.1, hf.keep ((Below.refl _ _).alloc (Nat.le_refl _) _)⟩
  · exact ⟨u1, u2, h.2.2.1, h.2.2.2, hf'.keep ((Below.refl _ _).alloc (Nat.le_refl _) _)⟩
end Go.Kx
namespace Go.Proofs.Ytlnghdldecnmgaa
open Go.RowKit Go.Bs Go.Kx

set_option maxHeartbeats 4000000 in
theorem fieldsOf_any (w : World) (kind : Int) : Calls Try.prog 21 #[.int .i64 kind] w fun e w' => ∃ v, e = .returned v ∧ FsAt w' w.heap.size v (fields kind) ∧ Below w.heap.size w w' := by
  have H0 : Hid (∀ W, Calls Try.prog 33 #[.func (.func 31) #[] #[], .int .i64 (1 : Int), .int .i64 (16777215 : Int), .int .i64 (3 : Int)] W fun e w' => ∃ v1 v2, e = .returned (.agg #[v1, v2]) ∧ FAt w' W.heap.size v1 v2 fin ∧ Below W.heap.size W w') := fun W => number_any W false 1 16777215 3 (by omega)
  have hnB : Hid (∀ W, Calls Try.prog 33 #[.func (.func 32) #[] #[], .int .i64 (0 : Int), .int .i64 (65535 : Int), .int .i64 (2 : Int)] W fun e w' => ∃ v1 v2, e = .returned (.agg #[v1, v2]) ∧ FAt w' W.heap.size v1 v2 (.num true 0 65535 2) ∧ Below W.heap.size W w') := fun W => number_any W true 0 65535 2 (by omega)
  have hnG : Hid (∀ W, Calls Try.prog 33 #[.func (.func 31) #[] #[], .int .i64 (0 : Int), .int .i64 (16777215 : Int), .int .i64 (3 : Int)] W fun e w' => ∃ v1 v2, e = .returned (.agg #[v1, v2]) ∧ FAt w' W.heap.size v1 v2 (.num false 0 16777215 3) ∧ Below W.heap.size W w') := fun W => number_any W false 0 16777215 3 (by omega)
  have hA : Hid (∀ W, Calls Try.prog 34 #[.func (.func 29) #[] #[]] W fun e w' => ∃ v1 v2, e = .returned (.agg #[v1, v2]) ∧ FAt w' W.heap.size v1 v2 (.nam false) ∧ Below W.heap.size W w') := fun W => name_any W false
  have hB : Hid (∀ W, Calls Try.prog 34 #[.func (.func 30) #[] #[]] W fun e w' => ∃ v1 v2, e = .returned (.agg #[v1, v2]) ∧ FAt w' W.heap.size v1 v2 (.nam true) ∧ Below W.heap.size W w') := fun W => name_any W true
  obtain ⟨b, hbs⟩ : ∃ b, w.heap.size = b := ⟨_, rfl⟩
  rw [hbs]
  go_enter Try.func21, Try.ntmps21
  go_wp2_with fail
  refine (H0.out _).mono ?_
  rintro e w1 ⟨v1, v2, rfl, hf, hb⟩
  have HF := Lib.hid hf
  obtain ⟨q, hq, rfl, rfl, c0, c1, c2, c3⟩ := hf
  obtain ⟨g, hg⟩ : ∃ g, w1.heap.size = g := ⟨_, rfl⟩
  obtain ⟨W1, hW1⟩ : ∃ W1, w1.alloc (.cells #[.func (.func 38) #[] #[ptr q, ptr (q + 3), ptr (q + 1), ptr (q + 2)], .func (.func 39) #[] #[ptr (q + 3), ptr q]] 56) = W1 := ⟨_, rfl⟩
  have HC : Hid (W1.cell? ⟨g, 0, none⟩ = some (.func (.func 38) #[] #[ptr q, ptr (q + 3), ptr (q + 1), ptr (q + 2)]) ∧ W1.cell? ⟨g, 1, none⟩ = some (.func (.func 39) #[] #[ptr (q + 3), ptr q])) := by
    rw [← hW1, ← hg]; exact two_cells (w := w1) (heap_alloc_new w1 _)
  have HB1 : Hid (Below b w W1) := by rw [← hW1, ← hbs]; exact hb.alloc hb.size _
  have HF1 : Hid (FAt W1 b (.func (.func 38) #[] #[ptr q, ptr (q + 3), ptr (q + 1), ptr (q + 2)]) (.func (.func 39) #[] #[ptr (q + 3), ptr q]) fin) := by rw [← hW1, ← hbs]; exact HF.out.keep ((Below.refl _ _).alloc (Nat.le_refl _) _)
  have HS1 : Hid (W1.heap.size = g + 1) := by show W1.heap.size = g + 1; rw [← hW1, ← hg]; simp
  have hlt : g < W1.heap.size := by rw [HS1.out]; omega
  have HCD : Hid (W1.drew.cell? ⟨g, 0, none⟩ = some (.func (.func 38) #[] #[ptr q, ptr (q + 3), ptr (q + 1), ptr (q + 2)]) ∧ W1.drew.cell? ⟨g, 1, none⟩ = some (.func (.func 39) #[] #[ptr (q + 3), ptr q])) := HC.out
  have x0 := HC.out.1
  have x1 := HC.out.2
  have HGB : Hid (b ≤ g) := by rw [← hbs, ← hg]; exact hb.size
  have HS2 : Hid (b ≤ W1.heap.size) := by show b ≤ W1.heap.size; rw [HS1.out]; have := HGB.out; omega
  subst hW1
  subst hg
  unfold ptr at *
  clear HF hq c0 c1 c2 c3 hb hbs
  by_cases k2 : kind = 2
  · subst k2
    go_wp2
    go_ret
    exact ⟨_, rfl, fs_one HF1.out HS2.out (by simp), HB1.out.alloc HS2.out _⟩
  by_cases k3 : kind = 3
  · subst k3
    go_wp2_with fail
    refine wp_region_held_drew (S := fun W : World => W.cell? ⟨w1.heap.size, 0, none⟩ = some (.func (.func 38) #[] #[.pointer (some ⟨q, 0, none⟩), .pointer (some ⟨q + 3, 0, none⟩), .pointer (some ⟨q + 1, 0, none⟩), .pointer (some ⟨q + 2, 0, none⟩)]) ∧ W.cell? ⟨w1.heap.size, 1, none⟩ = some (.func (.func 39) #[] #[.pointer (some ⟨q + 3, 0, none⟩), .pointer (some ⟨q, 0, none⟩)])) (by kernel_rfl) (HCD.out) (fun hHeld => ?_)
    refine wpAnyH_take (i := 0) (oi := { dst := some 17, op := Go.Op.load 56 (Go.Operand.tmp 7), type := 56, pos := "keys.go:100", after := #[], guard := none }) (v := ?vr100) rfl (by kernel_rfl) (by kernel_rfl) (by kernel_rfl) (fun _ _ _ h => h) (Or.inl ⟨by rfl, ?hyr100⟩) hHeld ?_
    case hyr100 => (intro w hSw; (try dsimp only at hSw); go_simp; first | done | with_reducible rfl)
    try simp only [Act.put, List.setIfInBounds_toArray, List.set_cons_zero, List.set_cons_succ]
    refine wpAnyH_take (i := 1) (oi := { dst := some 18, op := Go.Op.move (Go.Operand.tmp 6), type := 60, pos := "keys.go:100", after := #[], guard := none }) (v := ?vr101) rfl (by kernel_rfl) (by kernel_rfl) (by kernel_rfl) (fun _ _ _ h => h) (Or.inl ⟨by rfl, ?hyr101⟩) hHeld ?_
    case hyr101 => (intro w hSw; (try dsimp only at hSw); go_simp; first | done | with_reducible rfl)
    try simp only [Act.put, List.setIfInBounds_toArray, List.set_cons_zero, List.set_cons_succ]
    refine wpAnyH_ready (rs := [2]) (by kernel_rfl) (by simp) ?_
    refine AllReadyH.cons (o := { dst := some 19, op := Go.Op.call { callee := Go.Callee.value (Go.Operand.func 33), args := #[Go.Operand.tmp 18, Go.Operand.const (Go.Value.int Go.IntKind.i64 0), Go.Operand.const (Go.Value.int Go.IntKind.i64 65535), Go.Operand.const (Go.Value.int Go.IntKind.i64 2)], argTypes := #[60, 3, 3, 3] }, type := 56, pos := "keys.go:100", after := #[{ on := 1, ground := Go.Ground.data }], guard := none }) rfl (fun K hK => ?_) AllReadyH.nil
    go_simp
    refine (hnB.out _).mono ?_
    rintro e w2 ⟨u1, u2, rfl, hf2, hb2⟩
    have hS2 : w2.cell? ⟨w1.heap.size, 0, none⟩ = _ ∧ w2.cell? ⟨w1.heap.size, 1, none⟩ = _ := ⟨(hb2.cell (p := ⟨w1.heap.size, 0, none⟩) hlt).trans HC.out.1, (hb2.cell (p := ⟨w1.heap.size, 1, none⟩) hlt).trans HC.out.2⟩
    have HF2 := Lib.hid hf2
    have HB2 := Lib.hid hb2
    clear hf2 hb2
    go_wp2_with fail
    refine hK.out _ _ (hS2) (fun hHeld => ?_)
    clear hK K
    try simp only [Act.put, List.setIfInBounds_toArray, List.set_cons_zero, List.set_cons_succ]
    refine wpAnyH_ready (rs := [3]) (by kernel_rfl) (by simp) ?_
    refine AllReadyH.cons (o := { dst := some 20, op := Go.Op.buildSlice 43 2 #[(0, Go.Operand.tmp 17), (1, Go.Operand.tmp 19)], type := 43, pos := "keys.go:100", after := #[{ on := 0, ground := Go.Ground.data }, { on := 2, ground := Go.Ground.data }], guard := none }) rfl (fun K hK => ?_) AllReadyH.nil
    go_simp
    refine hK.out _ _ (⟨((Below.refl _ _).alloc (Nat.le_refl _) _).cell (p := ⟨w1.heap.size, 0, none⟩) (by have := HB2.out.size; show w1.heap.size < _; simp at this ⊢; omega) |>.trans hS2.1, ((Below.refl _ _).alloc (Nat.le_refl _) _).cell (p := ⟨w1.heap.size, 1, none⟩) (by have := HB2.out.size; show w1.heap.size < _; simp at this ⊢; omega) |>.trans hS2.2⟩) (fun hHeld => ?_)
    clear hK K
    try simp only [Act.put, List.setIfInBounds_toArray, List.set_cons_zero, List.set_cons_succ]
    refine wpAnyH_take (i := 4) (oi := { dst := some 2, op := Go.Op.assign (Go.Operand.tmp 20), type := 43, pos := "keys.go:100", after := #[{ on := 3, ground := Go.Ground.data }, { on := 2, ground := Go.Ground.chain }, { on := 0, ground := Go.Ground.phase }, { on := 1, ground := Go.Ground.phase }, { on := 2, ground := Go.Ground.phase }, { on := 3, ground := Go.Ground.phase }], guard := none }) (v := ?vr104) rfl (by kernel_rfl) (by kernel_rfl) (by kernel_rfl) (fun _ _ _ h => h) (Or.inl ⟨by rfl, ?hyr104⟩) hHeld ?_
    case hyr104 => (intro w hSw; (try dsimp only at hSw); go_simp; first | done | with_reducible rfl)
    try simp only [Act.put, List.setIfInBounds_toArray, List.set_cons_zero, List.set_cons_succ]
    refine wpAnyH_done (by kernel_rfl) ?_ _
    clear hHeld hS2
    obtain ⟨hf2, hb2⟩ := And.intro HF2.out HB2.out
    go_wp2
    go_ret
    exact ⟨_, rfl, fs_two ((HF1.out.keep (Below.refl _ _).drew).keep hb2) (hf2.mono HS2.out) (Nat.le_trans HS2.out hb2.size) rfl, ((HB1.out.drew.trans (hb2.mono HS2.out)).alloc (Nat.le_trans HS2.out hb2.size) _)⟩
  by_cases k4 : kind = 4
  · subst k4
    go_wp2_with fail
    refine wp_region_held_drew (S := fun W : World => W.cell? ⟨w1.heap.size, 0, none⟩ = some (.func (.func 38) #[] #[.pointer (some ⟨q, 0, none⟩), .pointer (some ⟨q + 3, 0, none⟩), .pointer (some ⟨q + 1, 0, none⟩), .pointer (some ⟨q + 2, 0, none⟩)]) ∧ W.cell? ⟨w1.heap.size, 1, none⟩ = some (.func (.func 39) #[] #[.pointer (some ⟨q + 3, 0, none⟩), .pointer (some ⟨q, 0, none⟩)])) (by kernel_rfl) (HCD.out) (fun hHeld => ?_)
    refine wpAnyH_take (i := 0) (oi := { dst := some 23, op := Go.Op.load 56 (Go.Operand.tmp 7), type := 56, pos := "keys.go:102", after := #[], guard := none }) (v := ?vr120) rfl (by kernel_rfl) (by kernel_rfl) (by kernel_rfl) (fun _ _ _ h => h) (Or.inl ⟨by rfl, ?hyr120⟩) hHeld ?_
    case hyr120 => (intro w hSw; (try dsimp only at hSw); go_simp; first | done | with_reducible rfl)
    try simp only [Act.put, List.setIfInBounds_toArray, List.set_cons_zero, List.set_cons_succ]
    refine wpAnyH_take (i := 1) (oi := { dst := some 24, op := Go.Op.move (Go.Operand.tmp 3), type := 58, pos := "keys.go:102", after := #[], guard := none }) (v := ?vr121) rfl (by kernel_rfl) (by kernel_rfl) (by kernel_rfl) (fun _ _ _ h => h) (Or.inl ⟨by rfl, ?hyr121⟩) hHeld ?_
    case hyr121 => (intro w hSw; (try dsimp only at hSw); go_simp; first | done | with_reducible rfl)
    try simp only [Act.put, List.setIfInBounds_toArray, List.set_cons_zero, List.set_cons_succ]
    refine wpAnyH_ready (rs := [2]) (by kernel_rfl) (by simp) ?_
    refine AllReadyH.cons (o := { dst := some 25, op := Go.Op.call { callee := Go.Callee.value (Go.Operand.func 34), args := #[Go.Operand.tmp 24], argTypes := #[58] }, type := 56, pos := "keys.go:102", after := #[{ on := 1, ground := Go.Ground.data }], guard := none }) rfl (fun K hK => ?_) AllReadyH.nil
    go_simp
    refine (hA.out _).mono ?_
    rintro e w2 ⟨u1, u2, rfl, hf2, hb2⟩
    have hS2 : w2.cell? ⟨w1.heap.size, 0, none⟩ = _ ∧ w2.cell? ⟨w1.heap.size, 1, none⟩ = _ := ⟨(hb2.cell (p := ⟨w1.heap.size, 0, none⟩) hlt).trans HC.out.1, (hb2.cell (p := ⟨w1.heap.size, 1, none⟩) hlt).trans HC.out.2⟩
    have HF2 := Lib.hid hf2
    have HB2 := Lib.hid hb2
    clear hf2 hb2
    go_wp2_with fail
    refine hK.out _ _ (hS2) (fun hHeld => ?_)
    clear hK K
    try simp only [Act.put, List.setIfInBounds_toArray, List.set_cons_zero, List.set_cons_succ]
    refine wpAnyH_ready (rs := [3]) (by kernel_rfl) (by simp) ?_
    refine AllReadyH.cons (o := { dst := some 26, op := Go.Op.buildSlice 43 2 #[(0, Go.Operand.tmp 23), (1, Go.Operand.tmp 25)], type := 43, pos := "keys.go:102", after := #[{ on := 0, ground := Go.Ground.data }, { on := 2, ground := Go.Ground.data }], guard := none }) rfl (fun K hK => ?_) AllReadyH.nil
    go_simp
    refine hK.out _ _ (⟨((Below.refl _ _).alloc (Nat.le_refl _) _).cell (p := ⟨w1.heap.size, 0, none⟩) (by have := HB2.out.size; show w1.heap.size < _; simp at this ⊢; omega) |>.trans hS2.1, ((Below.refl _ _).alloc (Nat.le_refl _) _).cell (p := ⟨w1.heap.size, 1, none⟩) (by have := HB2.out.size; show w1.heap.size < _; simp at this ⊢; omega) |>.trans hS2.2⟩) (fun hHeld => ?_)
    clear hK K
    try simp only [Act.put, List.setIfInBounds_toArray, List.set_cons_zero, List.set_cons_succ]
    refine wpAnyH_take (i := 4) (oi := { dst := some 2, op := Go.Op.assign (Go.Operand.tmp 26), type := 43, pos := "keys.go:102", after := #[{ on := 3, ground := Go.Ground.data }, { on := 2, ground := Go.Ground.chain }, { on := 0, ground := Go.Ground.phase }, { on := 1, ground := Go.Ground.phase }, { on := 2, ground := Go.Ground.phase }, { on := 3, ground := Go.Ground.phase }], guard := none }) (v := ?vr124) rfl (by kernel_rfl) (by kernel_rfl) (by kernel_rfl) (fun _ _ _ h => h) (Or.inl ⟨by rfl, ?hyr124⟩) hHeld ?_
    case hyr124 => (intro w hSw; (try dsimp only at hSw); go_simp; first | done | with_reducible rfl)
    try simp only [Act.put, List.setIfInBounds_toArray, List.set_cons_zero, List.set_cons_succ]
    refine wpAnyH_done (by kernel_rfl) ?_ _
    clear hHeld hS2
    obtain ⟨hf2, hb2⟩ := And.intro HF2.out HB2.out
    go_wp2
    go_ret
    exact ⟨_, rfl, fs_two ((HF1.out.keep (Below.refl _ _).drew).keep hb2) (hf2.mono HS2.out) (Nat.le_trans HS2.out hb2.size) rfl, ((HB1.out.drew.trans (hb2.mono HS2.out)).alloc (Nat.le_trans HS2.out hb2.size) _)⟩
  by_cases k5 : kind = 5
  · subst k5
    go_wp2_with fail
    refine (hA.out _).mono ?_
    rintro e w2 ⟨u1, u2, rfl, hf2, hb2⟩
    have HF2 := Lib.hid hf2
    have HB2 := Lib.hid hb2
    obtain ⟨q2, hq2, rfl, rfl, c4⟩ := hf2
    clear hq2 c4 hb2
    unfold ptr at *
    go_wp2
    go_ret
    exact ⟨_, rfl, fs_one (HF2.out.mono HS2.out) (Nat.le_trans HS2.out HB2.out.size) rfl, (HB1.out.trans (HB2.out.mono HS2.out)).alloc (Nat.le_trans HS2.out HB2.out.size) _⟩
  by_cases k8 : kind = 8
  · subst k8
    go_wp2_with fail
    refine (hA.out _).mono ?_
    rintro e w2 ⟨u1, u2, rfl, hf2, hb2⟩
    have HF2 := Lib.hid hf2
    have HB2 := Lib.hid hb2
    obtain ⟨q2, hq2, rfl, rfl, c4⟩ := hf2
    clear hq2 c4 hb2
    unfold ptr at *
    go_wp2
    go_ret
    exact ⟨_, rfl, fs_one (HF2.out.mono HS2.out) (Nat.le_trans HS2.out HB2.out.size) rfl, (HB1.out.trans (HB2.out.mono HS2.out)).alloc (Nat.le_trans HS2.out HB2.out.size) _⟩
  by_cases k10 : kind = 10
  · subst k10
    go_wp2_with fail
    refine (hA.out _).mono ?_
    rintro e w2 ⟨u1, u2, rfl, hf2, hb2⟩
    have HF2 := Lib.hid hf2
    have HB2 := Lib.hid hb2
    obtain ⟨q2, hq2, rfl, rfl, c4⟩ := hf2
    clear hq2 c4 hb2
    unfold ptr at *
    go_wp2
    go_ret
    exact ⟨_, rfl, fs_one (HF2.out.mono HS2.out) (Nat.le_trans HS2.out HB2.out.size) rfl, (HB1.out.trans (HB2.out.mono HS2.out)).alloc (Nat.le_trans HS2.out HB2.out.size) _⟩
  by_cases k6 : kind = 6
  · subst k6
    go_wp2_with fail
    refine (hA.out _).mono ?_
    rintro e w2 ⟨u1, u2, rfl, hf2, hb2⟩
    have HEN := Lib.hid (ended_any w2 b u1 u2 (hf2.mono HS2.out) (Nat.le_trans HS2.out hb2.size))
    have HB2 : Hid (Below b w w2) := HB1.out.trans (hb2.mono HS2.out)
    have HS3 : Hid (b ≤ w2.heap.size) := Nat.le_trans HS2.out hb2.size
    obtain ⟨q2, hq2, rfl, rfl, c4⟩ := hf2
    clear hq2 c4 hb2
    unfold ptr at *
    go_wp2_with fail
    refine HEN.out.mono ?_
    rintro e w3 ⟨u1, u2, rfl, hf3, hb3⟩
    have HF3 := Lib.hid hf3
    have HB3 : Hid (Below b w w3) := HB2.out.trans (hb3.mono HS3.out)
    have HS4 : Hid (b ≤ w3.heap.size) := Nat.le_trans HS3.out hb3.size
    obtain ⟨q3, q4, hq3, hq4, rfl, rfl, c5, c6, c7⟩ := hf3
    clear hq3 hq4 c5 c6 c7 hb3 HEN
    unfold ptr at *
    go_wp2_with fail
    refine (hB.out _).mono ?_
    rintro e w4 ⟨v1, v2, rfl, hf4, hb4⟩
    have HF4 := Lib.hid hf4
    have HB4 : Hid (Below b w w4) := HB3.out.trans (hb4.mono HS4.out)
    have HS5 : Hid (b ≤ w4.heap.size) := Nat.le_trans HS4.out hb4.size
    have HF5 := Lib.hid (HF3.out.keep hb4)
    obtain ⟨q5, hq5, rfl, rfl, c8⟩ := hf4
    clear hq5 hb4 c8
    unfold ptr at *
    go_wp2
    go_ret
    exact ⟨_, rfl, fs_two HF5.out (HF4.out.mono HS4.out) HS5.out rfl, HB4.out.alloc HS5.out _⟩
  by_cases k7 : kind = 7
  · subst k7
    go_wp2_with fail
    refine (hA.out _).mono ?_
    rintro e w2 ⟨u1, u2, rfl, hf2, hb2⟩
    have HEN := Lib.hid (ended_any w2 b u1 u2 (hf2.mono HS2.out) (Nat.le_trans HS2.out hb2.size))
    have HB2 : Hid (Below b w w2) := HB1.out.trans (hb2.mono HS2.out)
    have HS3 : Hid (b ≤ w2.heap.size) := Nat.le_trans HS2.out hb2.size
    obtain ⟨q2, hq2, rfl, rfl, c4⟩ := hf2
    clear hq2 c4 hb2
    unfold ptr at *
    go_wp2_with fail
    refine HEN.out.mono ?_
    rintro e w3 ⟨u1, u2, rfl, hf3, hb3⟩
    have HF3 := Lib.hid hf3
    have HB3 : Hid (Below b w w3) := HB2.out.trans (hb3.mono HS3.out)
    have HS4 : Hid (b ≤ w3.heap.size) := Nat.le_trans HS3.out hb3.size
    obtain ⟨q3, q4, hq3, hq4, rfl, rfl, c5, c6, c7⟩ := hf3
    clear hq3 hq4 c5 c6 c7 hb3 HEN
    unfold ptr at *
    go_wp2_with fail
    refine (hB.out _).mono ?_
    rintro e w4 ⟨v1, v2, rfl, hf4, hb4⟩
    have HF4 := Lib.hid hf4
    have HB4 : Hid (Below b w w4) := HB3.out.trans (hb4.mono HS4.out)
    have HS5 : Hid (b ≤ w4.heap.size) := Nat.le_trans HS4.out hb4.size
    have HF5 := Lib.hid (HF3.out.keep hb4)
    obtain ⟨q5, hq5, rfl, rfl, c8⟩ := hf4
    clear hq5 hb4 c8
    unfold ptr at *
    go_wp2
    go_ret
    exact ⟨_, rfl, fs_two HF5.out (HF4.out.mono HS4.out) HS5.out rfl, HB4.out.alloc HS5.out _⟩
  by_cases k9 : kind = 9
  · subst k9
    go_wp2_with fail
    refine (hA.out _).mono ?_
    rintro e w2 ⟨u1, u2, rfl, hf2, hb2⟩
    have HEN := Lib.hid (ended_any w2 b u1 u2 (hf2.mono HS2.out) (Nat.le_trans HS2.out hb2.size))
    have HB2 : Hid (Below b w w2) := HB1.out.trans (hb2.mono HS2.out)
    have HS3 : Hid (b ≤ w2.heap.size) := Nat.le_trans HS2.out hb2.size
    obtain ⟨q2, hq2, rfl, rfl, c4⟩ := hf2
    clear hq2 c4 hb2
    unfold ptr at *
    go_wp2_with fail
    refine HEN.out.mono ?_
    rintro e w3 ⟨u1, u2, rfl, hf3, hb3⟩
    have HF3 := Lib.hid hf3
    have HB3 : Hid (Below b w w3) := HB2.out.trans (hb3.mono HS3.out)
    have HS4 : Hid (b ≤ w3.heap.size) := Nat.le_trans HS3.out hb3.size
    obtain ⟨q3, q4, hq3, hq4, rfl, rfl, c5, c6, c7⟩ := hf3
    clear hq3 hq4 c5 c6 c7 hb3 HEN
    unfold ptr at *
    go_wp2_with fail
    refine (hnG.out _).mono ?_
    rintro e w4 ⟨v1, v2, rfl, hf4, hb4⟩
    have HF4 := Lib.hid hf4
    have HB4 : Hid (Below b w w4) := HB3.out.trans (hb4.mono HS4.out)
    have HS5 : Hid (b ≤ w4.heap.size) := Nat.le_trans HS4.out hb4.size
    have HF5 := Lib.hid (HF3.out.keep hb4)
    obtain ⟨q5, hq5, rfl, rfl, c8, c9, c10, c11⟩ := hf4
    clear hq5 hb4 c8 c9 c10 c11
    unfold ptr at *
    go_wp2
    go_ret
    exact ⟨_, rfl, fs_two HF5.out (HF4.out.mono HS4.out) HS5.out rfl, HB4.out.alloc HS5.out _⟩
  · have hfs : fields kind = [] := by
      unfold fields
      split <;> first | rfl | contradiction
    have HFS := Lib.hid hfs
    clear hfs
    go_wp2
    go_ret
    exact ⟨_, rfl, by rw [HFS.out]; exact .inl ⟨rfl, rfl⟩, HB1.out⟩
end Go.Proofs.Ytlnghdldecnmgaa
