/- The closures of a Commit. Conditions: none. Deeds on a wal, one by one. Conditions: none. -/
import Derived.Test.YtephmcbofcfpmaaGreatJ12
set_option maxRecDepth 8000
set_option linter.unusedSimpArgs false
set_option linter.unusedVariables false
namespace Go.Proofs.YtephmcbofcfpmaaGreat
open Go.RowKit Go.Bs Go.Dk

theorem lt_of_cell {w : World} {a : Addr} {v : Value} (h : w.cell? a = some v) : a.block < w.heap.size := by
  rcases Nat.lt_or_ge a.block w.heap.size with hlt | hge
  · exact hlt
  · simp [World.cell?, Array.getElem?_eq_none hge] at h
theorem c1_any (w : World) (bw bl p g : Nat) (s : S) (log : Nat) (down : Bool) (D : Nat → Prop) (h : WalAt w p g s log down D) (A : Option Addr) (n c : Nat) (l : List Ch) (K : Nat → Prop) (hl : Chs w A n c l K) (hKD : ∀ k, K k → ¬ D k)
    (hn : n ≤ 65536) (hd : s.deeds + n < 900000) (hf : s.Fine) (hlen : ∀ j, j < n → (chAt l j).2.length ≤ 100000) (x0 : w.cell? ⟨bw, 0, none⟩ = some (.pointer (some ⟨p, 0, none⟩))) (x1 : w.cell? ⟨bl, 0, none⟩ = some (.slice A n c)) :
    Calls Tryz.prog 113 #[.pointer (some ⟨bw, 0, none⟩), .pointer (some ⟨bl, 0, none⟩)] w fun e w' => e = .returned (.int .i64 (s.puts (logL l)).2) ∧ Wd D p g (s.puts (logL l)).1 log down w w' := by
  have HC := Lib.hid (writeLog_any w p g s log down D h A n c l K hl hKD hn hd hf hlen)
  clear h hl hlen hf hKD
  go_enter Tryz.func113, Tryz.ntmps113
  go_wp2_with fail
  refine HC.out.mono ?_
  rintro e w1 ⟨rfl, hw⟩
  have HW := Lib.hid hw
  clear hw
  go_wp2
  go_ret
  exact ⟨rfl, HW.out⟩
theorem f1_any (w : World) (bw bl p g : Nat) (s : S) (log : Nat) (down : Bool) (D : Nat → Prop) (h : WalAt w p g s log down D) (A : Option Addr) (n c : Nat) (l : List Ch) (K : Nat → Prop) (hl : Chs w A n c l K) (hKD : ∀ k, K k → ¬ D k)
    (hn : n ≤ 65536) (hd : s.deeds + n < 900000) (hf : s.Fine) (hlen : ∀ j, j < n → (chAt l j).2.length ≤ 100000) (hsec : ∀ j, j < n → 0 ≤ (chAt l j).1 ∧ (chAt l j).1 ≤ 65536) (x0 : w.cell? ⟨bw, 0, none⟩ = some (.pointer (some ⟨p, 0, none⟩))) (x1 : w.cell? ⟨bl, 0, none⟩ = some (.slice A n c)) :
    Calls Tryz.prog 144 #[.pointer (some ⟨bw, 0, none⟩), .pointer (some ⟨bl, 0, none⟩)] w fun e w' => e = .returned (.int .i64 (s.puts (blkL log l)).2) ∧ Wd D p g (s.puts (blkL log l)).1 log down w w' := by
  have HC := Lib.hid (writeBlocks_any w p g s log down D h A n c l K hl hKD hn hd hf hlen hsec)
  clear h hl hlen hf hKD hsec
  go_enter Tryz.func144, Tryz.ntmps144
  go_wp2_with fail
  refine HC.out.mono ?_
  rintro e w1 ⟨rfl, hw⟩
  have HW := Lib.hid hw
  clear hw
  go_wp2
  go_ret
  exact ⟨rfl, HW.out⟩
set_option maxHeartbeats 2000000 in
theorem c2_any (w : World) (bw bl p g : Nat) (s : S) (log : Nat) (down : Bool) (D : Nat → Prop) (h : WalAt w p g s log down D) (A : Option Addr) (n c : Nat) (l : List Ch) (K : Nat → Prop) (hl : Chs w A n c l K) (hKD : ∀ k, K k → ¬ D k)
    (hn : n ≤ log) (hd : s.deeds < 900000) (hf : s.Fine) (hsec : ∀ j, j < n → 0 ≤ (chAt l j).1 ∧ (chAt l j).1 < 65536) (x0 : w.cell? ⟨bw, 0, none⟩ = some (.pointer (some ⟨p, 0, none⟩))) (x1 : w.cell? ⟨bl, 0, none⟩ = some (.slice A n c)) (hbw : ¬ D bw) (hbl : ¬ D bl) :
    Calls Tryz.prog 116 #[.pointer (some ⟨bw, 0, none⟩), .pointer (some ⟨bl, 0, none⟩)] w fun e w' => e = .returned (.int .i64 (s.write 0 (cmt s.bytes l)).2) ∧ Wd D p g (s.write 0 (cmt s.bytes l)).1 log down w w' := by
  have x2 := (wc_cells h.row).1
  have hbwl : bw < w.heap.size := lt_of_cell x0
  have hbll : bl < w.heap.size := lt_of_cell x1
  have hpl : p < w.heap.size := lt_of_cell x2
  have hb1 := h.disk.ok.b1
  have hBD : Below w.heap.size w w.drew := (Below.refl _ _).drew
  have HCO := Lib.hid (commitOf_any w.drew p g s log down D (h.below hBD) A n c l K (hl.below hBD) hn hsec)
  have HBD := Lib.hid hBD
  have HW := Lib.hid h
  have HF := Lib.hid hf
  have HLN := Lib.hid hl.len
  have HL3 : Hid (3 + 3 * n ≤ s.bytes) := by show 3 + 3 * n ≤ s.bytes; have := h.l2; omega
  have HSZ := Lib.hid (S.write_sz s 0 (cmt s.bytes l))
  have hpD := h.pD
  have hKeep : ∀ w1 : World, Below w.drew.heap.size w.drew w1 → (w1.cell? ⟨bw, 0, none⟩ = some (.pointer (some ⟨p, 0, none⟩)) ∧ w1.cell? ⟨bl, 0, none⟩ = some (.slice A n c) ∧ w1.cell? ⟨p, 0, none⟩ = some (.pointer (some ⟨g, 0, none⟩))) := fun w1 hb =>
    ⟨(hb.cell (p := ⟨bw, 0, none⟩) hbwl).trans x0, (hb.cell (p := ⟨bl, 0, none⟩) hbll).trans x1, (hb.cell (p := ⟨p, 0, none⟩) hpl).trans x2⟩
  have hKeep2 : ∀ w1 w2 : World, Below w.drew.heap.size w.drew w1 → Did D g (s.write 0 (cmt s.bytes l)).1 w1 w2 → (w2.cell? ⟨bw, 0, none⟩ = some (.pointer (some ⟨p, 0, none⟩)) ∧ w2.cell? ⟨bl, 0, none⟩ = some (.slice A n c) ∧ w2.cell? ⟨p, 0, none⟩ = some (.pointer (some ⟨g, 0, none⟩))) := fun w1 w2 hb hd => by
    obtain ⟨k1, k2, k3⟩ := hKeep w1 hb
    obtain ⟨D2, _, _, hfr⟩ := hd
    exact ⟨(World.cell?_of_block (a := ⟨bw, 0, none⟩) (hfr.block bw (Nat.lt_of_lt_of_le hbwl hb.size) hbw)).trans k1, (World.cell?_of_block (a := ⟨bl, 0, none⟩) (hfr.block bl (Nat.lt_of_lt_of_le hbll hb.size) hbl)).trans k2, (World.cell?_of_block (a := ⟨p, 0, none⟩) (hfr.block p (Nat.lt_of_lt_of_le hpl hb.size) hpD)).trans k3⟩
  clear h hl hf hBD hKD hsec hpD
  go_enter Tryz.func116, Tryz.ntmps116
  go_wp2_with fail
  refine wp_region_held_drew (S := fun W => W.cell? ⟨bw, 0, none⟩ = some (.pointer (some ⟨p, 0, none⟩)) ∧ W.cell? ⟨bl, 0, none⟩ = some (.slice A n c) ∧ W.cell? ⟨p, 0, none⟩ = some (.pointer (some ⟨g, 0, none⟩))) (by kernel_rfl) (⟨x0, x1, x2⟩) (fun hHeld => ?_)
  refine wpAnyH_take (i := 0) (oi := { dst := some 3, op := Go.Op.load 90 (Go.Operand.tmp 0), type := 90, pos := "wal.go:83", after := #[], guard := none }) (v := ?v0) rfl (by kernel_rfl) (by kernel_rfl) (by kernel_rfl) (fun _ _ _ h => h) (Or.inl ⟨by rfl, ?hy0⟩) hHeld ?_
  case hy0 => (intro w hSw; (try dsimp only at hSw); go_simp; first | done | with_reducible rfl)
  try simp only [Act.put, List.setIfInBounds_toArray, List.set_cons_zero, List.set_cons_succ]
  refine wpAnyH_take (i := 1) (oi := { dst := some 4, op := Go.Op.nilCheck (Go.Operand.tmp 3), type := 0, pos := "wal.go:83", after := #[{ on := 0, ground := Go.Ground.data }], guard := none }) (v := ?v1) rfl (by kernel_rfl) (by kernel_rfl) (by kernel_rfl) (fun _ _ _ h => h) (Or.inl ⟨by rfl, ?hy1⟩) hHeld ?_
  case hy1 => (intro w hSw; (try dsimp only at hSw); go_simp; first | done | with_reducible rfl)
  try simp only [Act.put, List.setIfInBounds_toArray, List.set_cons_zero, List.set_cons_succ]
  refine wpAnyH_take (i := 2) (oi := { dst := some 5, op := Go.Op.fieldAddr 163 (Go.Operand.tmp 4) 0, type := 0, pos := "wal.go:83", after := #[{ on := 1, ground := Go.Ground.data }], guard := none }) (v := ?v2) rfl (by kernel_rfl) (by kernel_rfl) (by kernel_rfl) (fun _ _ _ h => h) (Or.inl ⟨by rfl, ?hy2⟩) hHeld ?_
  case hy2 => (intro w hSw; (try dsimp only at hSw); go_simp; first | done | with_reducible rfl)
  try simp only [Act.put, List.setIfInBounds_toArray, List.set_cons_zero, List.set_cons_succ]
  refine wpAnyH_take (i := 3) (oi := { dst := some 6, op := Go.Op.load 25 (Go.Operand.tmp 5), type := 25, pos := "wal.go:83", after := #[{ on := 2, ground := Go.Ground.data }], guard := none }) (v := ?v3) rfl (by kernel_rfl) (by kernel_rfl) (by kernel_rfl) (fun _ _ _ h => h) (Or.inl ⟨by rfl, ?hy3⟩) hHeld ?_
  case hy3 => (intro w hSw; (try dsimp only at hSw); go_simp; first | done | with_reducible rfl)
  try simp only [Act.put, List.setIfInBounds_toArray, List.set_cons_zero, List.set_cons_succ]
  refine wpAnyH_take (i := 4) (oi := { dst := some 7, op := Go.Op.load 90 (Go.Operand.tmp 0), type := 90, pos := "wal.go:83", after := #[], guard := none }) (v := ?v4) rfl (by kernel_rfl) (by kernel_rfl) (by kernel_rfl) (fun _ _ _ h => h) (Or.inl ⟨by rfl, ?hy4⟩) hHeld ?_
  case hy4 => (intro w hSw; (try dsimp only at hSw); go_simp; first | done | with_reducible rfl)
  try simp only [Act.put, List.setIfInBounds_toArray, List.set_cons_zero, List.set_cons_succ]
  refine wpAnyH_take (i := 5) (oi := { dst := some 8, op := Go.Op.load 115 (Go.Operand.tmp 1), type := 115, pos := "wal.go:83", after := #[], guard := none }) (v := ?v5) rfl (by kernel_rfl) (by kernel_rfl) (by kernel_rfl) (fun _ _ _ h => h) (Or.inl ⟨by rfl, ?hy5⟩) hHeld ?_
  case hy5 => (intro w hSw; (try dsimp only at hSw); go_simp; first | done | with_reducible rfl)
  try simp only [Act.put, List.setIfInBounds_toArray, List.set_cons_zero, List.set_cons_succ]
  refine wpAnyH_ready (rs := [6]) (by kernel_rfl) (by simp) ?_
  refine AllReadyH.cons (o := { dst := some 9, op := Go.Op.call { callee := Go.Callee.value (Go.Operand.func 118), args := #[Go.Operand.tmp 7, Go.Operand.tmp 8], argTypes := #[90, 115] }, type := 39, pos := "wal.go:83", after := #[{ on := 4, ground := Go.Ground.data }, { on := 5, ground := Go.Ground.data }], guard := none }) rfl (fun K hK => ?_) AllReadyH.nil
  go_simp
  refine HCO.out.mono ?_
  rintro e w1 ⟨v, rfl, hown, hb1⟩
  obtain ⟨A', c', rfl, hrd⟩ := Own.slice hown s.bytes (cmt_len _ _ (by rw [HLN.out]; exact HL3.out))
  have HC := Lib.hid (Write_any w1 g s D (HW.out.below (HBD.out.trans hb1)).disk HF.out hd 0 A' s.bytes c' _ hrd (by omega))
  have HB1 := Lib.hid hb1
  have hS1 := hKeep w1 (hb1)
  clear hown hrd hb1
  go_wp2_with fail
  refine hK.out _ _ (hS1) (fun hHeld => ?_)
  clear hK K
  try simp only [Act.put, List.setIfInBounds_toArray, List.set_cons_zero, List.set_cons_succ]
  refine wpAnyH_ready (rs := [7]) (by kernel_rfl) (by simp) ?_
  refine AllReadyH.cons (o := { dst := some 10, op := Go.Op.call { callee := Go.Callee.value (Go.Operand.func 117), args := #[Go.Operand.tmp 6, Go.Operand.const (Go.Value.int Go.IntKind.i64 0), Go.Operand.tmp 9], argTypes := #[25, 3, 39] }, type := 26, pos := "wal.go:83", after := #[{ on := 3, ground := Go.Ground.data }, { on := 6, ground := Go.Ground.data }, { on := 6, ground := Go.Ground.chain }], guard := none }) rfl (fun K hK => ?_) AllReadyH.nil
  go_simp
  refine HC.out.mono ?_
  rintro e w2 ⟨rfl, hdid⟩
  have HDID := Lib.hid hdid
  have hS2 := hKeep2 w1 w2 HB1.out HDID.out
  clear hdid
  go_wp2_with fail
  refine hK.out _ _ (hS2) (fun hHeld => ?_)
  clear hK K
  try simp only [Act.put, List.setIfInBounds_toArray, List.set_cons_zero, List.set_cons_succ]
  refine wpAnyH_take (i := 8) (oi := { dst := some 2, op := Go.Op.assign (Go.Operand.tmp 10), type := 26, pos := "wal.go:83", after := #[{ on := 7, ground := Go.Ground.data }, { on := 7, ground := Go.Ground.chain }, { on := 0, ground := Go.Ground.phase }, { on := 1, ground := Go.Ground.phase }, { on := 2, ground := Go.Ground.phase }, { on := 3, ground := Go.Ground.phase }, { on := 4, ground := Go.Ground.phase }, { on := 5, ground := Go.Ground.phase }, { on := 6, ground := Go.Ground.phase }, { on := 7, ground := Go.Ground.phase }], guard := none }) (v := ?v8) rfl (by kernel_rfl) (by kernel_rfl) (by kernel_rfl) (fun _ _ _ h => h) (Or.inl ⟨by rfl, ?hy8⟩) hHeld ?_
  case hy8 => (intro w hSw; (try dsimp only at hSw); go_simp; first | done | with_reducible rfl)
  try simp only [Act.put, List.setIfInBounds_toArray, List.set_cons_zero, List.set_cons_succ]
  refine wpAnyH_done (by kernel_rfl) ?_ _
  go_wp2
  go_ret
  exact ⟨rfl, (HW.out.below (HBD.out.trans HB1.out)).did (fun _ h => .inl h) (Fr.of (HBD.out.trans HB1.out)) HDID.out HSZ.out⟩
end Go.Proofs.YtephmcbofcfpmaaGreat

set_option maxRecDepth 8000
set_option linter.unusedSimpArgs false
set_option linter.unusedVariables false
namespace Go.Dk
open Go.RowKit Go.Bs
abbrev Dd1 := S → S × Int
def S.all : List Dd1 → S → S × Int
  | [], s => (s, 0)
  | f :: r, s => if (f s).2 = 0 then S.all r (f s).1 else f s
theorem S.all_append (a b : List Dd1) (s : S) : S.all (a ++ b) s = if (S.all a s).2 = 0 then S.all b (S.all a s).1 else S.all a s := by
  induction a generalizing s with
  | nil => simp [S.all]
  | cons x a ih =>
    show (if (x s).2 = 0 then S.all (a ++ b) (x s).1 else x s) = _
    by_cases h : (x s).2 = 0
    · rw [if_pos h, ih]
      simp only [S.all, if_pos h]
    · rw [if_neg h]
      simp only [S.all, if_neg h]
theorem S.all_snoc (a : List Dd1) (x : Dd1) (s s' : S) (h : S.all a s = (s', 0)) : S.all (a ++ [x]) s = x s' := by
  rw [S.all_append, h, if_pos rfl]
  show (if _ then _ else _) = _
  by_cases h2 : (x s').2 = 0
  · rw [if_pos h2]
    show ((x s').1, (0 : Int)) = _
    rw [← h2]
  · rw [if_neg h2]
theorem S.all_stop (a b : List Dd1) (s : S) (h : (S.all a s).2 ≠ 0) : S.all (a ++ b) s = S.all a s := by rw [S.all_append, if_neg h]
def dAt (fs : List Dd1) (i : Nat) : Dd1 := fs.getD i (fun s => (s, 0))
theorem d_take (fs : List Dd1) (k : Nat) (hk : k < fs.length) : fs.take (k + 1) = fs.take k ++ [dAt fs k] := by
  rw [List.take_succ_eq_append_getElem hk]
  simp [dAt, List.getD, List.getElem?_eq_getElem hk]
/-- a deed keeps what must be kept, and does no more than M writes and flushes. -/
structure GoodD (M : Nat) (f : Dd1) : Prop where
  fine : ∀ s : S, s.Fine → (f s).1.Fine
  deeds : ∀ s : S, (f s).1.deeds ≤ s.deeds + M
  sz : ∀ s : S, (f s).1.sectors = s.sectors ∧ (f s).1.bytes = s.bytes
theorem puts_good (L : List Ch) (M : Nat) (h : L.length ≤ M) : GoodD M (fun s => s.puts L) := by
  constructor
  · intro s hs
    induction L generalizing s with
    | nil => exact hs
    | cons x L ih =>
      show (if _ then _ else _ : S × Int).1.Fine
      split
      · exact ih (by simp at h; omega) _ (hs.write _ _)
      · exact hs.write _ _
  · intro s
    have : ∀ (L : List Ch) (s : S), (s.puts L).1.deeds ≤ s.deeds + L.length := by
      intro L
      induction L with
      | nil => intro s; exact Nat.le_refl _
      | cons x L ih =>
        intro s
        have h1 := S.write_deeds s x.1 x.2
        have h2 := ih (s.write x.1 x.2).1
        unfold S.puts
        split <;> (simp; omega)
    exact Nat.le_trans (this L s) (by omega)
  · intro s
    induction L generalizing s with
    | nil => exact ⟨rfl, rfl⟩
    | cons x L ih =>
      have h1 := S.write_sz s x.1 x.2
      have h2 := ih (by simp at h; omega) (s.write x.1 x.2).1
      show (if _ then _ else _ : S × Int).1.sectors = _ ∧ (if _ then _ else _ : S × Int).1.bytes = _
      split
      · exact ⟨h2.1.trans h1.1, h2.2.trans h1.2⟩
      · exact h1
theorem flush_good (M : Nat) (h : 1 ≤ M) : GoodD M S.flush :=
  ⟨fun _ hs => hs.flush, fun s => Nat.le_trans (S.flush_deeds s) (by omega), S.flush_sz⟩
theorem write_good (M : Nat) (h : 1 ≤ M) (i : Int) (b : S → List UInt8) : GoodD M (fun s => s.write i (b s)) :=
  ⟨fun _ hs => hs.write _ _, fun s => Nat.le_trans (S.write_deeds s _ _) (by omega), fun s => S.write_sz s _ _⟩
end Go.Dk
namespace Go.Proofs.YtephmcbofcfpmaaGreat
open Go.RowKit Go.Bs Go.Dk

theorem do_all (w : World) (p g : Nat) (s : S) (log : Nat) (down : Bool) (D : Nat → Prop) (h : WalAt w p g s log down D) (hf : s.Fine) (fs : List Dd1) (n M : Nat) (hn : fs.length = n) (hn6 : n ≤ 1000000) (hM : s.deeds + n * M < 900000) (hgood : ∀ i, i < n → GoodD M (dAt fs i))
    (q c : Nat) (fn : Nat → Nat) (fb cp : Nat → Array Value) (hq : ∀ j, j < n → w.cell? ⟨q, j, none⟩ = some (.func (.func (fn j)) (fb j) (cp j))) (hqD : ¬ D q)
    (ent : ∀ i, i < n → ∀ args W, (callFunc (fn i) args).run Tryz.prog W = .ok (.enter (fn i) args) W)
    (step : ∀ i, i < n → ∀ W s' D', WalAt W p g s' log down D' → s'.Fine → s'.deeds + M < 900000 → (s'.sectors = s.sectors ∧ s'.bytes = s.bytes) → (∀ k, D' k → D k ∨ w.heap.size ≤ k) → Fr D w W →
      Calls Tryz.prog (fn i) (fb i ++ cp i) W fun e W' => e = .returned (.int .i64 (dAt fs i s').2) ∧ Wd D' p g (dAt fs i s').1 log down W W') :
    Calls Tryz.prog 120 #[.slice (some ⟨q, 0, none⟩) n c] w fun e w' => e = .returned (.int .i64 (S.all fs s).2) ∧ Wd D p g (S.all fs s).1 log down w w' := by
  refine (do_any w n hn6 q c fn fb cp
    (fun i W => i ≤ n ∧ ∃ s' D', S.all (fs.take i) s = (s', 0) ∧ s'.Fine ∧ s'.deeds ≤ s.deeds + i * M ∧ (s'.sectors = s.sectors ∧ s'.bytes = s.bytes) ∧ WalAt W p g s' log down D' ∧ (∀ k, D' k → D k ∨ w.heap.size ≤ k) ∧ Fr D w W)
    (fun x W => x = (S.all fs s).2 ∧ Wd D p g (S.all fs s).1 log down w W) ent ?_ ?_ ?_).mono ?_
  · rintro i W ⟨_, s', D', _, _, _, _, _, _, hfr⟩ j hj
    have h1 := hq j hj
    exact (World.cell?_of_block (a := ⟨q, j, none⟩) (hfr.block q (lt_of_cell h1) hqD)).trans h1
  · rintro i hi W ⟨_, s', D', e1, e2, e3, e4, e5, e6, e7⟩
    have hiM : i * M + M ≤ n * M := by
      have := Nat.mul_le_mul_right M hi
      rw [Nat.succ_mul] at this
      exact this
    refine (step i hi W s' D' e5 e2 (by omega) e4 e6 e7).mono ?_
    rintro e W' ⟨rfl, D2, h1, h2, h3⟩
    have hsn := S.all_snoc _ (dAt fs i) _ _ e1
    rw [← d_take fs i (by omega)] at hsn
    have hfr : Fr D w W' := e7.step h3 e6
    have hD2 : ∀ k, D2 k → D k ∨ w.heap.size ≤ k := fun k hk => by
      rcases h2 k hk with h | h
      · exact e6 k h
      · exact .inr (Nat.le_trans e7.size h)
    refine ⟨_, rfl, ?_⟩
    by_cases h0 : (dAt fs i s').2 = 0
    · refine .inl ⟨h0, hi, _, D2, hsn.trans (by rw [← h0]), (hgood i hi).fine _ e2, ?_, ⟨((hgood i hi).sz _).1.trans e4.1, ((hgood i hi).sz _).2.trans e4.2⟩, h1, hD2, hfr⟩
      have := (hgood i hi).deeds s'
      rw [Nat.succ_mul]
      omega
    · have hst : S.all fs s = dAt fs i s' := by
        have h4 := S.all_stop (fs.take (i + 1)) (fs.drop (i + 1)) s (by rw [hsn]; exact h0)
        rw [List.take_append_drop] at h4
        exact h4.trans hsn
      exact .inr ⟨h0, by rw [hst], D2, by rw [hst]; exact h1, hD2, hfr⟩
  · exact ⟨Nat.zero_le _, s, D, by rw [List.take_zero]; rfl, hf, by omega, ⟨rfl, rfl⟩, h, fun _ h => .inl h, Fr.refl _ _⟩
  · rintro e w' ⟨x, rfl, ⟨rfl, _, s', D', e1, e2, e3, e4, e5, e6, e7⟩ | ⟨_, rfl, h2⟩⟩
    · rw [List.take_of_length_le (by omega)] at e1
      rw [e1]
      exact ⟨rfl, D', e5, e6, e7⟩
    · exact ⟨rfl, h2⟩
end Go.Proofs.YtephmcbofcfpmaaGreat

