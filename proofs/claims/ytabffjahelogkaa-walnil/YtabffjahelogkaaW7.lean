/- The closures of a Commit. Conditions: none. -/
import Derived.Test.YtabffjahelogkaaW6
namespace Go.Proofs.Ytabffjahelogkaa
open Go.RowKit Go.Bs Go.Dk

theorem lt_of_cell {w : World} {a : Addr} {v : Value} (h : w.cell? a = some v) : a.block < w.heap.size := by
  rcases Nat.lt_or_ge a.block w.heap.size with hlt | hge
  · exact hlt
  · simp [World.cell?, Array.getElem?_eq_none hge] at h
theorem c1_any (w : World) (bw bl p g : Nat) (s : S) (log : Nat) (down : Bool) (D : Nat → Prop) (h : WalAt w p g s log down D) (A : Option Addr) (n c : Nat) (l : List Ch) (K : Nat → Prop) (hl : Chs w A n c l K) (hKD : ∀ k, K k → ¬ D k)
    (hn : n ≤ 65536) (hd : s.deeds + n < 900000) (hf : s.Fine) (hlen : ∀ j, j < n → (chAt l j).2.length ≤ 100000) (x0 : w.cell? ⟨bw, 0, none⟩ = some (.pointer (some ⟨p, 0, none⟩))) (x1 : w.cell? ⟨bl, 0, none⟩ = some (.slice A n c)) :
    Calls Try.prog 25 #[.pointer (some ⟨bw, 0, none⟩), .pointer (some ⟨bl, 0, none⟩)] w fun e w' => e = .returned (.int .i64 (s.puts (logL l)).2) ∧ Wd D p g (s.puts (logL l)).1 log down w w' := by
  have HC := Lib.hid (writeLog_any w p g s log down D h A n c l K hl hKD hn hd hf hlen)
  clear h hl hlen hf hKD
  go_enter Try.func25, Try.ntmps25
  go_wp2_with fail
  refine HC.out.mono ?_
  rintro e w1 ⟨rfl, hw⟩
  have HW := Lib.hid hw
  clear hw
  go_wp2
  go_ret
  exact ⟨rfl, HW.out⟩
theorem f1_any (w : World) (bw bl p g : Nat) (s : S) (log : Nat) (down : Bool) (D : Nat → Prop) (h : WalAt w p g s log down D) (A : Option Addr) (n c : Nat) (l : List Ch) (K : Nat → Prop) (hl : Chs w A n c l K) (hKD : ∀ k, K k → ¬ D k)
    (hn : n ≤ 65536) (hd : s.deeds + n < 900000) (hf : s.Fine) (hlen : ∀ j, j < n → (chAt l j).2.length ≤ 100000) (hsec : ∀ j, j < n → 0 ≤ (chAt l j).1 ∧ (chAt l j).1 ≤ 65536) (x0 : w.cell? ⟨bw, 0, none⟩ = some (.pointer (some ⟨p, 0, none⟩))) (x1 : w.cell? ⟨bl, 0, none⟩ = some (.slice A n c)) :
    Calls Try.prog 38 #[.pointer (some ⟨bw, 0, none⟩), .pointer (some ⟨bl, 0, none⟩)] w fun e w' => e = .returned (.int .i64 (s.puts (blkL log l)).2) ∧ Wd D p g (s.puts (blkL log l)).1 log down w w' := by
  have HC := Lib.hid (writeBlocks_any w p g s log down D h A n c l K hl hKD hn hd hf hlen hsec)
  clear h hl hlen hf hKD hsec
  go_enter Try.func38, Try.ntmps38
  go_wp2_with fail
  refine HC.out.mono ?_
  rintro e w1 ⟨rfl, hw⟩
  have HW := Lib.hid hw
  clear hw
  go_wp2
  go_ret
  exact ⟨rfl, HW.out⟩
set_option maxHeartbeats 2000000 in
theorem c2_any (w : World) (bw bl p g : Nat) (s : S) (log : Nat) (down : Bool) (D : Nat → Prop) (h : WalAt w p g s log down D) (A : Option Addr) (n c : Nat) (l : List Ch) (K : Nat → Prop) (hl : Chs w A n c l K) (hKD : ∀ k, K k → ¬ D k)
    (hn : n ≤ log) (hd : s.deeds < 900000) (hf : s.Fine) (hsec : ∀ j, j < n → 0 ≤ (chAt l j).1 ∧ (chAt l j).1 < 65536) (x0 : w.cell? ⟨bw, 0, none⟩ = some (.pointer (some ⟨p, 0, none⟩))) (x1 : w.cell? ⟨bl, 0, none⟩ = some (.slice A n c)) (hbw : ¬ D bw) (hbl : ¬ D bl) :
    Calls Try.prog 28 #[.pointer (some ⟨bw, 0, none⟩), .pointer (some ⟨bl, 0, none⟩)] w fun e w' => e = .returned (.int .i64 (s.write 0 (cmt s.bytes l)).2) ∧ Wd D p g (s.write 0 (cmt s.bytes l)).1 log down w w' := by
  have x2 := (wc_cells h.row).1
  have hbwl : bw < w.heap.size := lt_of_cell x0
  have hbll : bl < w.heap.size := lt_of_cell x1
  have hpl : p < w.heap.size := lt_of_cell x2
  have hb1 := h.disk.ok.b1
  have hBD : Below w.heap.size w w.drew := (Below.refl _ _).drew
  have HCO := Lib.hid (commitOf_any w.drew p g s log down D (h.below hBD) A n c l K (hl.below hBD) hn hsec)
  have HBD := Lib.hid hBD
  have HW := Lib.hid h
  have HF := Lib.hid hf
  have HLN := Lib.hid hl.len
  have HL3 : Hid (3 + 3 * n ≤ s.bytes) := by show 3 + 3 * n ≤ s.bytes; have := h.l2; omega
  have HSZ := Lib.hid (S.write_sz s 0 (cmt s.bytes l))
  have hpD := h.pD
  have hKeep : ∀ w1 : World, Below w.drew.heap.size w.drew w1 → (w1.cell? ⟨bw, 0, none⟩ = some (.pointer (some ⟨p, 0, none⟩)) ∧ w1.cell? ⟨bl, 0, none⟩ = some (.slice A n c) ∧ w1.cell? ⟨p, 0, none⟩ = some (.pointer (some ⟨g, 0, none⟩))) := fun w1 hb =>
    ⟨(hb.cell (p := ⟨bw, 0, none⟩) hbwl).trans x0, (hb.cell (p := ⟨bl, 0, none⟩) hbll).trans x1, (hb.cell (p := ⟨p, 0, none⟩) hpl).trans x2⟩
  have hKeep2 : ∀ w1 w2 : World, Below w.drew.heap.size w.drew w1 → Did D g (s.write 0 (cmt s.bytes l)).1 w1 w2 → (w2.cell? ⟨bw, 0, none⟩ = some (.pointer (some ⟨p, 0, none⟩)) ∧ w2.cell? ⟨bl, 0, none⟩ = some (.slice A n c) ∧ w2.cell? ⟨p, 0, none⟩ = some (.pointer (some ⟨g, 0, none⟩))) := fun w1 w2 hb hd => by
    obtain ⟨k1, k2, k3⟩ := hKeep w1 hb
    obtain ⟨D2, _, _, hfr⟩ := hd
    exact ⟨(World.cell?_of_block (a := ⟨bw, 0, none⟩) (hfr.block bw (Nat.lt_of_lt_of_le hbwl hb.size) hbw)).trans k1, (World.cell?_of_block (a := ⟨bl, 0, none⟩) (hfr.block bl (Nat.lt_of_lt_of_le hbll hb.size) hbl)).trans k2, (World.cell?_of_block (a := ⟨p, 0, none⟩) (hfr.block p (Nat.lt_of_lt_of_le hpl hb.size) hpD)).trans k3⟩
  clear h hl hf hBD hKD hsec hpD
  go_enter Try.func28, Try.ntmps28
  go_wp2_with fail
  refine wp_region_held_drew (S := fun W => W.cell? ⟨bw, 0, none⟩ = some (.pointer (some ⟨p, 0, none⟩)) ∧ W.cell? ⟨bl, 0, none⟩ = some (.slice A n c) ∧ W.cell? ⟨p, 0, none⟩ = some (.pointer (some ⟨g, 0, none⟩))) (by kernel_rfl) (⟨x0, x1, x2⟩) (fun hHeld => ?_)
  refine wpAnyH_take (i := 0) (oi := { dst := some 3, op := Go.Op.load 23 (Go.Operand.tmp 0), type := 23, pos := "wal.go:83", after := #[], guard := none }) (v := ?v0) rfl (by kernel_rfl) (by kernel_rfl) (by kernel_rfl) (fun _ _ _ h => h) (Or.inl ⟨by rfl, ?hy0⟩) hHeld ?_
  case hy0 => (intro w hSw; (try dsimp only at hSw); go_simp; first | done | with_reducible rfl)
  try simp only [Act.put, List.setIfInBounds_toArray, List.set_cons_zero, List.set_cons_succ]
  refine wpAnyH_take (i := 1) (oi := { dst := some 4, op := Go.Op.nilCheck (Go.Operand.tmp 3), type := 0, pos := "wal.go:83", after := #[{ on := 0, ground := Go.Ground.data }], guard := none }) (v := ?v1) rfl (by kernel_rfl) (by kernel_rfl) (by kernel_rfl) (fun _ _ _ h => h) (Or.inl ⟨by rfl, ?hy1⟩) hHeld ?_
  case hy1 => (intro w hSw; (try dsimp only at hSw); go_simp; first | done | with_reducible rfl)
  try simp only [Act.put, List.setIfInBounds_toArray, List.set_cons_zero, List.set_cons_succ]
  refine wpAnyH_take (i := 2) (oi := { dst := some 5, op := Go.Op.fieldAddr 43 (Go.Operand.tmp 4) 0, type := 0, pos := "wal.go:83", after := #[{ on := 1, ground := Go.Ground.data }], guard := none }) (v := ?v2) rfl (by kernel_rfl) (by kernel_rfl) (by kernel_rfl) (fun _ _ _ h => h) (Or.inl ⟨by rfl, ?hy2⟩) hHeld ?_
  case hy2 => (intro w hSw; (try dsimp only at hSw); go_simp; first | done | with_reducible rfl)
  try simp only [Act.put, List.setIfInBounds_toArray, List.set_cons_zero, List.set_cons_succ]
  refine wpAnyH_take (i := 3) (oi := { dst := some 6, op := Go.Op.load 32 (Go.Operand.tmp 5), type := 32, pos := "wal.go:83", after := #[{ on := 2, ground := Go.Ground.data }], guard := none }) (v := ?v3) rfl (by kernel_rfl) (by kernel_rfl) (by kernel_rfl) (fun _ _ _ h => h) (Or.inl ⟨by rfl, ?hy3⟩) hHeld ?_
  case hy3 => (intro w hSw; (try dsimp only at hSw); go_simp; first | done | with_reducible rfl)
  try simp only [Act.put, List.setIfInBounds_toArray, List.set_cons_zero, List.set_cons_succ]
  refine wpAnyH_take (i := 4) (oi := { dst := some 7, op := Go.Op.load 23 (Go.Operand.tmp 0), type := 23, pos := "wal.go:83", after := #[], guard := none }) (v := ?v4) rfl (by kernel_rfl) (by kernel_rfl) (by kernel_rfl) (fun _ _ _ h => h) (Or.inl ⟨by rfl, ?hy4⟩) hHeld ?_
  case hy4 => (intro w hSw; (try dsimp only at hSw); go_simp; first | done | with_reducible rfl)
  try simp only [Act.put, List.setIfInBounds_toArray, List.set_cons_zero, List.set_cons_succ]
  refine wpAnyH_take (i := 5) (oi := { dst := some 8, op := Go.Op.load 22 (Go.Operand.tmp 1), type := 22, pos := "wal.go:83", after := #[], guard := none }) (v := ?v5) rfl (by kernel_rfl) (by kernel_rfl) (by kernel_rfl) (fun _ _ _ h => h) (Or.inl ⟨by rfl, ?hy5⟩) hHeld ?_
  case hy5 => (intro w hSw; (try dsimp only at hSw); go_simp; first | done | with_reducible rfl)
  try simp only [Act.put, List.setIfInBounds_toArray, List.set_cons_zero, List.set_cons_succ]
  refine wpAnyH_ready (rs := [6]) (by kernel_rfl) (by simp) ?_
  refine AllReadyH.cons (o := { dst := some 9, op := Go.Op.call { callee := Go.Callee.value (Go.Operand.func 30), args := #[Go.Operand.tmp 7, Go.Operand.tmp 8], argTypes := #[23, 22] }, type := 24, pos := "wal.go:83", after := #[{ on := 4, ground := Go.Ground.data }, { on := 5, ground := Go.Ground.data }], guard := none }) rfl (fun K hK => ?_) AllReadyH.nil
  go_simp
  refine HCO.out.mono ?_
  rintro e w1 ⟨v, rfl, hown, hb1⟩
  obtain ⟨A', c', rfl, hrd⟩ := Own.slice hown s.bytes (cmt_len _ _ (by rw [HLN.out]; exact HL3.out))
  have HC := Lib.hid (Write_any w1 g s D (HW.out.below (HBD.out.trans hb1)).disk HF.out hd 0 A' s.bytes c' _ hrd (by omega))
  have HB1 := Lib.hid hb1
  have hS1 := hKeep w1 (hb1)
  clear hown hrd hb1
  go_wp2_with fail
  refine hK.out _ _ (hS1) (fun hHeld => ?_)
  clear hK K
  try simp only [Act.put, List.setIfInBounds_toArray, List.set_cons_zero, List.set_cons_succ]
  refine wpAnyH_ready (rs := [7]) (by kernel_rfl) (by simp) ?_
  refine AllReadyH.cons (o := { dst := some 10, op := Go.Op.call { callee := Go.Callee.value (Go.Operand.func 29), args := #[Go.Operand.tmp 6, Go.Operand.const (Go.Value.int Go.IntKind.i64 0), Go.Operand.tmp 9], argTypes := #[32, 3, 24] }, type := 25, pos := "wal.go:83", after := #[{ on := 3, ground := Go.Ground.data }, { on := 6, ground := Go.Ground.data }, { on := 6, ground := Go.Ground.chain }], guard := none }) rfl (fun K hK => ?_) AllReadyH.nil
  go_simp
  refine HC.out.mono ?_
  rintro e w2 ⟨rfl, hdid⟩
  have HDID := Lib.hid hdid
  have hS2 := hKeep2 w1 w2 HB1.out HDID.out
  clear hdid
  go_wp2_with fail
  refine hK.out _ _ (hS2) (fun hHeld => ?_)
  clear hK K
  try simp only [Act.put, List.setIfInBounds_toArray, List.set_cons_zero, List.set_cons_succ]
  refine wpAnyH_take (i := 8) (oi := { dst := some 2, op := Go.Op.assign (Go.Operand.tmp 10), type := 25, pos := "wal.go:83", after := #[{ on := 7, ground := Go.Ground.data }, { on := 7, ground := Go.Ground.chain }, { on := 0, ground := Go.Ground.phase }, { on := 1, ground := Go.Ground.phase }, { on := 2, ground := Go.Ground.phase }, { on := 3, ground := Go.Ground.phase }, { on := 4, ground := Go.Ground.phase }, { on := 5, ground := Go.Ground.phase }, { on := 6, ground := Go.Ground.phase }, { on := 7, ground := Go.Ground.phase }], guard := none }) (v := ?v8) rfl (by kernel_rfl) (by kernel_rfl) (by kernel_rfl) (fun _ _ _ h => h) (Or.inl ⟨by rfl, ?hy8⟩) hHeld ?_
  case hy8 => (intro w hSw; (try dsimp only at hSw); go_simp; first | done | with_reducible rfl)
  try simp only [Act.put, List.setIfInBounds_toArray, List.set_cons_zero, List.set_cons_succ]
  refine wpAnyH_done (by kernel_rfl) ?_ _
  go_wp2
  go_ret
  exact ⟨rfl, (HW.out.below (HBD.out.trans HB1.out)).did (fun _ h => .inl h) (Fr.of (HBD.out.trans HB1.out)) HDID.out HSZ.out⟩
end Go.Proofs.Ytabffjahelogkaa
