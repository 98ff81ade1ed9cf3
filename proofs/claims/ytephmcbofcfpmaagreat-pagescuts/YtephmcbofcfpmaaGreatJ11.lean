/- The log is written; the blocks are. Conditions: none. The commit is unset. Conditions: none. -/
import Derived.Test.YtephmcbofcfpmaaGreatJ10
import Derived.Deep.RegionHeld3
set_option maxRecDepth 8000
set_option linter.unusedSimpArgs false
set_option linter.unusedVariables false
namespace Go.Proofs.YtephmcbofcfpmaaGreat
open Go.RowKit Go.Bs Go.Dk

theorem ch_info : (Tryz.prog.info? 169).map (fun i => (i.zero, i.size, i.bytes)) = some (some (.agg #[.int .i64 0, .slice none 0 0]), 2, 32) := by kernel_rfl

/-- so far k writes have gone well. -/
def Put (w : World) (D : Nat → Prop) (p g : Nat) (s : S) (log : Nat) (down : Bool) (L : List Ch) (k : Nat) (wr : World) : Prop :=
  ∃ s' D', s.puts (L.take k) = (s', 0) ∧ s'.Fine ∧ s'.deeds ≤ s.deeds + k ∧ (s'.sectors = s.sectors ∧ s'.bytes = s.bytes) ∧ WalAt wr p g s' log down D' ∧ (∀ k, D' k → D k ∨ w.heap.size ≤ k) ∧ Fr D w wr

theorem puts_deeds (L : List Ch) (s : S) : (s.puts L).1.deeds ≤ s.deeds + L.length := by
  induction L generalizing s with
  | nil => exact Nat.le_refl _
  | cons x L ih =>
    have h1 := S.write_deeds s x.1 x.2
    have h2 := ih (s.write x.1 x.2).1
    unfold S.puts
    split
    · simp; omega
    · simp; omega

set_option maxHeartbeats 2000000 in
theorem writeLog_any (w : World) (p g : Nat) (s : S) (log : Nat) (down : Bool) (D : Nat → Prop) (h : WalAt w p g s log down D) (A : Option Addr) (n c : Nat) (l : List Ch) (K : Nat → Prop) (hl : Chs w A n c l K) (hKD : ∀ k, K k → ¬ D k)
    (hn : n ≤ 65536) (hd : s.deeds + n < 900000) (hf : s.Fine) (hlen : ∀ j, j < n → (chAt l j).2.length ≤ 100000) :
    Calls Tryz.prog 114 #[.pointer (some ⟨p, 0, none⟩), .slice A n c] w fun e w' => e = .returned (.int .i64 (s.puts (logL l)).2) ∧ Wd D p g (s.puts (logL l)).1 log down w w' := by
  have H := Lib.hid h
  have HL := Lib.hid hl
  have HF := Lib.hid hf
  have hnl := hl.len
  clear h hl hf
  obtain ⟨R, hR⟩ : ∃ R, s.puts (logL l) = R := ⟨_, rfl⟩
  rw [hR]
  have HR := Lib.hid hR
  clear hR
  go_enter Tryz.func114, Tryz.ntmps114
  go_wp2
  go_loopw [10] (fun i wr => ∃ k : Nat, k ≤ n ∧ i = .int .i64 k ∧ Put w D p g s log down (logL l) k wr) (fun i _ => n - (RowKit.intOf i).toNat)
  case atStart => exact ⟨0, Nat.zero_le _, rfl, s, D, by rw [List.take_zero]; rfl, HF.out, Nat.le_refl _, ⟨rfl, rfl⟩, H.out, fun _ h => .inl h, Fr.refl _ _⟩
  case round =>
    obtain ⟨k, hk, rfl, s', D', e1, e2, e3, e4, hW, hD', hfr⟩ := hrel
    by_cases hlt : k < n
    · obtain ⟨q, o, B, m, cc, rfl, hq, i0, i1, ib, hBK, hrd⟩ := (HL.out.fr hfr hKD).at_ k hlt
      have hqlt := Nat.lt_of_lt_of_le (HL.out.lt q hq) hfr.size
      obtain ⟨x, hx⟩ : ∃ x, (chAt l k).1 = x := ⟨_, rfl⟩
      rw [hx] at i0
      obtain ⟨z, hz⟩ : ∃ z, wr.heap.size = z := ⟨_, rfl⟩
      obtain ⟨W1, hW1⟩ : ∃ W1, wr.alloc (.cells #[.int .i64 x, .slice B m cc] 169) = W1 := ⟨_, rfl⟩
      have hb1 : Below wr.heap.size wr W1 := by rw [← hW1]; exact (Below.refl _ _).alloc (Nat.le_refl _) _
      have hz1 : W1.heap[z]? = some (.cells #[.int .i64 x, .slice B m cc] 169 (0, 0)) := by rw [← hW1, ← hz]; exact heap_alloc_new wr _
      have z1 : W1.cell? ⟨z, 1, none⟩ = some (.slice B m cc) := by rw [cell_of_row W1 z _ _ 169 (0, 0) hz1]; rfl
      have hb2 : Below wr.heap.size wr W1.drew := hb1.drew
      have hW2 := hW.below hb2
      obtain ⟨c0, _, _, _⟩ := wc_cells (hW.below hb1).row
      have hml := hrd.len
      have hmb := hlen k hlt
      have HC := Lib.hid (Write_any W1.drew g s' D' hW2.disk e2 (by omega) (1 + (k : Int)) B m cc _ (hrd.keep hb2) (by omega))
      have HP := Lib.hid (S.puts_snoc _ (1 + (k : Int), (chAt l k).2) _ _ e1)
      rw [← logL_take l k (by omega)] at HP
      have HW := Lib.hid hW2
      have HFR := Lib.hid (hfr.trans (Fr.of hb2))
      have HD' := Lib.hid hD'
      have HFN := Lib.hid (e2.write (1 + (k : Int)) (chAt l k).2)
      have HDD := Lib.hid (S.write_deeds s' (1 + (k : Int)) (chAt l k).2)
      have HSZ := Lib.hid (S.write_sz s' (1 + (k : Int)) (chAt l k).2)
      have HE3 := Lib.hid e3
      have HE4 := Lib.hid e4
      clear hx ib hml hmb hlen hb1 hz1 hb2 hW2 hrd hW hfr hD' e1 e2 e3 e4 hBK
      go_wp2_with fail
      go_still_tail 8, mixed
      go_wp2_with fail
      refine HC.out.mono ?_
      rintro e w1 ⟨rfl, hdid⟩
      obtain ⟨D2, h3, h4, h5⟩ := HW.out.did HD'.out HFR.out hdid HSZ.out
      have HW3 := Lib.hid h3
      have HD4 := Lib.hid h4
      have HF5 := Lib.hid h5
      by_cases hr : (s'.write (1 + (k : Int)) (chAt l k).2).2 = 0
      · rw [hr]
        clear h3 h4 h5 hdid
        go_wp2
        go_roundw
        case rel => exact ⟨k + 1, by omega, by go_num, _, D2, HP.out.trans (by rw [← hr]), HFN.out, by have := HDD.out; have := HE3.out; omega, ⟨HSZ.out.1.trans HE4.out.1, HSZ.out.2.trans HE4.out.2⟩, HW3.out, HD4.out, HF5.out⟩
        case measure => simp [RowKit.intOf]; omega
      · have hst : s.puts (logL l) = s'.write (1 + (k : Int)) (chAt l k).2 := by
          have h1 := S.puts_stop ((logL l).take (k + 1)) ((logL l).drop (k + 1)) s (by rw [HP.out]; exact hr)
          rw [List.take_append_drop] at h1
          exact h1.trans HP.out
        have HST := Lib.hid (HR.out.symm.trans hst)
        obtain ⟨y, hy⟩ : ∃ y, (s'.write (1 + (k : Int)) (chAt l k).2).2 = y := ⟨_, rfl⟩
        rw [hy] at hr ⊢
        have HY := Lib.hid hy
        clear h3 h4 h5 hdid hst hy
        go_wp2
        go_ret
        exact ⟨by rw [HST.out, HY.out]; rfl, D2, by rw [HST.out]; exact HW3.out, HD4.out, HF5.out⟩
    · obtain rfl : k = n := by omega
      have hall : (logL l).take k = logL l := List.take_of_length_le (by simp [logL, hnl])
      rw [hall] at e1
      have HE := Lib.hid (HR.out.symm.trans e1)
      have HW := Lib.hid hW
      have HFR := Lib.hid hfr
      have HD' := Lib.hid hD'
      clear hW hfr hD' e1 e2 e3 e4 hall
      go_wp2
      go_ret
      exact ⟨by rw [HE.out]; rfl, D', by rw [HE.out]; exact HW.out, HD'.out, HFR.out⟩
set_option maxHeartbeats 2000000 in
theorem writeBlocks_any (w : World) (p g : Nat) (s : S) (log : Nat) (down : Bool) (D : Nat → Prop) (h : WalAt w p g s log down D) (A : Option Addr) (n c : Nat) (l : List Ch) (K : Nat → Prop) (hl : Chs w A n c l K) (hKD : ∀ k, K k → ¬ D k)
    (hn : n ≤ 65536) (hd : s.deeds + n < 900000) (hf : s.Fine) (hlen : ∀ j, j < n → (chAt l j).2.length ≤ 100000) (hsec : ∀ j, j < n → 0 ≤ (chAt l j).1 ∧ (chAt l j).1 ≤ 65536) :
    Calls Tryz.prog 145 #[.pointer (some ⟨p, 0, none⟩), .slice A n c] w fun e w' => e = .returned (.int .i64 (s.puts (blkL log l)).2) ∧ Wd D p g (s.puts (blkL log l)).1 log down w w' := by
  have H := Lib.hid h
  have HL := Lib.hid hl
  have HF := Lib.hid hf
  have hnl := hl.len
  clear h hl hf
  obtain ⟨R, hR⟩ : ∃ R, s.puts (blkL log l) = R := ⟨_, rfl⟩
  rw [hR]
  have HR := Lib.hid hR
  clear hR
  go_enter Tryz.func145, Tryz.ntmps145
  go_wp2
  go_loopw [10] (fun i wr => ∃ k : Nat, k ≤ n ∧ i = .int .i64 k ∧ Put w D p g s log down (blkL log l) k wr) (fun i _ => n - (RowKit.intOf i).toNat)
  case atStart => exact ⟨0, Nat.zero_le _, rfl, s, D, by rw [List.take_zero]; rfl, HF.out, Nat.le_refl _, ⟨rfl, rfl⟩, H.out, fun _ h => .inl h, Fr.refl _ _⟩
  case round =>
    obtain ⟨k, hk, rfl, s', D', e1, e2, e3, e4, hW, hD', hfr⟩ := hrel
    by_cases hlt : k < n
    · obtain ⟨q, o, B, m, cc, rfl, hq, i0, i1, ib, hBK, hrd⟩ := (HL.out.fr hfr hKD).at_ k hlt
      have hqlt := Nat.lt_of_lt_of_le (HL.out.lt q hq) hfr.size
      obtain ⟨x, hx⟩ : ∃ x, (chAt l k).1 = x := ⟨_, rfl⟩
      have hxb := hsec k hlt
      rw [hx] at i0 hxb
      obtain ⟨z, hz⟩ : ∃ z, wr.heap.size = z := ⟨_, rfl⟩
      obtain ⟨W1, hW1⟩ : ∃ W1, wr.alloc (.cells #[.int .i64 x, .slice B m cc] 169) = W1 := ⟨_, rfl⟩
      have hb1 : Below wr.heap.size wr W1 := by rw [← hW1]; exact (Below.refl _ _).alloc (Nat.le_refl _) _
      have hz1 : W1.heap[z]? = some (.cells #[.int .i64 x, .slice B m cc] 169 (0, 0)) := by rw [← hW1, ← hz]; exact heap_alloc_new wr _
      have z1 : W1.cell? ⟨z, 1, none⟩ = some (.slice B m cc) := by rw [cell_of_row W1 z _ _ 169 (0, 0) hz1]; rfl
      have hb2 : Below wr.heap.size wr W1.drew := hb1.drew
      have hW2 := hW.below hb2
      obtain ⟨c0, _, _, _⟩ := wc_cells (hW.below hb1).row
      have hml := hrd.len
      have hmb := hlen k hlt
      have z0 : W1.cell? ⟨z, 0, none⟩ = some (.int .i64 x) := by rw [cell_of_row W1 z _ _ 169 (0, 0) hz1]; rfl
      have HSC := Lib.hid (sector_any W1.drew p g log down hW2.row (by have := hW2.l1; have := hW2.disk.ok.s1; omega) x (by omega))
      have hbt := blkL_take log l k (by omega)
      rw [hx] at hbt
      have HC := Lib.hid (Write_any W1.drew g s' D' hW2.disk e2 (by omega) (1 + (log : Int) + x) B m cc _ (hrd.keep hb2) (by omega))
      have HP := Lib.hid (S.puts_snoc _ (1 + (log : Int) + x, (chAt l k).2) _ _ e1)
      rw [← hbt] at HP
      have HW := Lib.hid hW2
      have HFR := Lib.hid (hfr.trans (Fr.of hb2))
      have HD' := Lib.hid hD'
      have HFN := Lib.hid (e2.write (1 + (log : Int) + x) (chAt l k).2)
      have HDD := Lib.hid (S.write_deeds s' (1 + (log : Int) + x) (chAt l k).2)
      have HSZ := Lib.hid (S.write_sz s' (1 + (log : Int) + x) (chAt l k).2)
      have HE3 := Lib.hid e3
      have HE4 := Lib.hid e4
      clear hbt hx ib hml hmb hlen hb1 hz1 hb2 hW2 hrd hW hfr hD' e1 e2 e3 e4 hBK
      go_wp2_with fail
      go_still_tail 10, mixed
      still_call (HSC.out.mono fun _ _ h => ⟨h.1, h.2.symm⟩)
      repeat still_step
      refine wpStill_nil ?_
      go_wp2_with fail
      refine HC.out.mono ?_
      rintro e w1 ⟨rfl, hdid⟩
      obtain ⟨D2, h3, h4, h5⟩ := HW.out.did HD'.out HFR.out hdid HSZ.out
      have HW3 := Lib.hid h3
      have HD4 := Lib.hid h4
      have HF5 := Lib.hid h5
      by_cases hr : (s'.write (1 + (log : Int) + x) (chAt l k).2).2 = 0
      · rw [hr]
        clear h3 h4 h5 hdid
        go_wp2
        go_roundw
        case rel => exact ⟨k + 1, by omega, by go_num, _, D2, HP.out.trans (by rw [← hr]), HFN.out, by have := HDD.out; have := HE3.out; omega, ⟨HSZ.out.1.trans HE4.out.1, HSZ.out.2.trans HE4.out.2⟩, HW3.out, HD4.out, HF5.out⟩
        case measure => simp [RowKit.intOf]; omega
      · have hst : s.puts (blkL log l) = s'.write (1 + (log : Int) + x) (chAt l k).2 := by
          have h1 := S.puts_stop ((blkL log l).take (k + 1)) ((blkL log l).drop (k + 1)) s (by rw [HP.out]; exact hr)
          rw [List.take_append_drop] at h1
          exact h1.trans HP.out
        have HST := Lib.hid (HR.out.symm.trans hst)
        obtain ⟨y, hy⟩ : ∃ y, (s'.write (1 + (log : Int) + x) (chAt l k).2).2 = y := ⟨_, rfl⟩
        rw [hy] at hr ⊢
        have HY := Lib.hid hy
        clear h3 h4 h5 hdid hst hy
        go_wp2
        go_ret
        exact ⟨by rw [HST.out, HY.out]; rfl, D2, by rw [HST.out]; exact HW3.out, HD4.out, HF5.out⟩
    · obtain rfl : k = n := by omega
      have hall : (blkL log l).take k = blkL log l := List.take_of_length_le (by simp [blkL, hnl])
      rw [hall] at e1
      have HE := Lib.hid (HR.out.symm.trans e1)
      have HW := Lib.hid hW
      have HFR := Lib.hid hfr
      have HD' := Lib.hid hD'
      clear hW hfr hD' e1 e2 e3 e4 hall
      go_wp2
      go_ret
      exact ⟨by rw [HE.out]; rfl, D', by rw [HE.out]; exact HW.out, HD'.out, HFR.out⟩
end Go.Proofs.YtephmcbofcfpmaaGreat

set_option maxRecDepth 8000
set_option linter.unusedSimpArgs false
set_option linter.unusedVariables false
namespace Go.Proofs.YtephmcbofcfpmaaGreat
open Go.RowKit Go.Bs Go.Dk

set_option maxHeartbeats 2000000 in
theorem unset_any (w : World) (p g : Nat) (s : S) (log : Nat) (down : Bool) (D : Nat → Prop) (h : WalAt w p g s log down D) (hd : s.deeds < 900000) (hf : s.Fine) :
    Calls Tryz.prog 146 #[.pointer (some ⟨p, 0, none⟩)] w fun e w' => e = .returned (.int .i64 (s.write 0 (zeros s.bytes)).2) ∧ Wd D p g (s.write 0 (zeros s.bytes)).1 log down w w' := by
  have HS := Lib.hid (Size_any w g s D h.disk)
  obtain ⟨c0, _, _, _⟩ := wc_cells h.row
  have hb1 := h.disk.ok.b1
  obtain ⟨n, hn⟩ : ∃ n, s.bytes = n := ⟨_, rfl⟩
  have HW := Lib.hid h
  have HSZ := Lib.hid (S.write_sz s 0 (zeros n))
  have HF := Lib.hid hf
  obtain ⟨R, hR⟩ : ∃ R, s.write 0 (zeros n) = R := ⟨_, rfl⟩
  have HR := Lib.hid hR
  rw [hn] at HS hb1 ⊢
  rw [hR] at HSZ ⊢
  clear h hf hn hR
  go_enter Tryz.func146, Tryz.ntmps146
  go_wp2_with fail
  refine HS.out.mono ?_
  rintro e w1 ⟨rfl, k, rfl⟩
  obtain ⟨W1, hW1⟩ : ∃ W1, w.drewN k = W1 := ⟨_, rfl⟩
  have hbW : Below w.heap.size w W1 := by rw [← hW1]; exact below_drewN (Below.refl _ _) _
  rw [hW1]
  clear hW1
  have c0' : W1.cell? ⟨p, 0, none⟩ = some (.pointer (some ⟨g, 0, none⟩)) := (wc_cells (HW.out.below hbW).row).1
  have hmk := make_zeros n (by omega) W1.drew
  obtain ⟨X, hX⟩ : ∃ X, W1.drew.alloc (rowObj 5 (zeros n)) = X := ⟨_, rfl⟩
  have hXb : Below w.heap.size w X := by rw [← hX]; exact hbW.drew.alloc hbW.size _
  have hrd : Rd X (some ⟨W1.drew.heap.size, 0, none⟩) n n (zeros n) := by rw [← hX]; exact (Blk.new W1.drew 5 (zeros n)).all' n n (zeros_length n) (Nat.le_refl _)
  have HC := Lib.hid (Write_any X g s D (HW.out.below hXb).disk HF.out hd 0 _ n n _ hrd (by omega))
  rw [HR.out] at HC
  have c0X := (wc_cells (HW.out.below hXb).row).1
  have c0d : W1.drew.cell? ⟨p, 0, none⟩ = some (.pointer (some ⟨g, 0, none⟩)) := c0'
  obtain ⟨z, hz⟩ : ∃ z, W1.drew.heap.size = z := ⟨_, rfl⟩
  have hrowK : ∀ {w2 : World}, Did D g R.1 X w2 → w2.cell? ⟨p, 0, none⟩ = some (.pointer (some ⟨g, 0, none⟩)) := fun hd => by
    obtain ⟨D2, h3, h4, h5⟩ := hd
    exact (World.cell?_of_block (a := ⟨p, 0, none⟩) (h5.block p (Array.getElem?_eq_some_iff.1 (HW.out.below hXb).row).1 HW.out.pD)).trans c0X
  rw [hz] at hmk HC
  rw [hX] at hmk
  have HXB := Lib.hid hXb
  clear hXb hrd hz hX hbW
  go_wp2_with fail
  refine wp_region_held_drew (S := fun W => W.cell? ⟨p, 0, none⟩ = some (.pointer (some ⟨g, 0, none⟩))) (by kernel_rfl) (c0d) (fun hHeld => ?_)
  refine wpAnyH_take (i := 0) (oi := { dst := some 13, op := Go.Op.move (Go.Operand.tmp 0), type := 90, pos := "wal.go:147", after := #[], guard := none }) (v := ?v0) rfl (by kernel_rfl) (by kernel_rfl) (by kernel_rfl) (fun _ _ _ h => h) (Or.inl ⟨by rfl, ?hy0⟩) hHeld ?_
  case hy0 => (intro w hSw; (try dsimp only at hSw); go_simp; first | done | with_reducible rfl)
  try simp only [Act.put, List.setIfInBounds_toArray, List.set_cons_zero, List.set_cons_succ]
  refine wpAnyH_take (i := 1) (oi := { dst := some 14, op := Go.Op.nilCheck (Go.Operand.tmp 13), type := 0, pos := "wal.go:147", after := #[{ on := 0, ground := Go.Ground.data }], guard := none }) (v := ?v1) rfl (by kernel_rfl) (by kernel_rfl) (by kernel_rfl) (fun _ _ _ h => h) (Or.inl ⟨by rfl, ?hy1⟩) hHeld ?_
  case hy1 => (intro w hSw; (try dsimp only at hSw); go_simp; first | done | with_reducible rfl)
  try simp only [Act.put, List.setIfInBounds_toArray, List.set_cons_zero, List.set_cons_succ]
  refine wpAnyH_take (i := 2) (oi := { dst := some 15, op := Go.Op.fieldAddr 163 (Go.Operand.tmp 14) 0, type := 0, pos := "wal.go:147", after := #[{ on := 1, ground := Go.Ground.data }], guard := none }) (v := ?v2) rfl (by kernel_rfl) (by kernel_rfl) (by kernel_rfl) (fun _ _ _ h => h) (Or.inl ⟨by rfl, ?hy2⟩) hHeld ?_
  case hy2 => (intro w hSw; (try dsimp only at hSw); go_simp; first | done | with_reducible rfl)
  try simp only [Act.put, List.setIfInBounds_toArray, List.set_cons_zero, List.set_cons_succ]
  refine wpAnyH_take (i := 3) (oi := { dst := some 16, op := Go.Op.load 25 (Go.Operand.tmp 15), type := 25, pos := "wal.go:147", after := #[{ on := 2, ground := Go.Ground.data }], guard := none }) (v := ?v3) rfl (by kernel_rfl) (by kernel_rfl) (by kernel_rfl) (fun _ _ _ h => h) (Or.inl ⟨by rfl, ?hy3⟩) hHeld ?_
  case hy3 => (intro w hSw; (try dsimp only at hSw); go_simp; first | done | with_reducible rfl)
  try simp only [Act.put, List.setIfInBounds_toArray, List.set_cons_zero, List.set_cons_succ]
  refine wpAnyH_take (i := 4) (oi := { dst := some 17, op := Go.Op.move (Go.Operand.tmp 4), type := 3, pos := "wal.go:147", after := #[], guard := none }) (v := ?v4) rfl (by kernel_rfl) (by kernel_rfl) (by kernel_rfl) (fun _ _ _ h => h) (Or.inl ⟨by rfl, ?hy4⟩) hHeld ?_
  case hy4 => (intro w hSw; (try dsimp only at hSw); go_simp; first | done | with_reducible rfl)
  try simp only [Act.put, List.setIfInBounds_toArray, List.set_cons_zero, List.set_cons_succ]
  refine wpAnyH_ready (rs := [5]) (by kernel_rfl) (by simp) ?_
  refine AllReadyH.cons (o := { dst := some 18, op := Go.Op.makeSlice 39 (Go.Operand.tmp 17) (Go.Operand.tmp 17), type := 39, pos := "wal.go:147", after := #[{ on := 4, ground := Go.Ground.data }, { on := 4, ground := Go.Ground.data }], guard := none }) rfl (fun K hK => ?_) AllReadyH.nil
  go_simp
  refine hK.out _ _ (c0X) (fun hHeld => ?_)
  clear hK K
  try simp only [Act.put, List.setIfInBounds_toArray, List.set_cons_zero, List.set_cons_succ]
  refine wpAnyH_ready (rs := [6]) (by kernel_rfl) (by simp) ?_
  refine AllReadyH.cons (o := { dst := some 19, op := Go.Op.call { callee := Go.Callee.value (Go.Operand.func 117), args := #[Go.Operand.tmp 16, Go.Operand.const (Go.Value.int Go.IntKind.i64 0), Go.Operand.tmp 18], argTypes := #[25, 3, 39] }, type := 26, pos := "wal.go:147", after := #[{ on := 3, ground := Go.Ground.data }, { on := 5, ground := Go.Ground.data }], guard := none }) rfl (fun K hK => ?_) AllReadyH.nil
  go_simp
  refine HC.out.mono ?_
  rintro e w2 ⟨rfl, hdid⟩
  have HDID := Lib.hid hdid
  have c0Y : w2.cell? ⟨p, 0, none⟩ = some (.pointer (some ⟨g, 0, none⟩)) := hrowK hdid
  clear hdid
  go_wp2_with fail
  refine hK.out _ _ (c0Y) (fun hHeld => ?_)
  clear hK K
  try simp only [Act.put, List.setIfInBounds_toArray, List.set_cons_zero, List.set_cons_succ]
  refine wpAnyH_take (i := 7) (oi := { dst := some 2, op := Go.Op.assign (Go.Operand.tmp 19), type := 26, pos := "wal.go:147", after := #[{ on := 6, ground := Go.Ground.data }, { on := 6, ground := Go.Ground.chain }, { on := 0, ground := Go.Ground.phase }, { on := 1, ground := Go.Ground.phase }, { on := 2, ground := Go.Ground.phase }, { on := 3, ground := Go.Ground.phase }, { on := 4, ground := Go.Ground.phase }, { on := 5, ground := Go.Ground.phase }, { on := 6, ground := Go.Ground.phase }], guard := none }) (v := ?v7) rfl (by kernel_rfl) (by kernel_rfl) (by kernel_rfl) (fun _ _ _ h => h) (Or.inl ⟨by rfl, ?hy7⟩) hHeld ?_
  case hy7 => (intro w hSw; (try dsimp only at hSw); go_simp; first | done | with_reducible rfl)
  try simp only [Act.put, List.setIfInBounds_toArray, List.set_cons_zero, List.set_cons_succ]
  refine wpAnyH_done (by kernel_rfl) ?_ _
  go_wp2
  go_ret
  exact ⟨rfl, (HW.out.below HXB.out).did (fun _ h => .inl h) (Fr.of HXB.out) HDID.out HSZ.out⟩
end Go.Proofs.YtephmcbofcfpmaaGreat

