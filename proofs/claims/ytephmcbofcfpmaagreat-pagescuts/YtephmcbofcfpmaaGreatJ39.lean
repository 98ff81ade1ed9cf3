/- The document's transactions: SetRoot. Conditions: none. The document's pages: Free. Conditions: none. -/
import Derived.Test.YtephmcbofcfpmaaGreatJ38
set_option maxRecDepth 8000
set_option linter.unusedSimpArgs false
set_option linter.unusedVariables false
namespace Go.Proofs.YtephmcbofcfpmaaGreat.Rp
open Go.RowKit Go.Bs Go.Dk

theorem wpQuiet_skip {P : Program} {ops : Array Oper} {C : World → Prop} {Q : Act → Prop} {a : Act} {o : Oper} {rest : List Oper} (hw : Region.wanted o (yielded ops a.tmps) = false) (h : wpQuiet P ops C Q rest (a.put o.dst undef)) : wpQuiet P ops C Q (o :: rest) a := by
  simp only [wpQuiet, hw]
  exact h
/-- a row of bytes out of a text. -/
def Bz (w : World) (z n : Nat) (bs : List UInt8) : Prop := bs.length = n ∧ ∃ cs, w.heap[z]? = some (.cells cs 5 (cs.size, cs.size + 1)) ∧ n ≤ cs.size ∧ ∀ j, j < n → cs[j]? = some (B (bs.getD j 0))
theorem Bz.cell {w : World} {z n : Nat} {bs : List UInt8} (h : Bz w z n bs) (j : Nat) (hj : j < n) : w.cell? ⟨z, j, none⟩ = some (B (bs.getD j 0)) := by
  obtain ⟨_, cs, h1, h2, h3⟩ := h
  rw [cell_of_row w z j _ 5 _ h1]
  exact h3 j hj
theorem Bz.frozen {w : World} {z n : Nat} {bs : List UInt8} (h : Bz w z n bs) (j : Nat) (hj : j < n) : w.frozen? ⟨z, j, none⟩ = false := by
  obtain ⟨_, cs, h1, h2, h3⟩ := h
  simp [World.frozen?, h1]
  omega
theorem Bz.set {w : World} {z n : Nat} {bs : List UInt8} (h : Bz w z n bs) (j : Nat) (hj : j < n) (x : UInt8) : Bz (w.setCell ⟨z, j, none⟩ (B x)) z n (bs.set j x) := by
  obtain ⟨h0, cs, h1, h2, h3⟩ := h
  refine ⟨by simp [h0], cs.setIfInBounds j (B x), ?_, by simpa using h2, fun i hi => ?_⟩
  · rw [setCell_eq_setRow w z j _ 5 _ _ h1, setRow_heap w z _ _ 5 _ h1]
    simp
  · by_cases e : i = j
    · subst e
      rw [Array.getElem?_setIfInBounds_self_of_lt (by omega)]
      simp [List.getD, h0, hi]
    · rw [Array.getElem?_setIfInBounds_ne (Ne.symm e), h3 i hi]
      simp [List.getD, List.getElem?_set_ne (Ne.symm e)]
theorem Bz.rd {w : World} {z n c : Nat} {bs : List UInt8} (h : Bz w z n bs) (hc : n ≤ c) : Rd w (some ⟨z, 0, none⟩) n c bs :=
  ⟨h.1, hc, fun h0 => ⟨z, 0, rfl, by have := lt_of_cell (h.cell 0 h0); exact this, fun j hj => by rw [Nat.zero_add]; exact h.cell j hj⟩⟩
theorem Bz.keep {w w' : World} {z n : Nat} {bs : List UInt8} (h : Bz w z n bs) (e : w'.heap[z]? = w.heap[z]?) : Bz w' z n bs := by
  obtain ⟨h0, cs, h1, h2⟩ := h
  exact ⟨h0, cs, e.trans h1, h2⟩
theorem str_bz (w : World) (bs : List UInt8) (n : Nat) (hn : bs.length = n) :
    ∃ c w', (convert 9 39 (.string ⟨bs.toArray⟩)).run Tryz.prog w = .ok (.slice (some ⟨w.heap.size, 0, none⟩) n c) w' ∧ Below w.heap.size w w' ∧ w'.heap.size = w.heap.size + 1 ∧ n ≤ c ∧ Bz w' w.heap.size n bs := by
  have hsz : (⟨bs.toArray⟩ : ByteArray).size = n := by simp [ByteArray.size, hn]
  have hrun := Lib.run_convert_string_bytes (P := Tryz.prog) w 9 39 5 ⟨bs.toArray⟩ Tryz.underlying9 Tryz.underlying39 Tryz.underlying5
  rw [hsz] at hrun
  have hnew := Lib.bytesWorld_at_new w 5 ⟨bs.toArray⟩
  have hcell : ∀ j, j < n → (Lib.bytesWorld w 5 ⟨bs.toArray⟩).cell? ⟨w.heap.size, j, none⟩ = some (B (bs.getD j 0)) := fun j hj => Lib.bytesWorld_cell w 5 ⟨bs.toArray⟩ j (by rw [hsz]; exact hj)
  have hge : n ≤ grownCap w n 0 5 := grownCap_ge _ _ _ _
  have hc2 : ∀ j, j < n → (Lib.bytesCells w 5 ⟨bs.toArray⟩)[j]? = some (B (bs.getD j 0)) := fun j hj => by
    have h1 := hcell j hj
    rwa [cell_of_row _ w.heap.size j _ 5 _ hnew] at h1
  refine ⟨_, _, hrun, ⟨rfl, rfl, rfl, by rw [Lib.bytesWorld_size]; omega, fun k hk => Lib.bytesWorld_at_old w 5 _ k hk⟩, Lib.bytesWorld_size _ _ _, hge, hn, _, hnew, ?_, hc2⟩
  rcases Nat.eq_zero_or_pos n with h | h
  · omega
  · have := (Array.getElem?_eq_some_iff.1 (hc2 (n - 1) (by omega))).1
    omega
def put4 (b : List UInt8) (p : Nat) : List UInt8 := (((b.set 0 (byteAt p 0)).set 1 (byteAt p 1)).set 2 (byteAt p 2)).set 3 (byteAt p 3)
set_option maxHeartbeats 4000000 in
theorem SetRoot_yes (w : World) (r t N B M Log : Nat) (L : Nat → List UInt8) (T : TX) (D : Nat → Prop) (h : PTAt w r t N B M Log L T D) (q : Nat) (hq : q ≤ 100000) (hdf : T.done = false) (hok : q = 0 ∨ usedP N B M T.L (q : Int) = true) :
    Calls Tryz.prog 28 #[.pointer (some ⟨t, 0, none⟩), .int .i64 (q : Int)] w fun e w' => e = .returned (.int .i64 0) ∧ PDid D r t N B M Log L { T with L := Dk.upd T.L M (putK (T.L M) q 4), root := true } w w' := by
  obtain ⟨lb, cap, lt, capt, wb, capw, h⟩ := h
  obtain ⟨d0, d1, _, _, d4, _⟩ := tc_cells h.rowT
  have d1' : w.cell? ⟨t, 1, none⟩ = some (.slice (some ⟨lt, 0, none⟩) N capt) := d1
  have HPT := Lib.hid h
  have hn1 := h.dT.n1
  have hb0 := h.dT.b0
  have hb1 := h.dT.b1
  have hmn := h.dT.mn
  have hMN : M < N := by omega
  have HU := Lib.hid (h.used (q : Int))
  rw [hdf] at d4
  have htl : t ≠ lt := h.apart.2.2.2.2.2.1
  have hlen := h.dT.len M hMN
  obtain ⟨bs, hbs⟩ : ∃ bs, T.L M = bs := ⟨_, rfl⟩
  have HBS := Lib.hid hbs
  rw [hbs] at hlen ⊢
  rcases Nat.eq_zero_or_pos q with h0 | h0
  · subst h0
    clear h d1 hbs
    have hz0 : ((0 : Nat) : Int) = 0 := rfl
    go_enter Tryz.func28, Tryz.ntmps28
    go_wp2_with fail
    refine wp_region_quiet_lit ?_ ?_ ?_
    · kernel_rfl
    · kernel_rfl
    repeat (first | (with_reducible refine wpQuiet_step (fun K hK => ?_); go_simp; first | (refine hK _ ?_; clear hK K) | (apply Exists.intro; refine ⟨fun _ => ?_, hK _ ?_⟩; (go_at_call 66; exact HU.out _); clear hK K)) | ((with_reducible refine wpQuiet_skip ?hwq ?_); (case hwq => rfl); simp only [Act.put, List.setIfInBounds_toArray, List.set_cons_zero, List.set_cons_succ]))
    with_reducible refine wpQuiet_nil ?_
    rintro _ ⟨nq, rfl⟩
    obtain ⟨Y, hY⟩ : ∃ Y, w.drewN nq = Y := ⟨_, rfl⟩
    have hPY : PT Y.drew r t N B M Log L T D lb cap lt capt wb capw := by rw [← hY]; exact (HPT.out.at nq).keepW (Nat.le_refl _) fun _ _ => rfl
    have f0 : Y.cell? ⟨t, 0, none⟩ = some (.pointer (some ⟨r, 0, none⟩)) := (tc_cells hPY.rowT).1
    have f1 : Y.cell? ⟨t, 1, none⟩ = some (.slice (some ⟨lt, 0, none⟩) N capt) := (tc_cells hPY.rowT).2.1
    have f2 : Y.cell? ⟨r, 2, none⟩ = some (.int .i64 (M : Int)) := (pc_cells hPY.rowP).2.2.1
    obtain ⟨_, _, e, _, _, hcY, hfY⟩ := lS.form hPY.lT (by omega)
    cases e
    have f3 : Y.cell? ⟨lt, M, none⟩ = some (.string ⟨bs.toArray⟩) := by rw [← HBS.out]; exact hcY M hMN
    obtain ⟨c, X, hcv, hbX, hsX, hcc, hBz⟩ := str_bz Y.drew bs B hlen
    obtain ⟨z, hz⟩ : ∃ z, Y.drew.heap.size = z := ⟨_, rfl⟩
    rw [hz] at hcv hbX hsX hBz
    have HZ := Lib.hid hz
    have HBZ := Lib.hid hBz
    have HBX := Lib.hid hbX
    have HPY := Lib.hid hPY
    have HFY : Hid (Fr D w Y.drew) := by show Fr D w Y.drew; rw [← hY]; exact (Fr.of (below_drewN (Below.refl _ _) nq)).drew
    rw [hY]
    clear hPY hY d0 d1' d4 hcY hfY hBz hbX hz
    go_wp2_with fail
    go_still_tail 13, mixed
    go_wp2
    clear hcv f0 f1 f2 f3
    go_loopw [7, 6] (fun i v wr => ∃ k : Nat, k ≤ 4 ∧ i = .int .i64 k ∧ v = .int .i64 ((0 / 256 ^ k : Nat) : Int) ∧ Bz wr z B (putK bs 0 k) ∧ Below z Y.drew wr) (fun i _ _ => 4 - (RowKit.intOf i).toNat)
    case atStart => exact ⟨0, by omega, rfl, by simp, HBZ.out, HBX.out⟩
    case round =>
      obtain ⟨k, hk, rfl, rfl, hBk, hbk⟩ := hrel
      obtain ⟨y, hy⟩ : ∃ y, 0 / 256 ^ k = y := ⟨_, rfl⟩
      have hyl : y ≤ 100000 := by rw [← hy]; exact Nat.le_trans (Nat.div_le_self _ _) (by omega)
      have hy2 : 0 / 256 ^ (k + 1) = y / 256 := by rw [← hy, Nat.pow_succ, Nat.div_div_eq_div_mul]
      rw [hy]
      by_cases hlt : k < 4
      · have hkB : k < B := by omega
        have hck := hBk.cell k hkB
        have hfk := hBk.frozen k hkB
        have HY2 := Lib.hid hy2
        have hval : Value.int .u8 ((y : Int) % 256) = Bs.B (byteAt 0 k) := by
          show Value.int .u8 _ = Value.int .u8 _
          rw [byteAt_toNat, hy]
          rfl
        obtain ⟨w3, hw3⟩ : ∃ w3, wr.setCell ⟨z, k, none⟩ (.int .u8 ((y : Int) % 256)) = w3 := ⟨_, rfl⟩
        have HB3 : Hid (Bz w3 z B (putK bs 0 (k + 1))) := by show Bz _ _ _ _; rw [← hw3, hval]; exact hBk.set k hkB _
        have HL3 : Hid (Below z Y.drew w3) := by show Below _ _ _; rw [← hw3]; exact hbk.setCell (p := ⟨z, k, none⟩) (Nat.le_refl _) _
        clear hBk hbk hy hy2 hval
        go_wp2
        go_roundw
        case rel => exact ⟨k + 1, by omega, by go_num, by rw [HY2.out]; go_num, HB3.out, HL3.out⟩
        case measure => simp [RowKit.intOf]; omega
      · obtain rfl : k = 4 := by omega
        have hDz : ∀ i, D i → i < z := fun i hi => by have := HPY.out.blw i hi; rw [HZ.out] at this; exact this
        have hPW : PT wr.drew r t N B M Log L T D lb cap lt capt wb capw := HPY.out.keepW (by have := hbk.size; exact this) fun i hi => hbk.block i (hDz i hi)
        have f0 : wr.cell? ⟨t, 0, none⟩ = some (.pointer (some ⟨r, 0, none⟩)) := (tc_cells hPW.rowT).1
        have f1 : wr.cell? ⟨t, 1, none⟩ = some (.slice (some ⟨lt, 0, none⟩) N capt) := (tc_cells hPW.rowT).2.1
        have f2 : wr.cell? ⟨r, 2, none⟩ = some (.int .i64 (M : Int)) := (pc_cells hPW.rowP).2.2.1
        obtain ⟨_, _, e, _, _, hcY, hfY⟩ := lS.form hPW.lT (by omega)
        cases e
        have f3 : wr.cell? ⟨lt, M, none⟩ = some (.string ⟨(T.L M).toArray⟩) := hcY M hMN
        have f4 : wr.frozen? ⟨lt, M, none⟩ = false := hfY M
        have hpl : (putK bs 0 4).length = B := by rw [putK_len]; exact hlen
        obtain ⟨nbs, hnbs⟩ : ∃ l, putK bs 0 4 = l := ⟨_, rfl⟩
        rw [hnbs] at hBk hpl
        have hst := string_rd wr.drew _ _ _ _ ((hBk.rd hcc).drew)
        obtain ⟨Z, hZ⟩ : ∃ Z, wr.setCell ⟨lt, M, none⟩ (.string ⟨nbs.toArray⟩) = Z := ⟨_, rfl⟩
        have hPZ : PT Z.drew r t N B M Log L { T with L := Dk.upd T.L M nbs } D lb cap lt capt wb capw := by rw [← hZ]; exact (hPW.setL M hMN nbs hpl).keepW (Nat.le_refl _) fun _ _ => rfl
        have g3 : Z.cell? ⟨t, 3, none⟩ = some (.bool T.root) := (tc_cells hPZ.rowT).2.2.2.1
        have g4 : Z.frozen? ⟨t, 3, none⟩ = false := (tc_cells hPZ.rowT).2.2.2.2.2 3
        have HPZ := Lib.hid hPZ
        have HNB := Lib.hid hnbs
        have HFZ : Hid (Fr D w Z) := by
          show Fr D w Z
          rw [← hZ]
          exact (HFY.out.trans (Fr.of (D := D) (by rw [HZ.out]; exact hbk))).setCell (.inl HPY.out.inD.2.2.2.1) _
        clear hPZ hPW hcY hfY hBk hbk hnbs hy hy2 hDz
        go_wp2_with fail
        go_still_tail 14, mixed
        go_wp2
        go_ret
        refine ⟨rfl, D, ⟨lb, cap, lt, capt, wb, capw, ?_⟩, fun _ h => .inl h, ?_⟩
        · rw [HNB.out]
          exact (HPZ.out.setT 3 (.bool true) true T.done rfl).keepW (w' := (Z.setCell ⟨t, 3, none⟩ (.bool true)).drew) (Nat.le_refl _) fun _ _ => rfl
        · exact (HFZ.out.setCell (.inl HPY.out.inD.2.1) _).drew
  · have hus : usedP N B M T.L (q : Int) = true := hok.resolve_left (by omega)
    rw [hus] at HU
    have hq0 : ((q : Int) != 0) = true := by simp; omega
    have hq1 : ((q : Int) == 0) = false := by simp; omega
    have hq2 : ¬ q = 0 := by omega
    clear h d1 hbs hus hok
    go_enter Tryz.func28, Tryz.ntmps28
    go_wp2_with fail
    refine wp_region_quiet_lit ?_ ?_ ?_
    · kernel_rfl
    · kernel_rfl
    repeat (first | (with_reducible refine wpQuiet_step (fun K hK => ?_); go_simp; first | (refine hK _ ?_; clear hK K) | (apply Exists.intro; refine ⟨fun _ => ?_, hK _ ?_⟩; (go_at_call 66; exact HU.out _); clear hK K)) | ((with_reducible refine wpQuiet_skip ?hwq ?_); (case hwq => rfl); simp only [Act.put, List.setIfInBounds_toArray, List.set_cons_zero, List.set_cons_succ]))
    with_reducible refine wpQuiet_nil ?_
    rintro _ ⟨nq, rfl⟩
    obtain ⟨Y, hY⟩ : ∃ Y, w.drewN nq = Y := ⟨_, rfl⟩
    have hPY : PT Y.drew r t N B M Log L T D lb cap lt capt wb capw := by rw [← hY]; exact (HPT.out.at nq).keepW (Nat.le_refl _) fun _ _ => rfl
    have f0 : Y.cell? ⟨t, 0, none⟩ = some (.pointer (some ⟨r, 0, none⟩)) := (tc_cells hPY.rowT).1
    have f1 : Y.cell? ⟨t, 1, none⟩ = some (.slice (some ⟨lt, 0, none⟩) N capt) := (tc_cells hPY.rowT).2.1
    have f2 : Y.cell? ⟨r, 2, none⟩ = some (.int .i64 (M : Int)) := (pc_cells hPY.rowP).2.2.1
    obtain ⟨_, _, e, _, _, hcY, hfY⟩ := lS.form hPY.lT (by omega)
    cases e
    have f3 : Y.cell? ⟨lt, M, none⟩ = some (.string ⟨bs.toArray⟩) := by rw [← HBS.out]; exact hcY M hMN
    obtain ⟨c, X, hcv, hbX, hsX, hcc, hBz⟩ := str_bz Y.drew bs B hlen
    obtain ⟨z, hz⟩ : ∃ z, Y.drew.heap.size = z := ⟨_, rfl⟩
    rw [hz] at hcv hbX hsX hBz
    have HZ := Lib.hid hz
    have HBZ := Lib.hid hBz
    have HBX := Lib.hid hbX
    have HPY := Lib.hid hPY
    have HFY : Hid (Fr D w Y.drew) := by show Fr D w Y.drew; rw [← hY]; exact (Fr.of (below_drewN (Below.refl _ _) nq)).drew
    rw [hY]
    clear hPY hY d0 d1' d4 hcY hfY hBz hbX hz
    go_wp2_with fail
    go_still_tail 13, mixed
    go_wp2
    clear hcv f0 f1 f2 f3
    go_loopw [7, 6] (fun i v wr => ∃ k : Nat, k ≤ 4 ∧ i = .int .i64 k ∧ v = .int .i64 ((q / 256 ^ k : Nat) : Int) ∧ Bz wr z B (putK bs q k) ∧ Below z Y.drew wr) (fun i _ _ => 4 - (RowKit.intOf i).toNat)
    case atStart => exact ⟨0, by omega, rfl, by simp, HBZ.out, HBX.out⟩
    case round =>
      obtain ⟨k, hk, rfl, rfl, hBk, hbk⟩ := hrel
      obtain ⟨y, hy⟩ : ∃ y, q / 256 ^ k = y := ⟨_, rfl⟩
      have hyl : y ≤ 100000 := by rw [← hy]; exact Nat.le_trans (Nat.div_le_self _ _) (by omega)
      have hy2 : q / 256 ^ (k + 1) = y / 256 := by rw [← hy, Nat.pow_succ, Nat.div_div_eq_div_mul]
      rw [hy]
      by_cases hlt : k < 4
      · have hkB : k < B := by omega
        have hck := hBk.cell k hkB
        have hfk := hBk.frozen k hkB
        have HY2 := Lib.hid hy2
        have hval : Value.int .u8 ((y : Int) % 256) = Bs.B (byteAt q k) := by
          show Value.int .u8 _ = Value.int .u8 _
          rw [byteAt_toNat, hy]
          rfl
        obtain ⟨w3, hw3⟩ : ∃ w3, wr.setCell ⟨z, k, none⟩ (.int .u8 ((y : Int) % 256)) = w3 := ⟨_, rfl⟩
        have HB3 : Hid (Bz w3 z B (putK bs q (k + 1))) := by show Bz _ _ _ _; rw [← hw3, hval]; exact hBk.set k hkB _
        have HL3 : Hid (Below z Y.drew w3) := by show Below _ _ _; rw [← hw3]; exact hbk.setCell (p := ⟨z, k, none⟩) (Nat.le_refl _) _
        clear hBk hbk hy hy2 hval
        go_wp2
        go_roundw
        case rel => exact ⟨k + 1, by omega, by go_num, by rw [HY2.out]; go_num, HB3.out, HL3.out⟩
        case measure => simp [RowKit.intOf]; omega
      · obtain rfl : k = 4 := by omega
        have hDz : ∀ i, D i → i < z := fun i hi => by have := HPY.out.blw i hi; rw [HZ.out] at this; exact this
        have hPW : PT wr.drew r t N B M Log L T D lb cap lt capt wb capw := HPY.out.keepW (by have := hbk.size; exact this) fun i hi => hbk.block i (hDz i hi)
        have f0 : wr.cell? ⟨t, 0, none⟩ = some (.pointer (some ⟨r, 0, none⟩)) := (tc_cells hPW.rowT).1
        have f1 : wr.cell? ⟨t, 1, none⟩ = some (.slice (some ⟨lt, 0, none⟩) N capt) := (tc_cells hPW.rowT).2.1
        have f2 : wr.cell? ⟨r, 2, none⟩ = some (.int .i64 (M : Int)) := (pc_cells hPW.rowP).2.2.1
        obtain ⟨_, _, e, _, _, hcY, hfY⟩ := lS.form hPW.lT (by omega)
        cases e
        have f3 : wr.cell? ⟨lt, M, none⟩ = some (.string ⟨(T.L M).toArray⟩) := hcY M hMN
        have f4 : wr.frozen? ⟨lt, M, none⟩ = false := hfY M
        have hpl : (putK bs q 4).length = B := by rw [putK_len]; exact hlen
        obtain ⟨nbs, hnbs⟩ : ∃ l, putK bs q 4 = l := ⟨_, rfl⟩
        rw [hnbs] at hBk hpl
        have hst := string_rd wr.drew _ _ _ _ ((hBk.rd hcc).drew)
        obtain ⟨Z, hZ⟩ : ∃ Z, wr.setCell ⟨lt, M, none⟩ (.string ⟨nbs.toArray⟩) = Z := ⟨_, rfl⟩
        have hPZ : PT Z.drew r t N B M Log L { T with L := Dk.upd T.L M nbs } D lb cap lt capt wb capw := by rw [← hZ]; exact (hPW.setL M hMN nbs hpl).keepW (Nat.le_refl _) fun _ _ => rfl
        have g3 : Z.cell? ⟨t, 3, none⟩ = some (.bool T.root) := (tc_cells hPZ.rowT).2.2.2.1
        have g4 : Z.frozen? ⟨t, 3, none⟩ = false := (tc_cells hPZ.rowT).2.2.2.2.2 3
        have HPZ := Lib.hid hPZ
        have HNB := Lib.hid hnbs
        have HFZ : Hid (Fr D w Z) := by
          show Fr D w Z
          rw [← hZ]
          exact (HFY.out.trans (Fr.of (D := D) (by rw [HZ.out]; exact hbk))).setCell (.inl HPY.out.inD.2.2.2.1) _
        clear hPZ hPW hcY hfY hBk hbk hnbs hy hy2 hDz
        go_wp2_with fail
        go_still_tail 14, mixed
        go_wp2
        go_ret
        refine ⟨rfl, D, ⟨lb, cap, lt, capt, wb, capw, ?_⟩, fun _ h => .inl h, ?_⟩
        · rw [HNB.out]
          exact (HPZ.out.setT 3 (.bool true) true T.done rfl).keepW (w' := (Z.setCell ⟨t, 3, none⟩ (.bool true)).drew) (Nat.le_refl _) fun _ _ => rfl
        · exact (HFZ.out.setCell (.inl HPY.out.inD.2.1) _).drew
set_option maxHeartbeats 1000000 in
theorem SetRoot_any (w : World) (r t N B M Log : Nat) (L : Nat → List UInt8) (T : TX) (D : Nat → Prop) (h : PTAt w r t N B M Log L T D) (p : Int) :
    Calls Tryz.prog 28 #[.pointer (some ⟨t, 0, none⟩), .int .i64 p] w fun e w' => e = .returned (.int .i64 (T.setRoot N B M p).2) ∧ PDid D r t N B M Log L (T.setRoot N B M p).1 w w' := by
  have HP := Lib.hid h
  obtain ⟨G, hG⟩ : ∃ G, T.setRoot N B M p = G := ⟨_, rfl⟩
  rw [hG]
  by_cases hno : T.done = true ∨ (p ≠ 0 ∧ usedP N B M T.L p = false)
  · obtain rfl : G = (T, 1) := by
      rw [← hG]
      unfold TX.setRoot
      rcases hno with h1 | ⟨h1, h2⟩
      · rw [h1]; rfl
      · rw [h2, if_pos (by simp [h1])]
    obtain ⟨lb, cap, lt, capt, wb, capw, h⟩ := h
    obtain ⟨d0, d1, _, _, d4, _⟩ := tc_cells h.rowT
    have d1' : w.cell? ⟨t, 1, none⟩ = some (.slice (some ⟨lt, 0, none⟩) N capt) := d1
    have HU := Lib.hid (h.used p)
    by_cases hdn : T.done = true
    · rw [hdn] at d4
      clear h d1 hno hG hdn
      go_enter Tryz.func28, Tryz.ntmps28
      go_wp2_with fail
      refine wp_region_quiet_lit ?_ ?_ ?_
      · kernel_rfl
      · kernel_rfl
      repeat (first | (with_reducible refine wpQuiet_step (fun K hK => ?_); go_simp; first | (refine hK _ ?_; clear hK K) | (apply Exists.intro; refine ⟨fun _ => ?_, hK _ ?_⟩; (go_at_call 66; exact HU.out _); clear hK K)) | ((with_reducible refine wpQuiet_skip ?hwq ?_); (case hwq => rfl); simp only [Act.put, List.setIfInBounds_toArray, List.set_cons_zero, List.set_cons_succ]))
      with_reducible refine wpQuiet_nil ?_
      rintro _ ⟨nq, rfl⟩
      go_wp2
      go_ret
      exact ⟨rfl, PDid.still HP.out (below_drewN (Below.refl _ _) _)⟩
    · obtain ⟨h1, h2⟩ := hno.resolve_left hdn
      have hdf : T.done = false := by simpa using hdn
      rw [hdf] at d4
      rw [h2] at HU
      have hq0 : (p != 0) = true := by simpa using h1
      have hq1 : (p == 0) = false := by simpa using h1
      clear h d1 hno hG hdn h2
      go_enter Tryz.func28, Tryz.ntmps28
      go_wp2_with fail
      refine wp_region_quiet_lit ?_ ?_ ?_
      · kernel_rfl
      · kernel_rfl
      repeat (first | (with_reducible refine wpQuiet_step (fun K hK => ?_); go_simp; first | (refine hK _ ?_; clear hK K) | (apply Exists.intro; refine ⟨fun _ => ?_, hK _ ?_⟩; (go_at_call 66; exact HU.out _); clear hK K)) | ((with_reducible refine wpQuiet_skip ?hwq ?_); (case hwq => rfl); simp only [Act.put, List.setIfInBounds_toArray, List.set_cons_zero, List.set_cons_succ]))
      with_reducible refine wpQuiet_nil ?_
      rintro _ ⟨nq, rfl⟩
      go_wp2
      go_ret
      exact ⟨rfl, PDid.still HP.out (below_drewN (Below.refl _ _) _)⟩
  · have hdf : T.done = false := by
      cases hd : T.done
      · rfl
      · exact absurd (.inl hd) hno
    have hok : p = 0 ∨ usedP N B M T.L p = true := by
      by_cases h1 : p = 0
      · exact .inl h1
      · right
        cases hu : usedP N B M T.L p
        · exact absurd (.inr ⟨h1, hu⟩) hno
        · rfl
    obtain ⟨q, rfl, hq⟩ : ∃ q : Nat, p = q ∧ q ≤ 100000 := by
      rcases hok with h1 | h1
      · exact ⟨0, h1, by omega⟩
      · obtain ⟨q, e, _, h2⟩ := used_nat h1
        obtain ⟨lb, cap, lt, capt, wb, capw, h⟩ := h
        exact ⟨q, e, by have := h.dT.n1; omega⟩
    have := SetRoot_yes w r t N B M Log L T D h q hq hdf (hok.imp (by omega) id)
    rw [← hG]
    unfold TX.setRoot
    rw [if_neg, Int.toNat_natCast]
    · exact this
    · rw [hdf]
      rcases hok with h1 | h1
      · simp [h1]
      · simp [h1]
end Go.Proofs.YtephmcbofcfpmaaGreat.Rp

set_option maxRecDepth 8000
set_option linter.unusedSimpArgs false
set_option linter.unusedVariables false
namespace Go.Proofs.YtephmcbofcfpmaaGreat.Rp
open Go.RowKit Go.Bs Go.Dk

set_option maxHeartbeats 2000000 in
theorem Free_any (w : World) (r t N B M Log : Nat) (L : Nat → List UInt8) (T : TX) (D : Nat → Prop) (h : PTAt w r t N B M Log L T D) :
    Calls Tryz.prog 34 #[.pointer (some ⟨r, 0, none⟩)] w fun e w' => e = .returned (.int .i64 (freeN N B M L N : Int)) ∧ ∃ k, w' = w.drewN k := by
  obtain ⟨lb, cap, lt, capt, wb, capw, h⟩ := h
  have HPT := Lib.hid h
  have hn1 := h.dT.n1
  obtain ⟨F, hF⟩ : ∃ F, freeN N B M L N = F := ⟨_, rfl⟩
  rw [hF]
  have HF := Lib.hid hF
  clear h hF
  go_enter Tryz.func34, Tryz.ntmps34
  go_wp2
  go_loopw [4, 3] (fun i v wr => ∃ k : Nat, k ≤ N ∧ i = .int .i64 k ∧ v = .int .i64 (freeN N B M L k : Int) ∧ ∃ n, wr = w.drewN n) (fun i _ _ => N - (RowKit.intOf i).toNat)
  case atStart => exact ⟨0, Nat.zero_le _, rfl, rfl, 0, rfl⟩
  case round =>
    obtain ⟨k, hk, rfl, rfl, n0, hwr⟩ := hrel
    have hPW : PT wr r t N B M Log L T D lb cap lt capt wb capw := by rw [hwr]; exact HPT.out.at n0
    have HW := Lib.hid hwr
    have g0 : wr.cell? ⟨r, 0, none⟩ = some (.int .i64 (N : Int)) := (pc_cells hPW.rowP).1
    have g4 : wr.cell? ⟨r, 4, none⟩ = some (.slice (some ⟨lb, 0, none⟩) N cap) := (pc_cells hPW.rowP).2.2.2.2.1
    have HI := Lib.hid (Is_any wr r N B M Log _ hPW.rowP (k : Int))
    have HU := Lib.hid (Used_any wr r N B M Log _ hPW.rowP _ L hPW.lP hPW.dP (k : Int))
    have hsu := freeN_succ N B M L k
    have hfl := freeN_le N B M L k
    obtain ⟨f, hf⟩ : ∃ f, freeN N B M L k = f := ⟨_, rfl⟩
    rw [hf] at hsu hfl
    rw [hf]
    have HFF := Lib.hid hf
    clear hwr hPW hf
    by_cases hlt : k < N
    · by_cases hM : M < k
      · have hib : (decide ((M : Int) < (k : Int)) && decide ((k : Int) < (N : Int))) = true := by simp; omega
        rw [hib] at HI
        cases hus : usedP N B M L (k : Int)
        · rw [hus] at HU
          have hfr : freeAt N B M L k = true := by unfold freeAt; rw [hus]; simp; exact hM
          rw [hfr, if_pos rfl] at hsu
          have HS := Lib.hid hsu
          clear hib hus hfr hsu
          go_wp2_with fail
          refine HI.out.mono ?_
          rintro e w1 ⟨rfl, rfl⟩
          go_wp2_with fail
          refine HU.out.mono ?_
          rintro e w1 ⟨rfl, k1, rfl⟩
          go_wp2
          go_roundw
          case rel => exact ⟨k + 1, by omega, by go_num, by rw [HS.out]; go_num, n0 + k1, by rw [HW.out, World.drewN_drewN]⟩
          case measure => simp [RowKit.intOf]; omega
        · rw [hus] at HU
          have hfr : freeAt N B M L k = false := by unfold freeAt; rw [hus]; simp
          rw [hfr, if_neg (by simp)] at hsu
          have HS := Lib.hid hsu
          clear hib hus hfr hsu
          go_wp2_with fail
          refine HI.out.mono ?_
          rintro e w1 ⟨rfl, rfl⟩
          go_wp2_with fail
          refine HU.out.mono ?_
          rintro e w1 ⟨rfl, k1, rfl⟩
          go_wp2
          go_roundw
          case rel => exact ⟨k + 1, by omega, by go_num, by rw [HS.out]; go_num, n0 + k1, by rw [HW.out, World.drewN_drewN]⟩
          case measure => simp [RowKit.intOf]; omega
      · have hib : (decide ((M : Int) < (k : Int)) && decide ((k : Int) < (N : Int))) = false := by simp; omega
        rw [hib] at HI
        have hfr : freeAt N B M L k = false := by unfold freeAt; simp; omega
        rw [hfr, if_neg (by simp)] at hsu
        have HS := Lib.hid hsu
        clear hib hfr hsu
        go_wp2_with fail
        refine HI.out.mono ?_
        rintro e w1 ⟨rfl, rfl⟩
        go_wp2
        go_roundw
        case rel => exact ⟨k + 1, by omega, by go_num, by rw [HS.out]; go_num, n0, HW.out⟩
        case measure => simp [RowKit.intOf]; omega
    · obtain rfl : k = N := by omega
      clear hsu
      go_wp2
      go_ret
      exact ⟨by rw [← HF.out, HFF.out]; rfl, n0, HW.out⟩
end Go.Proofs.YtephmcbofcfpmaaGreat.Rp

