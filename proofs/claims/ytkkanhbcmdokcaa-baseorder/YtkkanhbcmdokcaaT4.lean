import Derived.Test.YtkkanhbcmdokcaaT3
namespace Go.Proofs.Ytkkanhbcmdokcaa
open Go.RowKit Go.Bs

theorem hex_step (m k : Nat) (bs : List UInt8) (x : UInt8) (hm : bs.length = m) (hk : k < m) (hx : bs.getD k 0 = x) :
    ((hexL (bs.take k) ++ zeros (2 * m - 2 * k)).set (2 * k) (h16 (x.toNat / 16))).set (2 * k + 1) (h16 (x.toNat % 16)) = hexL (bs.take (k + 1)) ++ zeros (2 * m - 2 * (k + 1)) := by
  obtain ⟨j, rfl⟩ : ∃ j, m = k + (j + 1) := ⟨m - k - 1, by omega⟩
  have hl : (hexL (bs.take k)).length = 2 * k := by rw [hexL_length, List.length_take]; omega
  have e1 : 2 * (k + (j + 1)) - 2 * k = 2 * j + 2 := by omega
  have e2 : 2 * (k + (j + 1)) - 2 * (k + 1) = 2 * j := by omega
  have ez : zeros (2 * j + 2) = 0 :: 0 :: zeros (2 * j) := by simp [zeros, List.replicate_succ]
  rw [e1, e2, ez, List.set_append_right _ _ (by omega), hl, Nat.sub_self, List.set_append_right _ _ (by omega), hl, show 2 * k + 1 - 2 * k = 1 by omega, take_snoc bs k (by omega), hexL_append, hx]
  simp [hexL]

set_option maxHeartbeats 400000 in
theorem Hex_any (A : Option Addr) (n c : Nat) (bs : List UInt8) (w : World) (h : Rd w A n c bs) (hn : n ≤ 17592186044416) :
    Calls Try.prog 9 #[.slice A n c] w fun e w' => e = .returned (.string ⟨(hexL bs).toArray⟩) ∧ Below w.heap.size w w' := by
  have HR := Lib.hid h
  have HL := Lib.hid h.len
  have hmk := make_zeros (2 * n) (by omega) w
  rw [show (((2 * n : Nat) : Int)) = 2 * (n : Int) by omega] at hmk
  obtain ⟨W, hW⟩ : ∃ W, w.alloc (rowObj 5 (zeros (2 * n))) = W := ⟨_, rfl⟩
  have HBW : Hid (Blk W w.heap.size 5 (zeros (2 * n)) ∧ Below w.heap.size w W) := by
    rw [← hW]
    exact ⟨Blk.new w 5 (zeros (2 * n)), (Below.refl _ _).alloc (Nat.le_refl _) _⟩
  rw [hW] at hmk
  obtain ⟨g, hg⟩ : ∃ g, w.heap.size = g := ⟨_, rfl⟩
  rw [hg] at hmk HBW ⊢
  have HG := Lib.hid hg
  clear hW hg h
  go_enter Try.func9, Try.ntmps9
  go_wp2
  go_loopw [11] (fun i wr => ∃ k : Nat, k ≤ n ∧ i = .int .i64 k ∧ Blk wr g 5 (hexL (bs.take k) ++ zeros (2 * n - 2 * k)) ∧ Below g w wr) (fun i _ => n - (intOf i).toNat)
  case atStart => exact ⟨0, Nat.zero_le _, rfl, by simpa [hexL] using HBW.out.1, HBW.out.2⟩
  case round =>
    obtain ⟨k, hk, rfl, hB, hG⟩ := hrel
    by_cases hlt : k < n
    · obtain ⟨g0, o, rfl, hg0, hc⟩ := (HR.out.keep (by rw [HG.out]; exact hG)).cells (by omega)
      obtain ⟨x, hx⟩ : ∃ x, bs.getD k 0 = x := ⟨_, rfl⟩
      have hcell := hc k hlt
      rw [hx] at hcell
      have hgne : g ≠ g0 := by
        obtain ⟨g1, o1, e1, hg1, _⟩ := HR.out.cells (by omega)
        injection e1 with e1
        injection e1 with e1 e2
        have := HG.out
        omega
      have hlen : (hexL (bs.take k) ++ zeros (2 * n - 2 * k)).length = 2 * n := by
        rw [List.length_append, hexL_length, zeros_length, List.length_take, HL.out]; omega
      have hc1 := hB.cell (2 * k) (by omega)
      have hf1 := hB.frozen (2 * k)
      have hc2 := hB.cell (2 * k + 1) (by omega)
      have hf2 := hB.frozen (2 * k + 1)
      obtain ⟨y1, hy1⟩ : ∃ x, (hexL (bs.take k) ++ zeros (2 * n - 2 * k)).getD (2 * k) 0 = x := ⟨_, rfl⟩
      obtain ⟨y2, hy2⟩ : ∃ x, (hexL (bs.take k) ++ zeros (2 * n - 2 * k)).getD (2 * k + 1) 0 = x := ⟨_, rfl⟩
      rw [hy1] at hc1
      rw [hy2] at hc2
      have hx8 : x.toNat < 256 := x.toNat_lt
      have HX := Lib.hid hx
      have HB := Lib.hid hB
      have HGG := Lib.hid hG
      clear hB hG hx hc hy1 hy2 hlen
      go_wp2
      go_roundw
      case rel =>
        refine ⟨k + 1, by omega, by go_num, ?_, (HGG.out.setCell (Nat.le_refl _) _).setCell (Nat.le_refl _) _⟩
        rw [← hex_step n k bs x HL.out hlt HX.out, ← h16_str (x.toNat / 16) (by show _ < 16; omega), ← h16_str (x.toNat % 16) (by show _ < 16; omega)]
        exact (HB.out.set _ _).set _ _
      case measure => simp [intOf]; omega
    · obtain rfl : k = n := by omega
      have hst := string_rd wr _ _ (2 * k) _ (hB.all' (2 * k) (2 * k) (by rw [List.length_append, hexL_length, zeros_length, List.length_take, HL.out]; omega) (Nat.le_refl _))
      have HGG := Lib.hid hG
      rw [Nat.sub_self, List.take_of_length_le (by rw [HL.out]; exact Nat.le_refl _)] at hst
      clear hB hG
      go_wp2
      go_ret
      refine ⟨?_, HGG.out⟩
      simp [zeros]

set_option maxHeartbeats 400000 in
theorem Unhex_any (s : ByteArray) (l : List UInt8) (w : World) (hsl : s.data.toList = l) (hs : s.size ≤ 17592186044416) :
    Calls Try.prog 10 #[.string s] w fun e w' => Below w.heap.size w w' ∧ ((good16 l ∧ e = .returned (.tuple #[.slice (some ⟨w.heap.size, 0, none⟩) (s.size / 2) (s.size / 2), .int .i64 0]) ∧ Blk w' w.heap.size 5 (unhexL l)) ∨ (¬ good16 l ∧ e = .returned (.tuple #[.slice none 0 0, .int .i64 4]))) := by
  have hlen : l.length = s.size := by rw [← hsl]; simp
  have HLEN := Lib.hid hlen
  have HSL := Lib.hid hsl
  clear hlen hsl
  by_cases h2 : s.size % 2 = 0
  · obtain ⟨n, hn⟩ : ∃ n, s.size = 2 * n := ⟨s.size / 2, by omega⟩
    have hnd : s.size / 2 = n := by omega
    rw [hnd]
    have hmk := make_zeros n (by omega) w
    obtain ⟨W, hW⟩ : ∃ W, w.alloc (rowObj 5 (zeros n)) = W := ⟨_, rfl⟩
    have HBW : Hid (Blk W w.heap.size 5 (zeros n) ∧ Below w.heap.size w W) := by
      rw [← hW]
      exact ⟨Blk.new w 5 (zeros n), (Below.refl _ _).alloc (Nat.le_refl _) _⟩
    rw [hW] at hmk
    obtain ⟨g, hg⟩ : ∃ g, w.heap.size = g := ⟨_, rfl⟩
    rw [hg] at hmk HBW ⊢
    have hdv : (s.size : Int) / 2 = (n : Int) := by omega
    have hev : ((s.size : Int) % 2 != 0) = false := by rw [bne_eq_false_iff_eq]; omega
    have HUL : Hid ((unhexL l).length = n) := by show _ = n; rw [unhexL_length, HLEN.out, hnd]
    clear hW hg hnd
    go_enter Try.func10, Try.ntmps10
    go_wp2
    go_loopw [18] (fun i wr => ∃ k : Nat, k ≤ n ∧ i = .int .i64 k ∧ (∀ j, j < 2 * k → 0 ≤ v16 (l.getD j 0)) ∧ Blk wr g 5 ((unhexL l).take k ++ zeros (n - k)) ∧ Below g w wr) (fun i _ => n - (intOf i).toNat)
    case atStart => exact ⟨0, Nat.zero_le _, rfl, fun j hj => absurd hj (by omega), by simpa using HBW.out.1, HBW.out.2⟩
    case round =>
      obtain ⟨k, hk, rfl, hval, hB, hG⟩ := hrel
      have HVAL := Lib.hid hval
      have HGG := Lib.hid hG
      have HB := Lib.hid hB
      clear hval hG
      by_cases hlt : k < n
      · obtain ⟨x, hx⟩ : ∃ x, l.getD (2 * k) 0 = x := ⟨_, rfl⟩
        obtain ⟨y, hy⟩ : ∃ x, l.getD (2 * k + 1) 0 = x := ⟨_, rfl⟩
        have hsx : s[2 * k] = x := by
          rw [← hx, ← HSL.out, getD_get _ _ (by simp; omega)]
          rfl
        have hsy : s[2 * k + 1] = y := by
          rw [← hy, ← HSL.out, getD_get _ _ (by simp; omega)]
          rfl
        have HX := Lib.hid hx
        have HY := Lib.hid hy
        have HIX := Lib.hid (Index16_any x wr)
        have HIY := Lib.hid (Index16_any y wr)
        obtain ⟨a, ha⟩ : ∃ v, v16 x = v := ⟨_, rfl⟩
        obtain ⟨b, hb⟩ : ∃ v, v16 y = v := ⟨_, rfl⟩
        rw [ha] at HIX
        rw [hb] at HIY
        have HA := Lib.hid ha
        have HBB := Lib.hid hb
        have ha16 : a < 16 := by rw [← ha]; exact v16_lt x
        have hb16 : b < 16 := by rw [← hb]; exact v16_lt y
        have hcell := hB.cell k (by rw [List.length_append, zeros_length, List.length_take, HUL.out]; omega)
        have hfz := hB.frozen k
        obtain ⟨z, hz⟩ : ∃ x, ((unhexL l).take k ++ zeros (n - k)).getD k 0 = x := ⟨_, rfl⟩
        rw [hz] at hcell
        clear hx hy ha hb hz hB
        by_cases ha0 : a < 0
        · go_wp2_with fail
          refine HIX.out.mono ?_
          rintro e w' ⟨rfl, rfl⟩
          go_wp2_with fail
          refine HIY.out.mono ?_
          rintro e w' ⟨rfl, rfl⟩
          go_wp2
          go_ret2
          refine ⟨HGG.out, .inr ⟨fun hgd => ?_, rfl⟩⟩
          have h3 := hgd.2 (2 * k) (by rw [HLEN.out]; omega)
          rw [HX.out, HA.out] at h3
          omega
        · obtain ⟨a, rfl⟩ := Int.eq_ofNat_of_zero_le (show 0 ≤ a by omega)
          by_cases hb0 : b < 0
          · go_wp2_with fail
            refine HIX.out.mono ?_
            rintro e w' ⟨rfl, rfl⟩
            go_wp2_with fail
            refine HIY.out.mono ?_
            rintro e w' ⟨rfl, rfl⟩
            go_wp2
            go_ret2
            refine ⟨HGG.out, .inr ⟨fun hgd => ?_, rfl⟩⟩
            have h3 := hgd.2 (2 * k + 1) (by rw [HLEN.out]; omega)
            rw [HY.out, HBB.out] at h3
            omega
          · obtain ⟨b, rfl⟩ := Int.eq_ofNat_of_zero_le (show 0 ≤ b by omega)
            go_wp2_with fail
            refine HIX.out.mono ?_
            rintro e w' ⟨rfl, rfl⟩
            go_wp2_with fail
            refine HIY.out.mono ?_
            rintro e w' ⟨rfl, rfl⟩
            go_wp2
            go_roundw
            case rel =>
              refine ⟨k + 1, by omega, by go_num, ?_, ?_, HGG.out.setCell (Nat.le_refl _) _⟩
              · intro j hj
                by_cases hj2 : j < 2 * k
                · exact HVAL.out j hj2
                · by_cases hj3 : j = 2 * k
                  · subst hj3; rw [HX.out, HA.out]; omega
                  · obtain rfl : j = 2 * k + 1 := by omega
                    rw [HY.out, HBB.out]; omega
              · rw [or4 a b (by omega) (by omega), pairB_val l k a b (by rw [HX.out]; exact HA.out) (by rw [HY.out]; exact HBB.out) (by omega) (by omega),
                  ← fill_step (unhexL l) n k (pairB l k) HUL.out hlt (unhexL_getD l k (by rw [HLEN.out]; omega))]
                exact HB.out.set _ _
            case measure => simp [intOf]; omega
      · obtain rfl : k = n := by omega
        clear hB
        go_wp2
        go_ret2
        refine ⟨HGG.out, .inl ⟨⟨by rw [HLEN.out]; exact h2, fun j hj => HVAL.out j (by rw [HLEN.out] at hj; omega)⟩, rfl, ?_⟩⟩
        have := HB.out
        rw [Nat.sub_self, List.take_of_length_le (by rw [HUL.out]; exact Nat.le_refl _)] at this
        simpa [zeros] using this
  · have hev : ((s.size : Int) % 2 != 0) = true := by rw [bne_iff_ne]; omega
    go_enter Try.func10, Try.ntmps10
    go_wp2
    go_ret2
    exact ⟨Below.refl _ _, .inr ⟨fun hgd => h2 (by have := hgd.1; rwa [HLEN.out] at this), rfl⟩⟩
end Go.Proofs.Ytkkanhbcmdokcaa
