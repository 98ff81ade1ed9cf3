import Derived.Test.YtmimffbjghhdhaaDoorT2
namespace Go.Proofs.YtmimffbjghhdhaaDoor.B2x
open Go.RowKit Go.Bs

theorem u8_info : (Tryd.prog.info? 5).map (fun i => (i.zero, i.size, i.bytes)) = some (some (.int .u8 0), 1, 1) := by kernel_rfl
theorem u8_size : (Tryd.prog.info? 5).map (·.size) = some 1 := by kernel_rfl

theorem make_zeros (n : Nat) (hn : n ≤ 281474976710656) (w : World) :
    (Instr.makeSlice 22 (.int .i64 (n : Int)) (.int .i64 (n : Int))).run Tryd.prog w = .ok (.slice (some ⟨w.heap.size, 0, none⟩) n n) (w.alloc (rowObj 5 (zeros n))) := by
  rw [run_make_row' (P := Tryd.prog) 22 5 (.int .u8 0) 1 Tryd.underlying22 u8_info rfl .i64 .i64 n (by omega) (by omega) w, madeCells_zeros]
  rfl
theorem string_rd (w : World) (A : Option Addr) (n c : Nat) (bs : List UInt8) (h : Rd w A n c bs) : (convert 22 9 (.slice A n c)).run Tryd.prog w = .ok (.string ⟨bs.toArray⟩) w :=
  run_string_rd w 22 9 5 Tryd.underlying22 Tryd.underlying5 Tryd.underlying9 A n c bs h

theorem enc_step (m k N : Nat) (hk : k < m) (d : UInt8) (hd : dig (N / 32 ^ k % 32) = d) : (zeros (m - k) ++ encD k N).set (m - 1 - k) d = zeros (m - (k + 1)) ++ encD (k + 1) N := by
  obtain ⟨j, rfl⟩ : ∃ j, m = k + (j + 1) := ⟨m - k - 1, by omega⟩
  have e : k + (j + 1) - k = j + 1 := by omega
  have e2 : k + (j + 1) - 1 - k = j := by omega
  have e3 : k + (j + 1) - (k + 1) = j := by omega
  rw [e, e2, e3, encD, hd]
  have ez : zeros (j + 1) = zeros j ++ [0] := by simp [zeros, List.replicate_succ']
  rw [ez, List.append_assoc, List.set_append_right _ _ (by rw [zeros_length]; exact Nat.le_refl _), zeros_length, Nat.sub_self]
  rfl

set_option maxHeartbeats 400000 in
theorem Encode_any (A : Option Addr) (n c : Nat) (bs : List UInt8) (w : World) (h : Rd w A n c bs) (hn : n ≤ 17592186044416) :
    Calls Tryd.prog 20 #[.slice A n c] w fun e w' => e = .returned (.string ⟨(encL bs).toArray⟩) ∧ Below w.heap.size w w' := by
  have HR := Lib.hid h
  have HE : Hid (encL bs = encD (nDig n) (leN bs)) := by show encL bs = _; unfold encL; rw [h.len]
  obtain ⟨m, hm⟩ : ∃ m, nDig n = m := ⟨_, rfl⟩
  have hmb : 5 * m ≤ 8 * n + 4 := by rw [← hm]; unfold nDig; omega
  have hmk := make_zeros m (by omega) w
  have HD := Lib.hid (digitsOf_any n w (by omega))
  rw [hm] at HD HE
  obtain ⟨N, hN⟩ : ∃ N, leN bs = N := ⟨_, rfl⟩
  have HN := Lib.hid hN
  obtain ⟨W, hW⟩ : ∃ W, w.alloc (rowObj 5 (zeros m)) = W := ⟨_, rfl⟩
  have HBW : Hid (Blk W w.heap.size 5 (zeros (m - 0) ++ encD 0 N) ∧ Below w.heap.size w W) := by
    rw [← hW]
    exact ⟨by simpa [encD] using Blk.new w 5 (zeros m), (Below.refl _ _).alloc (Nat.le_refl _) _⟩
  rw [hW] at hmk
  obtain ⟨g, hg⟩ : ∃ g, w.heap.size = g := ⟨_, rfl⟩
  rw [hg] at hmk HBW ⊢
  have HG := Lib.hid hg
  clear hm hN hW hg h
  go_enter Tryd.func20, Tryd.ntmps20
  go_wp2_with fail
  refine HD.out.mono ?_
  rintro e w' ⟨rfl, rfl⟩
  go_wp2
  go_loopw [11] (fun i wr => ∃ k : Nat, k ≤ m ∧ i = .int .i64 k ∧ Blk wr g 5 (zeros (m - k) ++ encD k N) ∧ Below g w wr) (fun i _ => m - (intOf i).toNat)
  case atStart => exact ⟨0, Nat.zero_le _, rfl, HBW.out.1, HBW.out.2⟩
  case round =>
    obtain ⟨k, hk, rfl, hB, hG⟩ := hrel
    by_cases hlt : k < m
    · have HF := Lib.hid (fiveBits_any A n c k bs _ (HR.out.keep (by rw [HG.out]; exact hG)) (by omega) (by omega))
      have hcell := hB.cell (m - 1 - k) (by simp [zeros_length, encD_length]; omega)
      have hfz := hB.frozen (m - 1 - k)
      obtain ⟨x, hx⟩ : ∃ x, (zeros (m - k) ++ encD k N).getD (m - 1 - k) 0 = x := ⟨_, rfl⟩
      rw [hx] at hcell
      rw [HN.out] at HF
      obtain ⟨d, hd⟩ : ∃ d, N / 32 ^ k % 32 = d := ⟨_, rfl⟩
      have hd32 : d < 32 := by rw [← hd]; exact Nat.mod_lt _ (by omega)
      rw [hd] at HF
      have HDD := Lib.hid hd
      have HB := Lib.hid hB
      have HGG := Lib.hid hG
      clear hB hG hx hd
      go_wp2_with fail
      refine HF.out.mono ?_
      rintro e w' ⟨rfl, rfl⟩
      go_wp2
      go_roundw
      case rel =>
        refine ⟨k + 1, by omega, by go_num, ?_, HGG.out.setCell (Nat.le_refl _) _⟩
        rw [← enc_step m k N hlt _ rfl, HDD.out, ← dig_str d hd32]
        exact HB.out.set _ _
      case measure => simp [intOf]; omega
    · obtain rfl : k = m := by omega
      have hst := string_rd wr _ _ k _ (hB.all' k k (by simp [zeros, encD_length]) (Nat.le_refl _))
      have HGG := Lib.hid hG
      rw [Nat.sub_self] at hst
      clear hB hG
      go_wp2
      go_ret
      refine ⟨?_, HGG.out⟩
      rw [HE.out, HN.out]
      simp [zeros]

set_option maxHeartbeats 400000 in
theorem Index32_any (c : UInt8) (w : World) :
    Calls Tryd.prog 23 #[.string ⟨#[48, 49, 50, 51, 52, 53, 54, 55, 56, 57, 97, 98, 99, 100, 102, 103, 104, 105, 106, 107, 108, 109, 110, 112, 113, 114, 115, 118, 119, 120, 121, 122]⟩, B c] w fun e w' => e = .returned (.int .i64 (v32 c)) ∧ w = w' := Index_any _ c w
theorem Index16_any (c : UInt8) (w : World) :
    Calls Tryd.prog 23 #[.string ⟨#[48, 49, 50, 51, 52, 53, 54, 55, 56, 57, 97, 98, 99, 100, 101, 102]⟩, B c] w fun e w' => e = .returned (.int .i64 (v16 c)) ∧ w = w' := Index_any _ c w

set_option maxHeartbeats 400000 in
theorem Decode_any (s : ByteArray) (l : List UInt8) (w : World) (hsl : s.data.toList = l) (hs : s.size ≤ 17592186044416) :
    Calls Tryd.prog 12 #[.string s] w fun e w' => Below w.heap.size w w' ∧ ((encL (decL l) = l ∧ e = .returned (.tuple #[.slice (some ⟨w.heap.size, 0, none⟩) (nByt s.size) (nByt s.size), .int .i64 0]) ∧ Blk w' w.heap.size 5 (decL l)) ∨ (encL (decL l) ≠ l ∧ e = .returned (.tuple #[.slice none 0 0, .int .i64 4]))) := by
  have hlen : l.length = s.size := by rw [← hsl]; simp
  have hgood := good_iff l
  rw [hlen] at hgood
  obtain ⟨n, hn⟩ : ∃ n, nByt s.size = n := ⟨_, rfl⟩
  have hnb : 8 * n ≤ 5 * s.size := by rw [← hn]; unfold nByt; omega
  have hmk := make_zeros n (by omega) w
  have HD1 := Lib.hid (bytesOf_any s.size w (by omega))
  rw [hn] at HD1 hgood ⊢
  have HDL : Hid (decL l = byteL n (numD l)) := by show decL l = _; unfold decL; rw [hlen, hn]
  obtain ⟨W, hW⟩ : ∃ W, w.alloc (rowObj 5 (zeros n)) = W := ⟨_, rfl⟩
  have HD2 := Lib.hid (digitsOf_any n W (by omega))
  have HBW : Hid (Blk W w.heap.size 5 (zeros n) ∧ Below w.heap.size w W) := by
    rw [← hW]
    exact ⟨Blk.new w 5 (zeros n), (Below.refl _ _).alloc (Nat.le_refl _) _⟩
  rw [hW] at hmk
  obtain ⟨g, hg⟩ : ∃ g, w.heap.size = g := ⟨_, rfl⟩
  rw [hg] at hmk HBW ⊢
  have HGOOD := Lib.hid hgood
  have HLEN := Lib.hid hlen
  have HSL := Lib.hid hsl
  clear hn hW hg hgood hlen hsl
  obtain ⟨m, hm⟩ : ∃ m, nDig n = m := ⟨_, rfl⟩
  rw [hm] at HD2 HGOOD
  have HM := Lib.hid hm
  have hm5 : 5 * m ≤ 8 * n + 4 := by rw [← hm]; unfold nDig; omega
  clear hm
  by_cases hml : m = s.size
  · have hne : ((m : Int) != (s.size : Int)) = false := by rw [bne_eq_false_iff_eq]; omega
    go_enter Tryd.func12, Tryd.ntmps12
    go_wp2_with fail
    refine HD1.out.mono ?_
    rintro e w' ⟨rfl, rfl⟩
    go_wp2_with fail
    refine HD2.out.mono ?_
    rintro e w' ⟨rfl, rfl⟩
    go_wp2
    go_loopw [19] (fun i wr => ∃ k : Nat, k ≤ s.size ∧ i = .int .i64 k ∧ (∀ c ∈ l.drop (s.size - k), 0 ≤ v32 c) ∧ numD (l.drop (s.size - k)) < 256 ^ n ∧ Blk wr g 5 (byteL n (numD (l.drop (s.size - k)))) ∧ Below g w wr) (fun i _ => s.size - (intOf i).toNat)
    case atStart =>
      have e : l.drop (s.size - 0) = [] := List.drop_eq_nil_of_le (by rw [HLEN.out]; exact Nat.le_refl _)
      refine ⟨0, Nat.zero_le _, rfl, ?_, ?_, ?_, HBW.out.2⟩
      · rw [e]; simp
      · rw [e]; exact pos256 n
      · rw [e]
        show Blk _ _ _ (byteL n 0)
        rw [byteL_zero]; exact HBW.out.1
    case round =>
      obtain ⟨k, hk, rfl, hval, hfit, hB, hG⟩ := hrel
      have HVAL := Lib.hid hval
      have HFIT := Lib.hid hfit
      have HGG := Lib.hid hG
      have HB := Lib.hid hB
      clear hval hfit hG hB
      by_cases hlt : k < s.size
      · obtain ⟨x, hx⟩ : ∃ x, l.getD (s.size - 1 - k) 0 = x := ⟨_, rfl⟩
        have hsx : s[s.size - 1 - k] = x := by
          rw [← hx, ← HSL.out, getD_get _ _ (by simp; omega)]
          rfl
        have HX := Lib.hid hx
        have HDR := Lib.hid (drop_last l s.size k HLEN.out hlt)
        have HIX := Lib.hid (Index32_any x wr)
        obtain ⟨v, hv⟩ : ∃ v, v32 x = v := ⟨_, rfl⟩
        rw [hv] at HIX
        have HV := Lib.hid hv
        have hv32 : v < 32 := by rw [← hv]; exact v32_lt x
        clear hx hv
        by_cases hv0 : v < 0
        · go_wp2_with fail
          refine HIX.out.mono ?_
          rintro e w' ⟨rfl, rfl⟩
          go_wp2
          go_ret2
          refine ⟨HGG.out, .inr ⟨fun hgd => ?_, rfl⟩⟩
          have h2 := (HGOOD.out.1 hgd).2.1 x ?_
          · rw [HV.out] at h2; omega
          · rw [← HX.out, getD_get _ _ (by rw [HLEN.out]; omega)]; exact List.getElem_mem _
        · obtain ⟨v, rfl⟩ := Int.eq_ofNat_of_zero_le (show 0 ≤ v by omega)
          have HNL := Lib.hid (numD_last l s.size k v HLEN.out hlt (by rw [HX.out]; exact HV.out))
          have HSET := Lib.hid (setFive_any g n n k v _ wr HB.out (by
            have := numD_lt (l.drop (s.size - k))
            rwa [List.length_drop, HLEN.out, show s.size - (s.size - k) = k by omega] at this) (by omega) (by omega) (by omega))
          go_wp2_with fail
          refine HIX.out.mono ?_
          rintro e w' ⟨rfl, rfl⟩
          go_wp2_with fail
          refine HSET.out.mono ?_
          rintro e w' (⟨h1, rfl, hB', hG'⟩ | ⟨h1, rfl, hG'⟩)
          · have HH := Lib.hid (And.intro h1 (And.intro hB' hG'))
            clear h1 hB' hG'
            go_wp2
            go_roundw
            case rel =>
              refine ⟨k + 1, by omega, by go_num, ?_, ?_, ?_, ?_⟩
              · rw [HDR.out]
                intro c hc
                rcases List.mem_cons.1 hc with rfl | hc
                · rw [HX.out, HV.out]; omega
                · exact HVAL.out c hc
              · rw [HNL.out]; exact HH.out.1
              · rw [HNL.out]; exact HH.out.2.1
              · exact HGG.out.grown HH.out.2.2 (Nat.le_of_lt HB.out.lt) (fun k hk => by injection hk with hk; omega)
            case measure => simp [intOf]; omega
          · have HH := Lib.hid (And.intro h1 hG')
            clear h1 hG'
            go_wp2
            go_ret2
            refine ⟨HGG.out.grown HH.out.2 (Nat.le_of_lt HB.out.lt) (fun k hk => by injection hk with hk; omega), .inr ⟨fun hgd => ?_, rfl⟩⟩
            have h2 := (HGOOD.out.1 hgd).2.2
            have h3 := numD_drop (s.size - (k + 1)) l
            rw [HNL.out] at h3
            have h4 := HH.out.1
            omega
      · obtain rfl : k = s.size := by omega
        go_wp2
        go_ret2
        have e : l.drop (s.size - s.size) = l := by rw [Nat.sub_self, List.drop_zero]
        refine ⟨HGG.out, .inl ⟨HGOOD.out.2 ⟨hml, ?_, ?_⟩, rfl, ?_⟩⟩
        · have := HVAL.out; rwa [e] at this
        · have := HFIT.out; rwa [e] at this
        · have := HB.out; rw [e] at this; rw [HDL.out]; exact this
  · have hne : ((m : Int) != (s.size : Int)) = true := by rw [bne_iff_ne]; omega
    go_enter Tryd.func12, Tryd.ntmps12
    go_wp2_with fail
    refine HD1.out.mono ?_
    rintro e w' ⟨rfl, rfl⟩
    go_wp2_with fail
    refine HD2.out.mono ?_
    rintro e w' ⟨rfl, rfl⟩
    go_wp2
    go_ret2
    exact ⟨HBW.out.2, .inr ⟨fun hgd => hml (HGOOD.out.1 hgd).1, rfl⟩⟩
end Go.Proofs.YtmimffbjghhdhaaDoor.B2x
