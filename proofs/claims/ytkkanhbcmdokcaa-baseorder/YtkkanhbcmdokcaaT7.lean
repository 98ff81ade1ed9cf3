import Derived.Test.YtkkanhbcmdokcaaT6
namespace Go.Proofs.Ytkkanhbcmdokcaa
open Go.RowKit Go.Bs

theorem pow_cases (u : Nat) (hu : u < 8) : 2 ^ u ≤ 128 ∧ (2 * 2 ^ u = 256 ↔ u = 7) ∧ 0 < 2 ^ u := by
  have : u = 0 ∨ u = 1 ∨ u = 2 ∨ u = 3 ∨ u = 4 ∨ u = 5 ∨ u = 6 ∨ u = 7 := by omega
  rcases this with h | h | h | h | h | h | h | h <;> subst h <;> decide

theorem next_seven (T : Nat) (h : T % 8 = 7) : 2 ^ ((T + 1) % 8) = 1 ∧ (T + 1) / 8 = T / 8 + 1 := by
  refine ⟨?_, by omega⟩
  rw [show (T + 1) % 8 = 0 by omega]
theorem next_other (T : Nat) (h : T % 8 ≠ 7) : 2 ^ ((T + 1) % 8) = 2 * 2 ^ (T % 8) ∧ (T + 1) / 8 = T / 8 := by
  refine ⟨?_, by omega⟩
  rw [show (T + 1) % 8 = T % 8 + 1 by omega, Nat.pow_succ, Nat.mul_comm]

set_option maxHeartbeats 1000000 in
theorem rDecode_any (s : ByteArray) (l : List UInt8) (w : World) (hsl : s.data.toList = l) (hs : s.size ≤ 1099511627776) :
    Calls Try.prog 19 #[.string s] w fun e w' => Below w.heap.size w w' ∧ ((encL (decL l) = l ∧ e = .returned (.tuple #[.slice (some ⟨w.heap.size, 0, none⟩) (nByt s.size) (nByt s.size), .bool true]) ∧ Blk w' w.heap.size 5 (decL l)) ∨ (encL (decL l) ≠ l ∧ ∃ A n c, e = .returned (.tuple #[.slice A n c, .bool false]))) := by
  have hlen : l.length = s.size := by rw [← hsl]; simp
  have hgood := good_iff l
  rw [hlen] at hgood
  obtain ⟨n, hn⟩ : ∃ n, nByt s.size = n := ⟨_, rfl⟩
  have hnb : 8 * n ≤ 5 * s.size := by rw [← hn]; unfold nByt; omega
  have hdv : (s.size : Int) * 5 / 8 = (n : Int) := by rw [← hn]; unfold nByt; omega
  have hmk := make_zeros n (by omega) w
  rw [hn] at hgood ⊢
  have HDL : Hid (decL l = byteL n (numD l)) := by show decL l = _; unfold decL; rw [hlen, hn]
  obtain ⟨W, hW⟩ : ∃ W, w.alloc (rowObj 5 (zeros n)) = W := ⟨_, rfl⟩
  have HBW : Hid (Blk W w.heap.size 5 (zeros n) ∧ Below w.heap.size w W) := by
    rw [← hW]
    exact ⟨Blk.new w 5 (zeros n), (Below.refl _ _).alloc (Nat.le_refl _) _⟩
  rw [hW] at hmk
  obtain ⟨g, hg⟩ : ∃ g, w.heap.size = g := ⟨_, rfl⟩
  rw [hg] at hmk HBW ⊢
  have HGOOD := Lib.hid hgood
  have HLEN := Lib.hid hlen
  have HSL := Lib.hid hsl
  clear hn hW hg hgood hlen hsl
  go_enter Try.func19, Try.ntmps19
  go_wp2
  simp only [hdv]
  go_loopw [6, 7, 8] (fun wt at' i wr => ∃ k : Nat, k ≤ s.size ∧ i = .int .i64 ((s.size : Int) - 1 - k) ∧ wt = .int .i64 (2 ^ (5 * k % 8) : Nat) ∧ at' = .int .i64 (5 * k / 8 : Nat) ∧ (∀ c ∈ l.drop (s.size - k), 0 ≤ v32 c) ∧ Blk wr g 5 (byteL n (numD (l.drop (s.size - k)))) ∧ Below g w wr) (fun _ _ i _ => (intOf i + 1).toNat)
  case atStart =>
    have e : l.drop (s.size - 0) = [] := List.drop_eq_nil_of_le (by rw [HLEN.out]; exact Nat.le_refl _)
    refine ⟨0, Nat.zero_le _, by simp, rfl, rfl, ?_, ?_, HBW.out.2⟩
    · rw [e]; simp
    · rw [e]
      show Blk _ _ _ (byteL n 0)
      rw [byteL_zero]; exact HBW.out.1
  case round =>
    obtain ⟨k, hk, rfl, rfl, rfl, hval, hB, hG⟩ := hrel
    have HVAL := Lib.hid hval
    have HGG := Lib.hid hG
    have HB := Lib.hid hB
    clear hval hG hB
    by_cases hlt : k < s.size
    · obtain ⟨x, hx⟩ : ∃ x, l.getD (s.size - 1 - k) 0 = x := ⟨_, rfl⟩
      have hsx : s[s.size - 1 - k] = x := by
        rw [← hx, ← HSL.out, getD_get _ _ (by simp; omega)]
        rfl
      have HX := Lib.hid hx
      have HDR := Lib.hid (drop_last l s.size k HLEN.out hlt)
      have HIX := Lib.hid (value32_any x wr)
      obtain ⟨v, hv⟩ : ∃ v, v32 x = v := ⟨_, rfl⟩
      rw [hv] at HIX
      have HV := Lib.hid hv
      have hv32 : v < 32 := by rw [← hv]; exact v32_lt x
      clear hx hv
      by_cases hv0 : v < 0
      · go_wp2_with fail
        refine HIX.out.mono ?_
        rintro e w' ⟨rfl, rfl⟩
        go_wp2
        go_ret2
        refine ⟨HGG.out, .inr ⟨fun hgd => ?_, none, 0, 0, rfl⟩⟩
        have h2 := (HGOOD.out.1 hgd).2.1 x ?_
        · rw [HV.out] at h2; omega
        · rw [← HX.out, getD_get _ _ (by rw [HLEN.out]; omega)]; exact List.getElem_mem _
      · obtain ⟨v, rfl⟩ := Int.eq_ofNat_of_zero_le (show 0 ≤ v by omega)
        have HNL := Lib.hid (numD_last l s.size k v HLEN.out hlt (by rw [HX.out]; exact HV.out))
        obtain ⟨X, hXX⟩ : ∃ X, numD (l.drop (s.size - k)) = X := ⟨_, rfl⟩
        have HXL : Hid (X < 32 ^ k) := by
          have := numD_lt (l.drop (s.size - k))
          rwa [List.length_drop, HLEN.out, show s.size - (s.size - k) = k by omega, hXX] at this
        rw [hXX] at HNL HB
        clear hXX
        go_wp2_with fail
        refine HIX.out.mono ?_
        rintro e w' ⟨rfl, rfl⟩
        go_wp2
        go_loopw [6, 7, 9, 10] (fun wt at' vv j wr' => ∃ t : Nat, t ≤ 5 ∧ j = .int .i64 t ∧ vv = .int .i64 (v / 2 ^ t : Nat) ∧ wt = .int .i64 (2 ^ ((5 * k + t) % 8) : Nat) ∧ at' = .int .i64 ((5 * k + t) / 8 : Nat) ∧ Blk wr' g 5 (byteL n (X + 2 ^ (5 * k) * (v % 2 ^ t))) ∧ Below g w wr') (fun _ _ _ j _ => 5 - (intOf j).toNat)
        case atStart => exact ⟨0, by omega, rfl, by simp, rfl, rfl, by simpa [Nat.mod_one] using HB.out, HGG.out⟩
        case round =>
          obtain ⟨t, ht, rfl, rfl, rfl, rfl, hB2, hG2⟩ := hrel
          have HB2 := Lib.hid hB2
          have HG2 := Lib.hid hG2
          by_cases ht5 : t < 5
          · obtain ⟨y, hy⟩ : ∃ y, v / 2 ^ t = y := ⟨_, rfl⟩
            have hy31 : y ≤ 31 := by rw [← hy]; exact Nat.le_trans (Nat.div_le_self _ _) (by omega)
            have HH := Lib.hid (half v t)
            have HADD := Lib.hid (add_bit X v k t)
            have HLT := Lib.hid (lt_bits X v k t HXL.out)
            rw [hy] at HH HADD ⊢
            obtain ⟨Y, hY⟩ : ∃ Y, X + 2 ^ (5 * k) * (v % 2 ^ t) = Y := ⟨_, rfl⟩
            rw [hY] at HADD HLT HB2 hB2
            obtain ⟨T, hT⟩ : ∃ T, 5 * k + t = T := ⟨_, rfl⟩
            rw [hT] at HADD HLT ⊢
            have HBIT := Lib.hid (byteL_bit n Y T HLT.out)
            have HOVER := Lib.hid (byteL_bit_over n Y T)
            have HN7 := Lib.hid (next_seven T)
            have HNO := Lib.hid (next_other T)
            have hTT := hT
            obtain ⟨a, ha⟩ : ∃ a, T / 8 = a := ⟨_, rfl⟩
            obtain ⟨u, hu⟩ : ∃ u, T % 8 = u := ⟨_, rfl⟩
            have hu8 : u < 8 := by omega
            have hak : a ≤ 5 * s.size := by omega
            obtain ⟨hp128, hp256, hp0⟩ := pow_cases u hu8
            obtain ⟨p, hp⟩ : ∃ p, 2 ^ u = p := ⟨_, rfl⟩
            rw [ha, hu, hp] at HBIT HNO ⊢
            rw [ha] at HOVER HN7
            rw [hu] at HN7
            rw [hp] at hp128 hp256 hp0
            have HTK : Hid (5 * k + (t + 1) = T + 1) := by show _ = _; omega
            clear hy hY hT hTT ha hu hp hG2
            have hcellA : a < n → wr.cell? ⟨g, a, none⟩ = some (B (byteAt Y a)) := fun h => by
              have := hB2.cell a (by rw [byteL_length]; exact h)
              rwa [byteL_getD _ _ _ h] at this
            have hfz := hB2.frozen a
            clear hB2
            by_cases hbit : y % 2 = 1
            · have hb1 : ((y : Int) % 2 == 1) = true := by rw [beq_iff_eq]; omega
              by_cases han : a < n
              · have hcell := hcellA han
                obtain ⟨z, hz⟩ : ∃ z, byteAt Y a = z := ⟨_, rfl⟩
                rw [hz] at hcell HBIT
                have hzp := (HBIT.out han).2
                have HST : Hid (Value.int .u8 ((z.toNat : Int) + (p : Int)) = B (UInt8.ofNat (z.toNat + p))) := by
                  show _ = Value.int .u8 ((UInt8.ofNat (z.toNat + p)).toNat : Int)
                  rw [UInt8.toNat_ofNat']
                  congr 1
                  omega
                clear hz hcellA
                by_cases h7 : u = 7
                · have hw : (2 * (p : Int) == 256) = true := by rw [beq_iff_eq]; have := hp256.2 h7; omega
                  clear hp256
                  go_wp2
                  go_roundw
                  case rel =>
                    refine ⟨t + 1, by omega, by go_num, by rw [← HH.out]; go_num, ?_, ?_, ?_, HG2.out.setCell (Nat.le_refl _) _⟩
                    · rw [HTK.out, (HN7.out h7).1]; rfl
                    · rw [HTK.out, (HN7.out h7).2]; go_num
                    · rw [HADD.out, hbit, Nat.mul_one, (HBIT.out han).1, HST.out]; exact HB2.out.set _ _
                  case measure => simp [intOf]; omega
                · have hw : (2 * (p : Int) == 256) = false := by rw [beq_eq_false_iff_ne]; intro h; exact h7 (hp256.1 (by omega))
                  clear hp256
                  go_wp2
                  go_roundw
                  case rel =>
                    refine ⟨t + 1, by omega, by go_num, by rw [← HH.out]; go_num, ?_, ?_, ?_, HG2.out.setCell (Nat.le_refl _) _⟩
                    · rw [HTK.out, (HNO.out h7).1]; go_num
                    · rw [HTK.out, (HNO.out h7).2]
                    · rw [HADD.out, hbit, Nat.mul_one, (HBIT.out han).1, HST.out]; exact HB2.out.set _ _
                  case measure => simp [intOf]; omega
              · clear hcellA
                have HBN : Hid (Blk wr g 5 (byteL n (X + 2 ^ (5 * k) * (v % 2 ^ (t + 1))))) := by
                  show Blk _ _ _ _
                  rw [HADD.out, hbit, Nat.mul_one, HOVER.out (by omega)]; exact HB2.out
                by_cases h7 : u = 7
                · have hw : (2 * (p : Int) == 256) = true := by rw [beq_iff_eq]; have := hp256.2 h7; omega
                  clear hp256
                  go_wp2
                  go_roundw
                  case rel =>
                    refine ⟨t + 1, by omega, by go_num, by rw [← HH.out]; go_num, ?_, ?_, HBN.out, HG2.out⟩
                    · rw [HTK.out, (HN7.out h7).1]; rfl
                    · rw [HTK.out, (HN7.out h7).2]; go_num
                  case measure => simp [intOf]; omega
                · have hw : (2 * (p : Int) == 256) = false := by rw [beq_eq_false_iff_ne]; intro h; exact h7 (hp256.1 (by omega))
                  clear hp256
                  go_wp2
                  go_roundw
                  case rel =>
                    refine ⟨t + 1, by omega, by go_num, by rw [← HH.out]; go_num, ?_, ?_, HBN.out, HG2.out⟩
                    · rw [HTK.out, (HNO.out h7).1]; go_num
                    · rw [HTK.out, (HNO.out h7).2]
                  case measure => simp [intOf]; omega
            · have hb1 : ((y : Int) % 2 == 1) = false := by rw [beq_eq_false_iff_ne]; omega
              have HBN : Hid (Blk wr g 5 (byteL n (X + 2 ^ (5 * k) * (v % 2 ^ (t + 1))))) := by
                show Blk _ _ _ _
                rw [HADD.out, show y % 2 = 0 by omega, Nat.mul_zero, Nat.add_zero]; exact HB2.out
              clear hcellA
              by_cases h7 : u = 7
              · have hw : (2 * (p : Int) == 256) = true := by rw [beq_iff_eq]; have := hp256.2 h7; omega
                clear hp256
                go_wp2
                go_roundw
                case rel =>
                  refine ⟨t + 1, by omega, by go_num, by rw [← HH.out]; go_num, ?_, ?_, HBN.out, HG2.out⟩
                  · rw [HTK.out, (HN7.out h7).1]; rfl
                  · rw [HTK.out, (HN7.out h7).2]; go_num
                case measure => simp [intOf]; omega
              · have hw : (2 * (p : Int) == 256) = false := by rw [beq_eq_false_iff_ne]; intro h; exact h7 (hp256.1 (by omega))
                clear hp256
                go_wp2
                go_roundw
                case rel =>
                  refine ⟨t + 1, by omega, by go_num, by rw [← HH.out]; go_num, ?_, ?_, HBN.out, HG2.out⟩
                  · rw [HTK.out, (HNO.out h7).1]; go_num
                  · rw [HTK.out, (HNO.out h7).2]
                case measure => simp [intOf]; omega
          · obtain rfl : t = 5 := by omega
            have HBN : Hid (Blk wr g 5 (byteL n (numD (l.drop (s.size - (k + 1)))))) := by
              have := HB2.out
              rw [show (2 : Nat) ^ 5 = 32 from rfl, Nat.mod_eq_of_lt (show v < 32 by omega), ← pow32, Nat.mul_comm, ← HNL.out] at this
              exact this
            have HVN : Hid (∀ c ∈ l.drop (s.size - (k + 1)), 0 ≤ v32 c) := by
              show ∀ c ∈ l.drop (s.size - (k + 1)), 0 ≤ v32 c
              rw [HDR.out]
              intro c hc
              rcases List.mem_cons.1 hc with rfl | hc
              · rw [HX.out, HV.out]; omega
              · exact HVAL.out c hc
            clear hB2 hG2
            go_wp2
            go_roundw
            case rel =>
              refine ⟨k + 1, by omega, by congr 1; omega, ?_, ?_, HVN.out, HBN.out, HG2.out⟩
              · rw [show 5 * (k + 1) = 5 * k + 5 by omega]
              · rw [show 5 * (k + 1) = 5 * k + 5 by omega]
            case measure => simp [intOf]; omega
    · obtain rfl : k = s.size := by omega
      have hr := HB.out.all' n n (byteL_length _ _) (Nat.le_refl _)
      have e : l.drop (s.size - s.size) = l := by rw [Nat.sub_self, List.drop_zero]
      rw [e, ← HDL.out] at hr
      have HEN := Lib.hid (rEncode_any _ n n _ wr hr (by omega))
      have HB2 : Hid (Blk wr g 5 (decL l)) := by have := HB.out; rw [e, ← HDL.out] at this; exact this
      clear hr
      have hst : s.toList = l := by rw [Lib.toList_data, HSL.out]
      by_cases hgd : encL (decL l) = l
      · have HGD := Lib.hid hgd
        have heq : (encL (decL l) == l) = true := by rw [hgd]; simp
        clear hgd
        go_wp2_with fail
        refine HEN.out.mono ?_
        rintro e w' ⟨rfl, rfl⟩
        go_wp2
        go_ret2
        exact ⟨HGG.out, .inl ⟨HGD.out, rfl, HB2.out⟩⟩
      · have heq : (encL (decL l) == l) = false := by
          rw [beq_eq_false_iff_ne]
          exact hgd
        go_wp2_with fail
        refine HEN.out.mono ?_
        rintro e w' ⟨rfl, rfl⟩
        go_wp2
        go_ret2
        exact ⟨HGG.out, .inr ⟨hgd, _, _, _, rfl⟩⟩
end Go.Proofs.Ytkkanhbcmdokcaa
