/- the document's Pad. Conditions: none. -/
import Derived.Test.YtmimffbjghhdhaaDoorS11
namespace Go.Proofs.YtmimffbjghhdhaaDoor
open Go.RowKit Go.Bs Go.Sha

theorem Own.le {w : World} {base base' e : Nat} {v : Value} {bs : List UInt8} (h : Own w base e v bs) (hb : base' ≤ base) : Own w base' e v bs := by
  refine ⟨h.1, ?_⟩
  rcases h.2 with h0 | ⟨g', cap, cur, e1, e2, e3⟩
  · exact .inl h0
  · exact .inr ⟨g', cap, cur, e1, Nat.le_trans hb e2, e3⟩
def lowL (N k : Nat) : List UInt8 := zeros (8 - k) ++ (be8 N).drop (8 - k)
theorem lowL_length (N k : Nat) (h : k ≤ 8) : (lowL N k).length = 8 := by simp [lowL, zeros_length, be8_length]
theorem lowL_set (N k : Nat) (h : k < 8) : (lowL N k).set (7 - k) (byteAt N k) = lowL N (k + 1) := by
  have hb := be8_getD N (7 - k) (by omega)
  rw [show 7 - (7 - k) = k by omega] at hb
  rw [← hb]
  generalize hB : be8 N = l
  have hl : l.length = 8 := by rw [← hB]; exact be8_length N
  match l, hl with
  | [b0, b1, b2, b3, b4, b5, b6, b7], _ =>
    have : k = 0 ∨ k = 1 ∨ k = 2 ∨ k = 3 ∨ k = 4 ∨ k = 5 ∨ k = 6 ∨ k = 7 := by omega
    rcases this with e | e | e | e | e | e | e | e <;> subst e <;> simp [lowL, hB, zeros]
theorem lowL_all (N : Nat) : lowL N 8 = be8 N := by simp [lowL, zeros]

set_option maxHeartbeats 1000000 in
theorem rPad_any (n : Nat) (hn : n ≤ 1152921504606846975) (w : World) :
    Calls Tryd.prog 37 #[.int .i64 n] w fun e w' => ∃ v, e = .returned v ∧ Own w' w.heap.size 5 v (padB n) ∧ Below w.heap.size w w' := by
  obtain ⟨q, hq⟩ : ∃ q, noughts n = q := ⟨_, rfl⟩
  have hq64 : q < 64 := by rw [← hq]; unfold noughts; omega
  have hqm : (n + 9 + q) % 64 = 0 := by rw [← hq]; unfold noughts; omega
  have HQ := Lib.hid hq
  obtain ⟨g, hg⟩ : ∃ g, w.heap.size = g := ⟨_, rfl⟩
  have hgw : g ≤ w.heap.size := by omega
  have HO : Hid (Own (w.alloc (.cells #[.int .u8 128] 5)) g 5 (.slice (some ⟨g, 0, none⟩) 1 1) (128 :: zeros 0) ∧ Below g w (w.alloc (.cells #[.int .u8 128] 5))) := by
    rw [← hg]
    exact ⟨own_of_blk (k := 1) (Blk.new w 5 [128]) (c := 1) rfl (by omega) (by omega), (Below.refl _ _).alloc (Nat.le_refl _) _⟩
  have HG := Lib.hid hg
  clear hq
  rw [hg]
  go_enter Tryd.func37, Tryd.ntmps37
  go_wp2
  go_loopw [3] (fun v wr => ∃ j : Nat, j ≤ q ∧ Own wr g 5 v (128 :: zeros j) ∧ Below g w wr) (fun v _ => 70 - sliceLen v)
  case atStart => exact ⟨0, Nat.zero_le _, HO.out.1, HO.out.2⟩
  case round =>
    obtain ⟨j, hj, hO, hB⟩ := hrel
    obtain ⟨A, c, rfl, hr⟩ := hO.slice (1 + j) (by simp [zeros_length]; omega)
    have hsz : g ≤ wr.heap.size + 1 := by have := hB.size; omega
    clear hr
    by_cases hlt : j < q
    · have hne : (((n : Int) + ((1 + j : Nat) : Int) + 8) % 64 != 0) = true := by rw [bne_iff_ne]; omega
      go_wp2_with (at_builtin; go_loud (refine wpList_app _ rfl (.tmp 15) (.tmp 16) _ rfl g 5 Tryd.underlying22 u8_info (.slice A (1 + j) c) (128 :: zeros j) rfl (hO.alloc _) _ 1 1 [0] rfl (one_rd _ _ _ _ rfl) (by simp [zeros_length]; omega) (by simpa using hsz) ?_); intro v4 w4 ho4 hb4)
      go_roundw
      case rel =>
        refine ⟨j + 1, by omega, ?_, (hB.alloc (by have := hB.size; omega) _).trans hb4⟩
        have e : (128 :: zeros j) ++ [(0 : UInt8)] = 128 :: zeros (j + 1) := by simp [zeros, List.replicate_succ']
        rw [← e]
        exact ho4
      case measure =>
        obtain ⟨A', c', rfl, _⟩ := ho4.slice (1 + j + 1) (by simp [zeros_length]; omega)
        simp [sliceLen]; omega
    · obtain rfl : j = q := by omega
      have hne : (((n : Int) + ((1 + j : Nat) : Int) + 8) % 64 != 0) = false := by rw [bne_eq_false_iff_eq]; omega
      have HO2 := Lib.hid hO
      clear hO
      obtain ⟨w5, rfl⟩ : ∃ w5, w5 = wr := ⟨_, rfl⟩
      obtain ⟨N, hN⟩ : ∃ N, 8 * n = N := ⟨_, rfl⟩
      have hN63 : N ≤ 9223372036854775800 := by omega
      have hcnt : (8 * (n : Int)) = (N : Int) := by omega
      obtain ⟨gl, hgl⟩ : ∃ gl, w5.heap.size = gl := ⟨_, rfl⟩
      obtain ⟨W6, hW6⟩ : ∃ W6, w5.alloc (.cells #[.int .u8 0, .int .u8 0, .int .u8 0, .int .u8 0, .int .u8 0, .int .u8 0, .int .u8 0, .int .u8 0] 61) = W6 := ⟨_, rfl⟩
      have HB6 : Hid (Blk W6 gl 61 (lowL N 0) ∧ Below gl w5 W6) := by
        rw [← hW6, ← hgl]
        refine ⟨?_, (Below.refl _ _).alloc (Nat.le_refl _) _⟩
        have e : lowL N 0 = zeros 8 := by simp [lowL, be8_length]
        rw [e]
        exact heap_alloc_new w5 _
      have hggl : g ≤ gl := by have := hB.size; omega
      have HBB := Lib.hid hB
      have HN := Lib.hid hN
      have HGL := Lib.hid hgl
      clear hB hN
      go_wp2
      go_loopw [4, 6] (fun x i wr => ∃ k : Nat, k ≤ 8 ∧ i = .int .i64 (7 - (k : Int)) ∧ x = .int .i64 ((N / 256 ^ k : Nat) : Int) ∧ Blk wr gl 61 (lowL N k) ∧ Below gl w5 wr) (fun _ i _ => (intOf i + 1).toNat)
      case atStart => exact ⟨0, Nat.zero_le _, rfl, by simp, HB6.out.1, HB6.out.2⟩
      case round =>
        obtain ⟨k, hk, rfl, rfl, hb, hbw⟩ := hrel
        obtain ⟨m, hm⟩ : ∃ m, N / 256 ^ k = m := ⟨_, rfl⟩
        have hmn : m ≤ 9223372036854775800 := by rw [← hm]; exact Nat.le_trans (Nat.div_le_self _ _) hN63
        rw [hm]
        have HM := Lib.hid hm
        clear hm
        by_cases hlt2 : k < 8
        · obtain ⟨i, hi⟩ : ∃ i, 7 - k = i := ⟨_, rfl⟩
          have hd : 7 - (k : Int) = (i : Int) := by omega
          rw [hd]
          have hcell := hb.cell i (by rw [lowL_length N k hk]; omega)
          have hfz := hb.frozen i
          obtain ⟨y, hy⟩ : ∃ y, (lowL N k).getD i 0 = y := ⟨_, rfl⟩
          rw [hy] at hcell
          have hv : Value.int .u8 ((m : Int) % 256) = B (byteAt N k) := by
            show _ = Value.int .u8 ((byteAt N k).toNat : Int)
            rw [byteAt_toNat, HM.out]; rfl
          have HV := Lib.hid hv
          have bi : (i : Int) < 8 := by omega
          have HBL := Lib.hid hb
          have HBW := Lib.hid hbw
          clear hb hbw hv hy
          go_wp2
          go_roundw
          case rel =>
            refine ⟨k + 1, by omega, ?_, ?_, ?_, HBW.out.setCell (Nat.le_refl _) _⟩
            · congr 1; omega
            · rw [Nat.pow_succ, ← Nat.div_div_eq_div_mul, HM.out]; rfl
            · rw [← lowL_set N k hlt2, hi, HV.out]
              exact HBL.out.set _ _
          case measure => simp [intOf]
        · obtain rfl : k = 8 := by omega
          simp only [show 7 - ((8 : Nat) : Int) = -1 from rfl]
          rw [lowL_all] at hb
          have hO3 := HO2.out.keep (by rw [HGL.out]; exact hbw)
          have hr3 : Rd wr (some ⟨gl, 0, none⟩) 8 8 (be8 N) := hb.all' 8 8 (be8_length N) (Nat.le_refl _)
          have hsz3 : g ≤ wr.heap.size := by have := hbw.size; omega
          have HBW := Lib.hid hbw
          clear hb hbw
          go_wp2_with (at_builtin; go_loud (refine wpList_app _ rfl (.tmp 31) (.tmp 32) _ rfl g 5 Tryd.underlying22 u8_info (.slice A (1 + j) c) (128 :: zeros j) rfl hO3 _ 8 8 (be8 N) rfl hr3 (by simp [zeros_length]; omega) hsz3 ?_); intro v4 w4 ho4 hb4)
          go_ret
          refine ⟨v4, rfl, ?_, (HBB.out.trans (HBW.out.mono hggl)).trans hb4⟩
          have e : (128 :: zeros j) ++ be8 N = padB n := by
            unfold padB
            rw [HQ.out, HN.out]
            rfl
          rw [← e]
          exact ho4
end Go.Proofs.YtmimffbjghhdhaaDoor
