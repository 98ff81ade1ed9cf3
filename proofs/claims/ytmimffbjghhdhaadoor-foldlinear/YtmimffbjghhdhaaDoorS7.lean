/- padding. Conditions: none. -/
import Derived.Test.YtmimffbjghhdhaaDoorS2
namespace Go.Proofs.YtmimffbjghhdhaaDoor
open Go.RowKit Go.Bs Go.Sha

theorem u8_info : (Tryd.prog.info? 5).map (fun i => (i.zero, i.size, i.bytes)) = some (some (.int .u8 0), 1, 1) := by kernel_rfl
theorem u8_size : (Tryd.prog.info? 5).map (·.size) = some 1 := by kernel_rfl

theorem make_cap (l c : Nat) (hlc : l ≤ c) (hc : c ≤ 281474976710656) (w : World) :
    (Instr.makeSlice 22 (.int .i64 (l : Int)) (.int .i64 (c : Int))).run Tryd.prog w = .ok (.slice (some ⟨w.heap.size, 0, none⟩) l c) (w.alloc (rowObj 5 (zeros c))) := by
  obtain ⟨i, hi, hz, hs, hb⟩ := info_parts u8_info
  have hr := run_make (P := Tryd.prog) w 22 5 i (.int .u8 0) Tryd.underlying22 hi hz .i64 .i64 (l : Int) (c : Int) (by omega) (by omega) (by rw [hb]; omega) (by omega)
  rw [hr, hs]
  simp only [Int.toNat_natCast, Nat.mul_one]
  rw [show (Value.int .u8 0).cells = #[.int .u8 0] from rfl, madeCells_zeros]
  rfl
theorem string_rd (w : World) (A : Option Addr) (n c : Nat) (bs : List UInt8) (h : Rd w A n c bs) : (convert 22 9 (.slice A n c)).run Tryd.prog w = .ok (.string ⟨bs.toArray⟩) w :=
  run_string_rd w 22 9 5 Tryd.underlying22 Tryd.underlying5 Tryd.underlying9 A n c bs h

theorem own_of_blk {w : World} {g c k : Nat} {bs : List UInt8} (h : Blk w g 5 bs) (hl : bs.length = c) (hk : k ≤ c) (hm : c ≤ 281474976710656) : Own w g 5 (.slice (some ⟨g, 0, none⟩) k c) (bs.take k) := by
  have hlk : (bs.take k).length = k := by rw [List.length_take]; omega
  unfold Own
  rw [hlk]
  refine ⟨by rw [List.length_map, hlk, Nat.mul_one], .inr ⟨g, c, _, rfl, Nat.le_refl _, h, hk, by unfold maxLen; omega, by simp [hl], ?_⟩⟩
  simp [List.map_take]
theorem be8_length (x : Nat) : (be8 x).length = 8 := by simp [be8, numB_length]
theorem be8_getD (x k : Nat) (h : k < 8) : (be8 x).getD k 0 = byteAt x (7 - k) := by
  have : k = 0 ∨ k = 1 ∨ k = 2 ∨ k = 3 ∨ k = 4 ∨ k = 5 ∨ k = 6 ∨ k = 7 := by omega
  rcases this with e | e | e | e | e | e | e | e <;> subst e <;> simp [be8, numB, List.range, List.range.loop]

set_option maxHeartbeats 1000000 in
theorem padding_any (n : Nat) (hn : n ≤ 1152921504606846975) (w : World) :
    Calls Tryd.prog 34 #[.int .i64 n] w fun e w' => ∃ v, e = .returned v ∧ Own w' w.heap.size 5 v (padB n) ∧ Below w.heap.size w w' := by
  obtain ⟨q, hq⟩ : ∃ q, noughts n = q := ⟨_, rfl⟩
  have hq64 : q < 64 := by rw [← hq]; unfold noughts; omega
  have e1 : (119 - (n : Int) % 64) % 64 = (q : Int) := by rw [← hq]; unfold noughts; omega
  have hmk := make_cap (1 + q) (1 + q + 8) (by omega) (by omega) w
  obtain ⟨W, hW⟩ : ∃ W, w.alloc (rowObj 5 (zeros (1 + q + 8))) = W := ⟨_, rfl⟩
  have hB : Blk W w.heap.size 5 (zeros (1 + q + 8)) := by rw [← hW]; exact Blk.new w 5 _
  have HBW : Hid (Below w.heap.size w W) := by rw [← hW]; exact (Below.refl _ _).alloc (Nat.le_refl _) _
  rw [hW] at hmk
  obtain ⟨g, hg⟩ : ∃ g, w.heap.size = g := ⟨_, rfl⟩
  rw [hg] at hB hmk HBW ⊢
  have hcell := hB.cell 0 (by rw [zeros_length]; omega)
  have hfz := hB.frozen 0
  have HB := Lib.hid hB
  have HQ := Lib.hid hq
  have hgw : g ≤ w.heap.size := by omega
  clear hB hq hW hg
  replace hmk : (Instr.makeSlice 22 (.int .i64 (1 + (q : Int))) (.int .i64 (1 + (q : Int) + 8))).run Tryd.prog w = .ok (.slice (some ⟨g, 0, none⟩) (1 + q) (1 + q + 8)) W := by simpa using hmk
  go_enter Tryd.func34, Tryd.ntmps34
  go_wp2
  obtain ⟨W1, hW1⟩ : ∃ W1, W.setCell ⟨g, 0, none⟩ (.int .u8 128) = W1 := ⟨_, rfl⟩
  have HO : Hid (Own W1 g 5 (.slice (some ⟨g, 0, none⟩) (1 + q) (1 + q + 8)) ((128 :: zeros q) ++ (be8 (8 * n)).take 0) ∧ Below g w W1) := by
    rw [← hW1]
    refine ⟨?_, HBW.out.setCell (Nat.le_refl _) _⟩
    have h1 : Blk (W.setCell ⟨g, 0, none⟩ (.int .u8 128)) g 5 ((zeros (1 + q + 8)).set 0 128) := HB.out.set 0 128
    have h2 := own_of_blk (k := 1 + q) h1 (c := 1 + q + 8) (by simp [zeros_length]) (by omega) (by omega)
    have h3 : ((zeros (1 + q + 8)).set 0 128).take (1 + q) = (128 :: zeros q) ++ (be8 (8 * n)).take 0 := by
      have hz : zeros (1 + q + 8) = 0 :: (zeros q ++ zeros 8) := by
        unfold zeros
        rw [List.replicate_append_replicate, show 1 + q + 8 = (q + 8) + 1 by omega, List.replicate_succ]
      rw [hz, show 1 + q = q + 1 by omega, List.set_cons_zero, List.take_succ_cons, List.take_left' (zeros_length q), List.take_zero, List.append_nil]
    rw [h3] at h2
    exact h2
  have hcnt : (8 * (n : Int)) = ((8 * n : Nat) : Int) := by omega
  simp only [hW1, e1, hcnt]
  obtain ⟨N, hN⟩ : ∃ N, 8 * n = N := ⟨_, rfl⟩
  rw [hN] at HO
  simp only [hN]
  have hN64 : N < 18446744073709551616 := by omega
  have HN := Lib.hid hN
  clear hN hcnt hW1 hcell hfz hmk
  go_loopw [4, 6] (fun v d wr => ∃ k : Nat, k ≤ 8 ∧ d = .int .i64 (56 - 8 * (k : Int)) ∧ Own wr g 5 v ((128 :: zeros q) ++ (be8 N).take k) ∧ Below g w wr) (fun _ d _ => (intOf d + 8).toNat)
  case atStart => exact ⟨0, Nat.zero_le _, rfl, HO.out.1, HO.out.2⟩
  case round =>
    obtain ⟨k, hk, rfl, hO, hB⟩ := hrel
    by_cases hlt : k < 8
    · obtain ⟨j, hj⟩ : ∃ j, k = 7 - j ∧ j < 8 := ⟨7 - k, by omega, by omega⟩
      have hd : 56 - 8 * (k : Int) = ((8 * j : Nat) : Int) := by omega
      rw [hd]
      have hv : Value.int .u8 ((N : Int) / 2 ^ (8 * j) % 256) = B (byteAt N j) := byteAt_val N j
      have hlen : ((128 :: zeros q) ++ (be8 N).take k).length + 1 ≤ 70368744177664 := by simp [zeros_length, be8_length]; omega
      have hsz : g ≤ wr.heap.size + 1 := by have := hB.size; omega
      have HV := Lib.hid hv
      have q1 : (8 * j : Nat) < 64 := by omega
      clear hv hlt
      go_wp2_with (at_builtin; go_loud (refine wpList_app _ rfl (.tmp 26) (.tmp 31) _ rfl g 5 Tryd.underlying22 u8_info u4 ((128 :: zeros q) ++ (be8 N).take k) rfl (hO.alloc _) _ 1 1 [byteAt N j] rfl (one_rd _ _ _ _ HV.out) hlen (by simpa using hsz) ?_); intro v1 w1 ho1 hb1)
      go_roundw
      case rel =>
        refine ⟨k + 1, by omega, ?_, ?_, ?_⟩
        · congr 1; omega
        · rw [take_snoc (be8 N) k (by rw [be8_length]; omega), be8_getD N k (by omega), show 7 - k = j by omega, ← List.append_assoc]
          exact ho1
        · exact (hB.alloc (by have := hB.size; omega) _).trans hb1
      case measure => simp [intOf]; omega
    · obtain rfl : k = 8 := by omega
      simp only [show 56 - 8 * ((8 : Nat) : Int) = -8 from rfl]
      have HO2 := Lib.hid hO
      clear hO
      go_wp2
      go_ret
      have e8 : (be8 N).take 8 = be8 N := List.take_of_length_le (by rw [be8_length]; exact Nat.le_refl _)
      refine ⟨_, rfl, ?_, hB⟩
      have := HO2.out
      rw [e8, ← HN.out, ← HQ.out] at this
      exact this
end Go.Proofs.YtmimffbjghhdhaaDoor
