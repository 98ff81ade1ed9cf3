import Derived.Test.YtdncklgeblggfaaT2
namespace Go.Proofs.Ytdncklgeblggfaa
open Go.RowKit Go.Bs

set_option maxHeartbeats 400000 in
theorem Both_any (A : Option Addr) (n c : Nat) (A' : Option Addr) (n' c' : Nat) (xs bs : List UInt8) (w : World) (h : Rd w A n c xs) (h' : Rd w A' n' c' bs) (hn : n ≤ 17592186044416) (hn' : n' ≤ 17592186044416) :
    Calls Try.prog 12 #[.slice A n c, .slice A' n' c'] w fun e w' => ∃ A'' c'', e = .returned (.slice A'' (n + n') c'') ∧ Rd w' A'' (n + n') c'' (xs ++ bs) ∧ Below w.heap.size w w' := by
  have HL := Lib.hid h.len
  have HL' := Lib.hid h'.len
  go_enter Try.func12, Try.ntmps12
  go_wp2_with (first
    | (at_builtin; refine wpList_app _ rfl (.tmp 6) (.tmp 7) _ rfl w.heap.size 5 Try.underlying22 u8_info (.slice none 0 0) [] rfl (Own.nil _ _ _) A n c xs rfl h (by simp; omega) (Nat.le_refl _) ?_; intro v1 w1 ho1 hb1)
    | (at_builtin; refine wpList_app _ rfl (.tmp 9) (.tmp 10) _ rfl w.heap.size 5 Try.underlying22 u8_info v1 ([] ++ xs) rfl ho1 A' n' c' bs rfl (h'.keep hb1) (by rw [List.nil_append, HL.out]; omega) hb1.size ?_; intro v2 w2 ho2 hb2))
  go_ret
  obtain ⟨A2, c2, rfl, hr⟩ := ho2.rd
  rw [List.nil_append, List.length_append, HL.out, HL'.out] at hr
  exact ⟨A2, c2, by rw [List.nil_append, List.length_append, HL.out, HL'.out]; rfl, hr, hb1.trans hb2⟩

set_option maxHeartbeats 400000 in
theorem Number_any (n : Nat) (w : World) (hn : n ≤ 4611686018427387904) :
    Calls Try.prog 13 #[.int .i64 n] w fun e w' => ∃ v, e = .returned v ∧ Own w' w.heap.size 5 v (numB n) ∧ Below w.heap.size w w' := by
  go_enter Try.func13, Try.ntmps13
  go_wp2
  go_loopw [0, 3, 4] (fun x v i wr => ∃ k : Nat, k ≤ 8 ∧ i = .int .i64 k ∧ x = .int .i64 ((n / 256 ^ k : Nat) : Int) ∧ Own wr w.heap.size 5 v ((numB n).take k) ∧ Below w.heap.size w wr) (fun _ _ i _ => 8 - (intOf i).toNat)
  case atStart => exact ⟨0, Nat.zero_le _, rfl, by simp, Own.nil _ _ _, Below.refl _ _⟩
  case round =>
    obtain ⟨k, hk, rfl, rfl, hO, hB⟩ := hrel
    obtain ⟨m, hm⟩ : ∃ m, n / 256 ^ k = m := ⟨_, rfl⟩
    have hmn : m ≤ 4611686018427387904 := by rw [← hm]; exact Nat.le_trans (Nat.div_le_self _ _) hn
    rw [hm]
    have HM := Lib.hid hm
    clear hm
    by_cases hlt : k < 8
    · have hv : Value.int .u8 ((m : Int) % 256) = B (byteAt n k) := by
        show _ = Value.int .u8 ((byteAt n k).toNat : Int)
        rw [byteAt_toNat, HM.out]; rfl
      have HV := Lib.hid hv
      clear hv
      have hlen : ((numB n).take k).length + 1 ≤ 70368744177664 := by simp [numB_length]; omega
      have hsz : w.heap.size ≤ wr.heap.size + 1 := by have := hB.size; omega
      go_wp2_with (at_builtin; refine wpList_app _ rfl (.tmp 9) (.tmp 13) _ rfl w.heap.size 5 Try.underlying22 u8_info u3 ((numB n).take k) rfl (hO.alloc _) _ 1 1 [byteAt n k] rfl (one_rd _ _ _ _ HV.out) hlen (by simpa using hsz) ?_; intro v1 w1 ho1 hb1)
      go_roundw
      case rel =>
        refine ⟨k + 1, by omega, by go_num, ?_, ?_, ?_⟩
        · rw [Nat.pow_succ, ← Nat.div_div_eq_div_mul, HM.out]; rfl
        · rw [take_snoc (numB n) k (by rw [numB_length]; exact hlt), numB_getD n k hlt]; exact ho1
        · exact (hB.alloc hB.size _).trans hb1
      case measure => simp [intOf]; omega
    · obtain rfl : k = 8 := by omega
      have HO := Lib.hid hO
      clear hO
      go_wp2
      go_ret
      have e8 : (numB n).take 8 = numB n := List.take_of_length_le (by rw [numB_length]; exact Nat.le_refl _)
      exact ⟨_, rfl, by have := HO.out; rwa [e8] at this, hB⟩

set_option maxHeartbeats 400000 in
theorem rText_any (s : ByteArray) (w : World) (hs : s.size ≤ 17592186044416) :
    Calls Try.prog 19 #[.string s] w fun e w' => ∃ v, e = .returned v ∧ Own w' w.heap.size 5 v (textB s.data.toList) ∧ Below w.heap.size w w' := by
  go_enter Try.func19, Try.ntmps19
  go_wp2_with fail
  refine (Number_any s.size _ (by omega)).mono ?_
  rintro e w1 ⟨v1, rfl, ho1, hb1⟩
  obtain ⟨c2, w2, hrun, hr2, hb2⟩ := run_bytes_str (P := Try.prog) w1 9 22 5 Try.underlying9 Try.underlying22 Try.underlying5 s
  have ho2 := ho1.keep hb2
  have hsz2 : w.heap.size ≤ w2.heap.size := Nat.le_trans hb1.size hb2.size
  have HB2 := Lib.hid (hb1.trans (hb2.mono hb1.size))
  have HLs : Hid (s.data.toList.length = s.size) := by show _ = _; simp
  clear ho1 hb1 hb2
  have hl8 := numB_length s.size
  go_wp2_with (at_builtin; refine wpList_app _ rfl (.tmp 7) (.tmp 9) _ rfl w.heap.size 5 Try.underlying22 u8_info v1 (numB s.size) rfl ho2 _ s.size c2 s.data.toList rfl hr2 (by rw [numB_length]; omega) hsz2 ?_; intro v3 w3 ho3 hb3)
  have HB3 := Lib.hid (HB2.out.trans hb3)
  clear hr2 ho2 hb3 hl8
  obtain ⟨q, hq⟩ : ∃ q, gapN s.size = q := ⟨_, rfl⟩
  have hq8 := gapN_lt s.size
  have hqm := gapN_mod s.size
  rw [hq] at hq8 hqm
  have HQ := Lib.hid hq
  clear hq
  go_loopw [3] (fun v wr => ∃ j : Nat, j ≤ q ∧ Own wr w.heap.size 5 v (textTo s.data.toList j) ∧ Below w.heap.size w wr) (fun v _ => 16 + s.size - sliceLen v)
  case atStart => exact ⟨0, Nat.zero_le _, by simpa [textTo, zeros, HLs.out] using ho3, HB3.out⟩
  case round =>
    obtain ⟨j, hj, hO, hB⟩ := hrel
    obtain ⟨A, c, rfl, hr⟩ := hO.rd
    have hlen := textTo_length s.data.toList j
    rw [HLs.out] at hlen
    obtain ⟨L, hL⟩ : ∃ L, (textTo s.data.toList j).length = L := ⟨_, rfl⟩
    rw [hL] at hlen hr hO ⊢
    have HL := Lib.hid hL
    have hL1 : L ≤ 8 + s.size + j := by omega
    have hL2 : 8 + s.size + j ≤ L := by omega
    have hsz : w.heap.size ≤ wr.heap.size + 1 := by have := hB.size; omega
    clear hr hL hlen
    by_cases hlt : j < q
    · have hne : ((L : Int) % 8 != 0) = true := by rw [bne_iff_ne]; omega
      go_wp2_with (at_builtin; refine wpList_app _ rfl (.tmp 15) (.tmp 16) _ rfl w.heap.size 5 Try.underlying22 u8_info (.slice A L c) (textTo s.data.toList j) rfl (hO.alloc _) _ 1 1 [0] rfl (one_rd _ _ _ _ rfl) (by rw [HL.out]; omega) (by simpa using hsz) ?_; intro v4 w4 ho4 hb4)
      go_roundw
      case rel => exact ⟨j + 1, by omega, by rw [← textTo_snoc]; exact ho4, (hB.alloc hB.size _).trans hb4⟩
      case measure =>
        obtain ⟨A', c', rfl, _⟩ := ho4.rd
        rw [List.length_append, HL.out]
        simp [sliceLen]; omega
    · obtain rfl : j = q := by omega
      have hne : ((L : Int) % 8 != 0) = false := by simp; omega
      have HO := Lib.hid hO
      clear hO
      go_wp2
      go_ret
      refine ⟨_, rfl, ?_, hB⟩
      have := HO.out
      rw [← HQ.out, ← HLs.out, textTo_all] at this
      exact this
end Go.Proofs.Ytdncklgeblggfaa
