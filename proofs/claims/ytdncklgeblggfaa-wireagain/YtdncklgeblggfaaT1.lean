import Derived.Test.YtdncklgeblggfaaRows
import Derived.Test.YtdncklgeblggfaaBase
namespace Go.Proofs.Ytdncklgeblggfaa
open Go.RowKit Go.Bs

set_option maxHeartbeats 400000 in
theorem gap_any (n : Nat) (w : World) (hn : n ≤ 4611686018427387904) :
    Calls Try.prog 23 #[.int .i64 n] w fun e w' => e = .returned (.int .i64 (gapN n)) ∧ w = w' := by
  by_cases h : n % 8 = 0
  · go_enter Try.func23, Try.ntmps23
    go_wp2
    go_ret
    exact ⟨by simp [gapN, h], rfl⟩
  · go_enter Try.func23, Try.ntmps23
    go_wp2
    go_ret
    exact ⟨by simp [gapN]; omega, rfl⟩

set_option maxHeartbeats 400000 in
theorem small_any (A : Option Addr) (n c : Nat) (w : World) :
    Calls Try.prog 9 #[.slice A n c] w fun e w' => e = .returned (.bool (decide (n ≤ 3000))) ∧ w = w' := by
  go_enter Try.func9, Try.ntmps9
  go_wp2
  go_ret
  exact ⟨by simp; omega, rfl⟩

set_option maxHeartbeats 400000 in
theorem allNought_any (A : Option Addr) (n c : Nat) (bs : List UInt8) (w : World) (h : Rd w A n c bs) (hn : n ≤ 4611686018427387904) :
    Calls Try.prog 24 #[.slice A n c] w fun e w' => e = .returned (.bool (bs.all (· == 0))) ∧ w = w' := by
  go_enter Try.func24, Try.ntmps24
  go_wp2
  go_loop [7] (fun i => ∃ k : Nat, k ≤ n ∧ i = .int .i64 k ∧ ∀ j, j < k → bs.getD j 0 = 0) (fun i => n - (intOf i).toNat)
  case atStart => exact ⟨0, Nat.zero_le _, rfl, fun j hj => absurd hj (by omega)⟩
  case round =>
    obtain ⟨k, hk, rfl, hz⟩ := hrel
    have HZ := Lib.hid hz
    clear hz
    by_cases hlt : k < n
    · obtain ⟨g, o, rfl, hg, hc⟩ := h.cells (by omega)
      obtain ⟨x, hx⟩ : ∃ x, bs.getD k 0 = x := ⟨_, rfl⟩
      have hcell := hc k hlt
      rw [hx] at hcell
      have HX := Lib.hid hx
      clear hc hx
      by_cases h0 : x = 0
      · subst h0
        go_wp2
        go_round
        case rel =>
          refine ⟨k + 1, by omega, by go_num, fun j hj => ?_⟩
          by_cases hjk : j < k
          · exact HZ.out j hjk
          · obtain rfl : j = k := by omega
            exact HX.out
        case measure => simp [intOf]; omega
      · have hne : ((x.toNat : Int) != 0) = true := by
          have : x.toNat ≠ 0 := fun e => h0 (UInt8.toNat_inj.1 (by simpa using e))
          simpa using this
        go_wp2
        go_ret
        refine ⟨?_, rfl⟩
        have hl := h.len
        have : bs.all (· == 0) = false := by
          rw [List.all_eq_false]
          refine ⟨bs.getD k 0, ?_, ?_⟩
          · rw [getD_get _ _ (by omega)]; exact List.getElem_mem _
          · rw [HX.out]; simpa using h0
        rw [this]; rfl
    · go_wp2
      go_ret
      refine ⟨?_, rfl⟩
      have hl := h.len
      have : bs.all (· == 0) = true := by
        rw [List.all_eq_true]
        intro x hx
        obtain ⟨j, hj, rfl⟩ := List.getElem_of_mem hx
        have := HZ.out j (by omega)
        rw [getD_get _ _ hj] at this
        simp [this]
      rw [this]; rfl

set_option maxHeartbeats 400000 in
theorem number_any (A : Option Addr) (c : Nat) (bs : List UInt8) (w : World) (h : Rd w A 8 c bs) :
    Calls Try.prog 22 #[.slice A 8 c] w fun e w' => e = .returned (.int .u64 (leN bs)) ∧ w = w' := by
  obtain ⟨g, o, rfl, hg, hc⟩ := h.cells (by omega)
  have HC := Lib.hid hc
  have HL := Lib.hid h.len
  clear hc h
  go_enter Try.func22, Try.ntmps22
  go_wp2
  go_loop [3, 5] (fun n i => ∃ k : Nat, k ≤ 8 ∧ i = .int .i64 k ∧ n = .int .u64 (leN (bs.take k))) (fun _ i => 8 - (intOf i).toNat)
  case atStart => exact ⟨0, Nat.zero_le _, rfl, rfl⟩
  case round =>
    obtain ⟨k, hk, rfl, rfl⟩ := hrel
    by_cases hlt : k < 8
    · obtain ⟨x, hx⟩ : ∃ x, bs.getD k 0 = x := ⟨_, rfl⟩
      have hcell := HC.out k hlt
      rw [hx] at hcell
      have hs := leN_take_succ bs k (by have := HL.out; omega)
      have hlt' := leN_take_lt bs k
      obtain ⟨m, hm⟩ : ∃ m, leN (bs.take k) = m := ⟨_, rfl⟩
      rw [hm] at hs hlt' ⊢
      rw [hx] at hs
      have HS := Lib.hid hs
      have HB := Lib.hid (or_step m k x hlt hlt')
      clear hx hm hs hlt'
      go_wp2
      go_round
      case rel => exact ⟨k + 1, by omega, by go_num, by rw [HB.out, HS.out]⟩
      case measure => simp [intOf]; omega
    · go_wp2
      go_ret
      have : bs.take k = bs := List.take_of_length_le (by have := HL.out; omega)
      exact ⟨by rw [this]; rfl, rfl⟩

set_option maxHeartbeats 400000 in
theorem setNumber_any (g o m c n : Nat) (bs : List UInt8) (w : World) (h : Blk w g 5 bs) (ho : o + 8 ≤ bs.length) (hm : 8 ≤ m) (hm2 : m ≤ 4611686018427387904) (hn : n ≤ 4611686018427387904) :
    Calls Try.prog 21 #[.slice (some ⟨g, o, none⟩) m c, .int .i64 n] w fun e w' => e = .returned (.tuple #[]) ∧ Blk w' g 5 (bs.take o ++ (numB n ++ bs.drop (o + 8))) ∧ w.grownBy w' (some g) := by
  go_enter Try.func21, Try.ntmps21
  go_wp2
  go_loopw [5] (fun i wr => ∃ k : Nat, k ≤ 8 ∧ i = .int .i64 k ∧ Blk wr g 5 (bs.take o ++ ((numB n).take k ++ bs.drop (o + k))) ∧ w.grownBy wr (some g)) (fun i _ => 8 - (intOf i).toNat)
  case atStart => exact ⟨0, Nat.zero_le _, rfl, by simpa using h, World.grownBy.refl _ _⟩
  case round =>
    obtain ⟨k, hk, rfl, hB, hG⟩ := hrel
    by_cases hlt : k < 8
    · have hcell := hB.cell (o + k) (by simp [numB_length]; omega)
      have hfz := hB.frozen (o + k)
      obtain ⟨x, hx⟩ : ∃ x, (bs.take o ++ ((numB n).take k ++ bs.drop (o + k))).getD (o + k) 0 = x := ⟨_, rfl⟩
      rw [hx] at hcell
      have HB := Lib.hid hB
      have HG := Lib.hid hG
      clear hB hG hx
      go_wp2
      go_roundw
      case rel =>
        refine ⟨k + 1, by omega, by go_num, ?_, ?_⟩
        · rw [byteAt_val, ← set_step bs n o k ho hlt]
          exact HB.out.set _ _
        · exact grown_set HG.out _ _
      case measure => simp [intOf]; omega
    · obtain rfl : k = 8 := by omega
      have HB := Lib.hid hB
      have HG := Lib.hid hG
      clear hB hG
      go_wp2
      go_end0
      refine ⟨rfl, ?_, HG.out⟩
      have := HB.out
      have e8 : (numB n).take 8 = numB n := List.take_of_length_le (by rw [numB_length]; exact Nat.le_refl _)
      rwa [e8] at this

theorem u8_info : (Try.prog.info? 5).map (fun i => (i.zero, i.size, i.bytes)) = some (some (.int .u8 0), 1, 1) := by kernel_rfl
theorem u8_size : (Try.prog.info? 5).map (·.size) = some 1 := by kernel_rfl

theorem make_zeros (n : Nat) (hn : n ≤ 281474976710656) (w : World) :
    (Instr.makeSlice 22 (.int .i64 (n : Int)) (.int .i64 (n : Int))).run Try.prog w = .ok (.slice (some ⟨w.heap.size, 0, none⟩) n n) (w.alloc (rowObj 5 (zeros n))) := by
  rw [run_make_row' (P := Try.prog) 22 5 (.int .u8 0) 1 Try.underlying22 u8_info rfl .i64 .i64 n (by omega) (by omega) w, madeCells_zeros]
  rfl

set_option maxHeartbeats 400000 in
theorem withRoom_any (A : Option Addr) (n c m : Nat) (bs : List UInt8) (w : World) (h : Rd w A n c bs) (hn : n ≤ 70368744177664) (hm : m ≤ 70368744177664) :
    Calls Try.prog 20 #[.slice A n c, .int .i64 m] w fun e w' => e = .returned (.slice (some ⟨w.heap.size, 0, none⟩) (n + m) (n + m)) ∧ w.alloc (rowObj 5 (bs ++ zeros m)) = w' := by
  have hmk := make_zeros (n + m) (by omega) w
  rw [show (((n + m : Nat) : Int)) = (n : Int) + (m : Int) by omega] at hmk
  have hcp : ∀ ty, (Builtin.copy_ #[22, 22] ty #[.slice (some ⟨w.heap.size, 0, none⟩) (n + m) (n + m), .slice A n c]).run Try.prog (w.alloc (rowObj 5 (zeros (n + m)))) = .ok (goInt n) (w.alloc (rowObj 5 (bs ++ zeros m))) := by
    intro ty
    have := run_copy_rd (P := Try.prog) (w.alloc (rowObj 5 (zeros (n + m)))) 22 22 ty 5 Try.underlying22 u8_size w.heap.size 0 (n + m) (n + m) 5 (zeros (n + m)) (Blk.new _ _ _) A n c bs
      (h.keep ((Below.refl _ _).alloc (Nat.le_refl _) _)) (by omega) (by rw [zeros_length]; omega)
    rw [this, setRow_new]
    congr 3
    simp [zeros]
  go_enter Try.func20, Try.ntmps20
  go_wp2
  go_ret
  exact ⟨rfl, rfl⟩

set_option maxHeartbeats 400000 in
theorem Put_yes (A : Option Addr) (n c x : Nat) (bs : List UInt8) (w : World) (h : Rd w A n c bs) (hn : n ≤ 70368744177664) (hx : x ≤ 2147483647) :
    Calls Try.prog 10 #[.slice A n c, .int .i64 x] w fun e w' => e = .returned (.tuple #[.slice (some ⟨w.heap.size, 0, none⟩) (n + 8) (n + 8), .int .i64 0]) ∧ Blk w' w.heap.size 5 (bs ++ numB x) ∧ Below w.heap.size w w' := by
  have HL := Lib.hid h.len
  go_enter Try.func10, Try.ntmps10
  go_wp2_with fail
  refine (withRoom_any A n c 8 bs w h hn (by omega)).mono ?_
  rintro e w' ⟨rfl, rfl⟩
  go_wp2_with fail
  refine (setNumber_any w.heap.size n 8 8 x (bs ++ zeros 8) _ (Blk.new _ _ _) (by rw [List.length_append, HL.out, zeros_length]; omega) (by omega) (by omega) (by omega)).mono ?_
  rintro e w' ⟨rfl, hB, hG⟩
  have HB := Lib.hid hB
  have HG := Lib.hid hG
  clear hB hG
  go_wp2
  go_ret2
  refine ⟨rfl, ?_, below_new HG.out⟩
  have := HB.out
  have hl := HL.out
  have e1 : (bs ++ zeros 8).take n = bs := by rw [← hl]; simp
  have e2 : (bs ++ zeros 8).drop (n + 8) = [] := List.drop_eq_nil_of_le (by rw [List.length_append, zeros_length]; omega)
  rw [e1, e2, List.append_nil] at this
  exact this

set_option maxHeartbeats 400000 in
theorem Put_no (A : Option Addr) (n c : Nat) (x : Int) (w : World) (hx : x < 0 ∨ 2147483647 < x) :
    Calls Try.prog 10 #[.slice A n c, .int .i64 x] w fun e w' => e = .returned (.tuple #[.slice none 0 0, .int .i64 1]) ∧ w = w' := by
  rcases hx with hx | hx
  · go_enter Try.func10, Try.ntmps10
    go_wp2
    go_ret2
    exact ⟨rfl, rfl⟩
  · have h0 : 0 ≤ x := by omega
    go_enter Try.func10, Try.ntmps10
    go_wp2
    go_ret2
    exact ⟨rfl, rfl⟩

set_option maxHeartbeats 400000 in
theorem PutText_any (A : Option Addr) (n c : Nat) (s : ByteArray) (bs : List UInt8) (w : World) (h : Rd w A n c bs) (hn : n ≤ 17592186044416) (hs : s.size ≤ 17592186044416) :
    Calls Try.prog 18 #[.slice A n c, .string s] w fun e w' => e = .returned (.slice (some ⟨w.heap.size, 0, none⟩) (n + (8 + s.size + gapN s.size)) (n + (8 + s.size + gapN s.size))) ∧ Blk w' w.heap.size 5 (bs ++ textB s.data.toList) ∧ Below w.heap.size w w' := by
  have HL := Lib.hid h.len
  have hg := gapN_lt s.size
  obtain ⟨q, hq⟩ : ∃ q, gapN s.size = q := ⟨_, rfl⟩
  have HQ := Lib.hid hq
  rw [hq] at hg
  go_enter Try.func18, Try.ntmps18
  go_wp2_with fail
  refine (gap_any s.size _ (by omega)).mono ?_
  rintro e w' ⟨rfl, rfl⟩
  rw [hq]
  clear hq
  go_wp2_with fail
  rw [show (8 + (s.size : Int) + (q : Int)) = ((8 + s.size + q : Nat) : Int) by omega]
  refine (withRoom_any A n c _ bs w h (by omega) (by omega)).mono ?_
  rintro e w' ⟨rfl, rfl⟩
  go_wp2_with fail
  refine (setNumber_any w.heap.size n _ _ s.size (bs ++ zeros (8 + s.size + q)) _ (Blk.new _ _ _) (by rw [List.length_append, HL.out, zeros_length]; omega) (by omega) (by omega) (by omega)).mono ?_
  rintro e w' ⟨rfl, hB, hG⟩
  have e1 : (bs ++ zeros (8 + s.size + q)).take n = bs := by rw [← HL.out]; simp
  have e2 : (bs ++ zeros (8 + s.size + q)).drop (n + 8) = zeros (s.size + q) := by
    rw [Nat.add_assoc 8]; exact drop_room bs n 8 (s.size + q) HL.out
  rw [e1, e2] at hB
  have HBW := Lib.hid (below_new hG)
  clear e1 e2 hG
  by_cases h0 : s.size = 0
  · obtain rfl : s = ByteArray.empty := by
      apply ByteArray.ext; apply Array.eq_empty_of_size_eq_zero; exact h0
    have HB := Lib.hid hB
    obtain rfl : q = 0 := by rw [← HQ.out]; decide
    have hcp : ∀ (d : Option Addr) (dl dc ty : Nat), (Builtin.copy_ #[22, 9] ty #[.slice d dl dc, .string ByteArray.empty]).run Try.prog w' = .ok (goInt 0) w' :=
      fun d dl dc ty => Lib.run_copy_empty_string w' 22 9 ty 5 d dl dc _ Try.underlying22 (by rw [u8_size]; rfl) rfl
    clear hB h0
    go_wp2
    go_ret
    refine ⟨rfl, ?_, HBW.out⟩
    have := HB.out
    simpa [textB, zeros, show gapN 0 = 0 from rfl] using this
  · have hcp : ∀ (ty : Nat), (Builtin.copy_ #[22, 9] ty #[.slice (some ⟨w.heap.size, n + 8, none⟩) (n + (8 + s.size + q) - (n + 8)) (n + (8 + s.size + q) - (n + 8)), .string s]).run Try.prog w' = _ :=
      fun ty => run_copy_str (P := Try.prog) w' 22 9 ty 5 Try.underlying22 u8_size w.heap.size (n + 8) _ _ 5 _ hB s (by omega) (by simp [HL.out, numB_length, zeros_length]; omega)
    obtain ⟨cs, hcs⟩ : ∃ cs, List.take (n + 8) (bs ++ (numB s.size ++ zeros (s.size + q))) ++ (s.data.toList ++ List.drop (n + 8 + s.size) (bs ++ (numB s.size ++ zeros (s.size + q)))) = cs := ⟨_, rfl⟩
    rw [hcs] at hcp
    have HB := Lib.hid (hB.setRow cs)
    have HG := Lib.hid (below_setRow HBW.out (Nat.le_refl _) (cs.map B).toArray)
    have HC := Lib.hid hcs
    clear hB hcs
    go_wp2
    go_ret
    refine ⟨by rw [HQ.out]; rfl, ?_, HG.out⟩
    have e := text_splice bs s.data.toList n s.size q HL.out (by simp) HQ.out
    rw [HC.out] at e
    rw [← e]
    exact HB.out
end Go.Proofs.Ytdncklgeblggfaa
