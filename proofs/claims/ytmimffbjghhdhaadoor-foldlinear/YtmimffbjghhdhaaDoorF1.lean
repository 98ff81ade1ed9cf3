/- Fold and folded of the program. Conditions: none. -/
import Derived.Test.YtmimffbjghhdhaaDoorS2
import Derived.Test.YtmimffbjghhdhaaDoorT3
import Derived.Test.YtmimffbjghhdhaaDoorCrc
import Derived.Test.YtmimffbjghhdhaaDoorFoldW
import Derived.Deep.QuietTactic
import Derived.BigQuiet
import Derived.StillTailTactics
import Derived.WalkMore
import Derived.ScopeJumps
namespace Go.Proofs.YtmimffbjghhdhaaDoor
open Go.RowKit Go.Bs Go.FoldW

def foldK (bs : List UInt8) (size i : Nat) : List UInt8 := (List.range size).map fun k => col bs size k i
theorem foldK_length (bs : List UInt8) (size i : Nat) : (foldK bs size i).length = size := by simp [foldK]
theorem foldK_getD (bs : List UInt8) (size i k : Nat) (h : k < size) : (foldK bs size i).getD k 0 = col bs size k i := by simp [foldK, List.getD, h]
theorem foldK_zero (bs : List UInt8) (size : Nat) : foldK bs size 0 = zeros size := by
  refine set_ext _ _ (by rw [foldK_length, zeros_length]) fun i hi => ?_
  rw [foldK_length] at hi
  rw [foldK_getD _ _ _ _ hi]
  simp [col, zeros, List.getD, hi]
theorem foldK_end (bs : List UInt8) (size : Nat) : foldK bs size bs.length = foldL bs size := rfl
theorem foldK_step (bs : List UInt8) (size i : Nat) (hs : 0 < size) : foldK bs size (i + 1) = (foldK bs size i).set (i % size) ((foldK bs size i).getD (i % size) 0 ^^^ bs.getD i 0) := by
  have hlt : i % size < size := Nat.mod_lt _ hs
  refine set_ext _ _ (by simp [foldK_length]) fun j hj => ?_
  rw [foldK_length] at hj
  rw [getD_set _ _ _ _ (by rw [foldK_length]; exact hj), foldK_getD _ _ _ _ hj, foldK_getD _ _ _ _ hlt, foldK_getD _ _ _ _ hj, col]
  by_cases h : i % size = j
  · subst h; simp
  · simp [h]
theorem xor_val (x y : UInt8) : Value.int .u8 (bits .xor .u8 (x.toNat : Int) (y.toNat : Int)) = B (x ^^^ y) := by
  rw [u8_xor_nat _ _ x.toNat_lt y.toNat_lt]
  show _ = Value.int .u8 ((x ^^^ y).toNat : Int)
  rw [UInt8.toNat_xor]

set_option maxHeartbeats 1000000 in
theorem folded_any (A : Option Addr) (n c size : Nat) (bs : List UInt8) (w : World) (h : Rd w A n c bs) (hn : n ≤ 17592186044416) (hs0 : 1 ≤ size) (hs : size ≤ 64) :
    Calls Tryd.prog 19 #[.slice A n c, .int .i64 (size : Int)] w fun e w' => e = .returned (.slice (some ⟨w.heap.size, 0, none⟩) size size) ∧ Blk w' w.heap.size 5 (foldL bs size) ∧ Below w.heap.size w w' := by
  have HR := Lib.hid h
  have HLEN := Lib.hid h.len
  have hmk := B2x.make_zeros size (by omega) w
  obtain ⟨W, hW⟩ : ∃ W, w.alloc (rowObj 5 (zeros size)) = W := ⟨_, rfl⟩
  have HBW : Hid (Blk W w.heap.size 5 (foldK bs size 0) ∧ Below w.heap.size w W) := by
    rw [← hW, foldK_zero]
    exact ⟨Blk.new w 5 (zeros size), (Below.refl _ _).alloc (Nat.le_refl _) _⟩
  rw [hW] at hmk
  obtain ⟨g, hg⟩ : ∃ g, w.heap.size = g := ⟨_, rfl⟩
  rw [hg] at hmk HBW ⊢
  have HG := Lib.hid hg
  clear hW hg h
  go_enter Tryd.func19, Tryd.ntmps19
  go_wp2
  go_loopw [12] (fun i wr => ∃ k : Nat, k ≤ n ∧ i = .int .i64 k ∧ Blk wr g 5 (foldK bs size k) ∧ Below g w wr) (fun i _ => n - (intOf i).toNat)
  case atStart => exact ⟨0, Nat.zero_le _, rfl, HBW.out.1, HBW.out.2⟩
  case round =>
    obtain ⟨k, hk, rfl, hB, hG⟩ := hrel
    by_cases hlt : k < n
    · have hRd := HR.out.keep (w' := wr) (by rw [HG.out]; exact hG)
      obtain ⟨ga, oa, rfl, hga, hca⟩ := hRd.cells (by omega)
      have hc1 := hca k hlt
      obtain ⟨x, hx⟩ : ∃ x, bs.getD k 0 = x := ⟨_, rfl⟩
      rw [hx] at hc1
      obtain ⟨p, hp⟩ : ∃ p, k % size = p := ⟨_, rfl⟩
      have hps : p < size := by rw [← hp]; exact Nat.mod_lt _ (by omega)
      have hcell := hB.cell p (by rw [foldK_length]; exact hps)
      have hfz := hB.frozen p
      obtain ⟨y, hy⟩ : ∃ y, (foldK bs size k).getD p 0 = y := ⟨_, rfl⟩
      rw [hy] at hcell
      have hmod : Int.tmod (k : Int) (size : Int) = (p : Int) := by rw [← hp]; rfl
      have hST : Hid (foldK bs size (k + 1) = (foldK bs size k).set p (y ^^^ x)) := by
        show _ = _
        rw [foldK_step bs size k hs0, hp, hy, hx]
      have HB := Lib.hid hB
      have HGG := Lib.hid hG
      clear hB hG hx hy hp hRd hca
      go_wp2
      go_roundw
      case rel =>
        rw [xor_val y x]
        exact ⟨k + 1, by omega, by go_num, by rw [hST.out]; exact HB.out.set _ _, HGG.out.setCell (Nat.le_refl _) _⟩
      case measure => simp [intOf]; omega
    · obtain rfl : k = n := by omega
      have HB := Lib.hid hB
      have HGG := Lib.hid hG
      clear hB hG
      go_wp2
      go_ret
      have := HB.out
      refine ⟨rfl, ?_, HGG.out⟩
      rw [← foldK_end, HLEN.out]
      exact this

set_option maxHeartbeats 1000000 in
theorem Fold_yes (A : Option Addr) (n c size : Nat) (bs : List UInt8) (w : World) (h : Rd w A n c bs) (hn : n ≤ 17592186044416) (hs0 : 1 ≤ size) (hs : size ≤ 64) :
    Calls Tryd.prog 8 #[.slice A n c, .int .i64 (size : Int)] w fun e w' => e = .returned (.tuple #[.slice (some ⟨w.heap.size, 0, none⟩) size size, .int .i64 0]) ∧ Blk w' w.heap.size 5 (foldL bs size) ∧ Below w.heap.size w w' := by
  have HF := Lib.hid (folded_any A n c size bs w h hn hs0 hs)
  have h1 : ((size : Int) < 1) = False := by simp; omega
  have h2 : ((64 : Int) < size) = False := by simp; omega
  clear h
  go_enter Tryd.func8, Tryd.ntmps8
  go_wp2_with fail
  refine HF.out.mono ?_
  rintro e w' ⟨rfl, hB, hG⟩
  have HB := Lib.hid hB
  have HGG := Lib.hid hG
  clear hB hG
  go_wp2
  go_ret2
  exact ⟨rfl, HB.out, HGG.out⟩
set_option maxHeartbeats 1000000 in
theorem Fold_no (A : Option Addr) (n c : Nat) (size : Int) (w : World) (hs : size < 1 ∨ 64 < size) :
    Calls Tryd.prog 8 #[.slice A n c, .int .i64 size] w fun e w' => e = .returned (.tuple #[.slice none 0 0, .int .i64 1]) ∧ w = w' := by
  by_cases h1 : size < 1
  · go_enter Tryd.func8, Tryd.ntmps8
    go_wp2
    go_ret2
    exact ⟨rfl, rfl⟩
  · have h2 : 64 < size := by omega
    go_enter Tryd.func8, Tryd.ntmps8
    go_wp2
    go_ret2
    exact ⟨rfl, rfl⟩
theorem and1 (s : Nat) (hs : s < 4294967296) : bits .and .u32 (s : Int) 1 = ((s % 2 : Nat) : Int) := by
  have := u32_and_nat s 1 hs (by omega)
  rw [Nat.and_one_is_mod] at this
  exact this
theorem xorp (s : Nat) (hs : s < 4294967296) : bits .xor .u32 ((s : Int) / 2) 3988292384 = (((s / 2) ^^^ Crc.poly : Nat) : Int) := u32_xor_nat (s / 2) 3988292384 (by omega) (by omega)
def TJ (w : World) (s : Nat) (a' : Act) (w' : World) : Prop :=
  w = w' ∧ ∃ (j m : Nat) (u4 u5 u6 u7 u8 u9 u10 u11 u12 u13 u14 u15 u16 : Value), a' = { tmps := #[.int .u32 (Crc.steps j s : Nat), undef, .int .u32 0, .int .i64 m, u4, u5, u6, u7, u8, u9, u10, u11, u12, u13, u14, u15, u16, undef], defers := [] } ∧ j + m = 8 ∧ 1 ≤ m
def Tμ (a' : Act) (_ : World) : Nat := (intOf (a'.tmps.getD 3 undef)).toNat
theorem half (t : Nat) (h : t % 2 = 0) : ((t : Int) / 2) = (Crc.step t : Nat) := by unfold Crc.step; rw [if_neg (by omega)]; rfl
theorem halfp (t : Nat) (h : t % 2 = 1) : (((t / 2) ^^^ Crc.poly : Nat) : Int) = (Crc.step t : Nat) := by unfold Crc.step; rw [if_pos h]
set_option maxRecDepth 100000 in
set_option maxHeartbeats 1000000 in
theorem turn_any (s : Nat) (w : World) (hs : s < 4294967296) :
    Calls Tryd.prog 29 #[.int .u32 (s : Int)] w fun e w' => e = .returned (.int .u32 (Crc.steps 8 s : Nat)) ∧ w = w' := by
  go_enter Tryd.func29, Tryd.ntmps29
  go_wp2
  refine wp_scope_jumps 0 (TJ w s) Tμ rfl ?_ ?_
  · have ha := and1 s hs
    have HX := Lib.hid (xorp s hs)
    have HS : Hid (Crc.steps 1 s = Crc.step s) := rfl
    rcases Nat.mod_two_eq_zero_or_one s with h2 | h2
    · rw [h2] at ha
      have HH := Lib.hid h2
      clear h2
      go_wp2
      go_step3
      go_wp2
      go_step3
      rw [half s HH.out, ← HS.out]
      exact ⟨rfl, rfl, 1, 7, _, _, _, _, _, _, _, _, _, _, _, _, _, rfl, by omega, by omega⟩
    · rw [h2] at ha
      have HH := Lib.hid h2
      clear h2
      go_wp2
      go_step3
      go_wp2
      go_step3
      rw [HX.out, halfp s HH.out, ← HS.out]
      exact ⟨rfl, rfl, 1, 7, _, _, _, _, _, _, _, _, _, _, _, _, _, rfl, by omega, by omega⟩
  · rintro a' w' ⟨rfl, j, m, u4, u5, u6, u7, u8, u9, u10, u11, u12, u13, u14, u15, u16, rfl, hj, hm⟩
    obtain ⟨t, ht⟩ : ∃ t, Crc.steps j s = t := ⟨_, rfl⟩
    have htl : t < 4294967296 := by rw [← ht]; exact Crc.steps_lt hs j
    have ha := and1 t htl
    have HX := Lib.hid (xorp t htl)
    have HS : Hid (Crc.steps (j + 1) s = Crc.step t) := by show Crc.step (Crc.steps j s) = _; rw [ht]
    rw [ht]
    clear ht
    rcases Nat.mod_two_eq_zero_or_one t with h2 | h2
    · rw [h2] at ha
      have HH := Lib.hid h2
      clear h2
      by_cases h1 : m = 1
      · subst h1
        obtain rfl : j = 7 := by omega
        go_wp2
        simp only [Exit.jump]
        go_ret
        rw [half t HH.out, ← HS.out]
        exact ⟨rfl, rfl⟩
      · have hm2 : (1 : Int) < m := by omega
        go_wp2
        go_step3
        rw [half t HH.out, ← HS.out, show (m : Int) - 1 = ((m - 1 : Nat) : Int) by omega]
        exact ⟨rfl, ⟨rfl, j + 1, m - 1, _, _, _, _, _, _, _, _, _, _, _, _, _, rfl, by omega, by omega⟩, by simp [Tμ, intOf]; omega⟩
    · rw [h2] at ha
      have HH := Lib.hid h2
      clear h2
      by_cases h1 : m = 1
      · subst h1
        obtain rfl : j = 7 := by omega
        go_wp2
        simp only [Exit.jump]
        go_ret
        rw [HX.out, halfp t HH.out, ← HS.out]
        exact ⟨rfl, rfl⟩
      · have hm2 : (1 : Int) < m := by omega
        go_wp2
        go_step3
        rw [HX.out, halfp t HH.out, ← HS.out, show (m : Int) - 1 = ((m - 1 : Nat) : Int) by omega]
        exact ⟨rfl, ⟨rfl, j + 1, m - 1, _, _, _, _, _, _, _, _, _, _, _, _, _, rfl, by omega, by omega⟩, by simp [Tμ, intOf]; omega⟩

theorem run_snoc (bs : List UInt8) (k s : Nat) (h : k < bs.length) : Crc.run s (bs.take (k + 1)) = Crc.byte (Crc.run s (bs.take k)) (bs.getD k 0) := by
  rw [take_snoc bs k h, Crc.run_app, Crc.run_one]
set_option maxHeartbeats 1000000 in
theorem Crc_any (A : Option Addr) (n c : Nat) (bs : List UInt8) (w : World) (h : Rd w A n c bs) (hn : n ≤ 17592186044416) :
    Calls Tryd.prog 15 #[.slice A n c] w fun e w' => e = .returned (.int .i64 (Crc.crc bs : Nat)) ∧ w = w' := by
  have HR := Lib.hid h
  have HLEN := Lib.hid h.len
  clear h
  go_enter Tryd.func15, Tryd.ntmps15
  go_wp2
  go_loop [8, 3] (fun i v => ∃ k : Nat, k ≤ n ∧ i = .int .i64 k ∧ v = .int .u32 (Crc.run 4294967295 (bs.take k) : Nat)) (fun i _ => n - (intOf i).toNat)
  case atStart => exact ⟨0, Nat.zero_le _, rfl, by simp [Crc.run]⟩
  case round =>
    obtain ⟨k, hk, rfl, rfl⟩ := hrel
    obtain ⟨s, hs⟩ : ∃ s, Crc.run 4294967295 (bs.take k) = s := ⟨_, rfl⟩
    have hsl : s < 4294967296 := by rw [← hs]; exact Crc.run_lt _ (by omega)
    have HS := Lib.hid hs
    rw [hs]
    clear hs
    by_cases hlt : k < n
    · obtain ⟨ga, oa, rfl, hga, hca⟩ := HR.out.cells (by omega)
      have hc1 := hca k hlt
      have HN : Hid (Crc.run 4294967295 (bs.take (k + 1)) = Crc.byte s (bs.getD k 0)) := by
        show _ = _
        rw [run_snoc bs k _ (by rw [HLEN.out]; exact hlt), HS.out]
      obtain ⟨x, hx⟩ : ∃ x, bs.getD k 0 = x := ⟨_, rfl⟩
      rw [hx] at hc1 HN
      have hxl := x.toNat_lt
      have hxor := u32_xor_nat s x.toNat hsl (by omega)
      obtain ⟨y, hy⟩ : ∃ y, s ^^^ x.toNat = y := ⟨_, rfl⟩
      have hyl : y < 4294967296 := by rw [← hy]; exact Crc.xor_lt hsl (by omega)
      have HT := Lib.hid (turn_any y w hyl)
      rw [hy] at hxor
      have HY : Hid (Crc.byte s x = Crc.steps 8 y) := by show Crc.steps 8 (s ^^^ x.toNat) = _; rw [hy]
      clear hx hy hca
      go_wp2_with fail
      refine HT.out.mono ?_
      rintro e w' ⟨rfl, rfl⟩
      go_wp2
      go_round
      case rel => exact ⟨k + 1, by omega, by go_num, by rw [HN.out, HY.out]⟩
      case measure => simp [intOf]; omega
    · obtain rfl : k = n := by omega
      have HC : Hid (Crc.crc bs = 4294967295 - s) := by
        show _ = _
        unfold Crc.crc
        rw [← HS.out, List.take_of_length_le (by rw [HLEN.out]; exact Nat.le_refl _)]
      go_wp2
      go_ret
      rw [HC.out, show ((4294967295 - s : Nat) : Int) = 4294967295 - (s : Int) by omega]
      exact ⟨rfl, rfl⟩
end Go.Proofs.YtmimffbjghhdhaaDoor
