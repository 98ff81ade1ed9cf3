/- A commit's bytes. Conditions: none. -/
import Derived.Test.YtabffjahelogkaaW5
import Derived.Test.YtabffjahelogkaaApp0
namespace Go.Dk
open Go.RowKit Go.Bs
def nums (c : Ch) : List UInt8 := [byteAt c.1.toNat 2, byteAt c.1.toNat 1, byteAt c.1.toNat 0]
def cmtH (n : Nat) : List UInt8 := [1, byteAt n 1, byteAt n 0]
/-- a commit that is set. -/
def cmt (bytes : Nat) (l : List Ch) : List UInt8 := (cmtH l.length ++ l.flatMap nums) ++ zeros (bytes - (3 + 3 * l.length))
theorem nums_len (l : List Ch) : (l.flatMap nums).length = 3 * l.length := by
  induction l with
  | nil => rfl
  | cons x l ih => simp [nums, ih]; omega
theorem cmt_len (bytes : Nat) (l : List Ch) (h : 3 + 3 * l.length ≤ bytes) : (cmt bytes l).length = bytes := by
  simp only [cmt, List.length_append, nums_len, zeros_length, cmtH, List.length_cons, List.length_nil]; omega
theorem nums_take (l : List Ch) (k : Nat) (hk : k < l.length) : (l.take (k + 1)).flatMap nums = (l.take k).flatMap nums ++ nums (chAt l k) := by
  rw [List.take_succ_eq_append_getElem hk, List.flatMap_append]
  simp [chAt, List.getD, List.getElem?_eq_getElem hk]
end Go.Dk
namespace Go.Proofs.Ytabffjahelogkaa
open Go.RowKit Go.Bs Go.Dk

theorem three_rd (w : World) (t : Nat) (a b c : UInt8) (va vb vc : Value) (ha : va = B a) (hb : vb = B b) (hc : vc = B c) : Rd (w.alloc (.cells #[va, vb, vc] t)) (some ⟨w.heap.size, 0, none⟩) 3 3 [a, b, c] := by
  subst ha hb hc
  exact (Blk.new w t [a, b, c]).all' 3 3 rfl (Nat.le_refl _)
theorem three_own (w : World) (a b c : UInt8) (va vb vc : Value) (ha : va = B a) (hb : vb = B b) (hc : vc = B c) : Bs.Own (w.alloc (.cells #[va, vb, vc] 5)) w.heap.size 5 (.slice (some ⟨w.heap.size, 0, none⟩) 3 3) [a, b, c] := by
  subst ha hb hc
  exact ⟨by simp, .inr ⟨w.heap.size, 3, #[B a, B b, B c], rfl, Nat.le_refl _, heap_alloc_new w _, Nat.le_refl _, by simp [maxLen], by simp, by simp⟩⟩

theorem bv0 (n : Nat) (e : Int) (h : e = (n : Int) % 256) : Value.int .u8 e = B (byteAt n 0) := by
  subst h
  show Value.int .u8 _ = Value.int .u8 _
  rw [byteAt_toNat]
  simp
theorem bv1 (n : Nat) (e : Int) (h : e = (n : Int) / 256 % 256) : Value.int .u8 e = B (byteAt n 1) := by
  subst h
  show Value.int .u8 _ = Value.int .u8 _
  rw [byteAt_toNat]
  simp
theorem bv2 (n : Nat) (e : Int) (h : e = (n : Int) / 65536 % 256) : Value.int .u8 e = B (byteAt n 2) := by
  subst h
  show Value.int .u8 _ = Value.int .u8 _
  rw [byteAt_toNat]
  simp
set_option maxHeartbeats 2000000 in
theorem commitOf_any (w : World) (p g : Nat) (s : S) (log : Nat) (down : Bool) (D : Nat → Prop) (h : WalAt w p g s log down D) (A : Option Addr) (n c : Nat) (l : List Ch) (K : Nat → Prop) (hl : Chs w A n c l K)
    (hn : n ≤ log) (hsec : ∀ j, j < n → 0 ≤ (chAt l j).1 ∧ (chAt l j).1 < 65536) :
    Calls Try.prog 30 #[.pointer (some ⟨p, 0, none⟩), .slice A n c] w fun e w' => ∃ v, e = .returned v ∧ Bs.Own w' w.heap.size 5 v (cmt s.bytes l) ∧ Below w.heap.size w w' := by
  have HS := Lib.hid (Size_any w g s D h.disk)
  obtain ⟨c0, _, _, _⟩ := wc_cells h.row
  have hb1 := h.disk.ok.b1
  have hl2 := h.l2
  have hnl := hl.len
  obtain ⟨nb, hnb⟩ : ∃ nb, s.bytes = nb := ⟨_, rfl⟩
  rw [hnb] at HS hb1 hl2 ⊢
  have HL := Lib.hid hl
  have HW := Lib.hid h
  have hn5 : n ≤ 5000 := by omega
  have hnb3 : 3 + 3 * n ≤ nb := by omega
  obtain ⟨m, hm⟩ : ∃ m, nb = 3 + 3 * n + m := ⟨nb - (3 + 3 * n), by omega⟩
  have hcm : cmt nb l = (cmtH n ++ l.flatMap nums) ++ zeros m := by unfold cmt; rw [hnl, show nb - (3 + 3 * n) = m by omega]
  rw [hcm]
  clear h hl hnb hcm hl2
  obtain ⟨base, hbase⟩ : ∃ base, w.heap.size = base := ⟨_, rfl⟩
  rw [hbase]
  have HBA := Lib.hid hbase
  go_enter Try.func30, Try.ntmps30
  go_wp2_with fail
  refine HS.out.mono ?_
  rintro e w1 ⟨rfl, k, rfl⟩
  obtain ⟨W1, hW1⟩ : ∃ W1, w.drewN k = W1 := ⟨_, rfl⟩
  have hbW : Below w.heap.size w W1 := by rw [← hW1]; exact below_drewN (Below.refl _ _) _
  have hsW : W1.heap.size = w.heap.size := by rw [← hW1]; rfl
  rw [hW1]
  clear hW1
  have ho : Bs.Own (W1.alloc (.cells #[.int .u8 1, .int .u8 ((n : Int) / 256), .int .u8 ((n : Int) % 256)] 5)) w.heap.size 5 (.slice (some ⟨w.heap.size, 0, none⟩) 3 3) (cmtH n ++ (l.take 0).flatMap nums) := by
    rw [List.take_zero, List.flatMap_nil, List.append_nil, ← hsW]
    exact three_own W1 1 (byteAt n 1) (byteAt n 0) _ _ _ rfl (bv1 n _ (by omega)) (bv0 n _ (by omega))
  obtain ⟨W2, hW2⟩ : ∃ W2, W1.alloc (.cells #[.int .u8 1, .int .u8 ((n : Int) / 256), .int .u8 ((n : Int) % 256)] 5) = W2 := ⟨_, rfl⟩
  have hbW2 : Below w.heap.size w W2 := by rw [← hW2]; exact hbW.alloc hbW.size _
  rw [hW2] at ho
  have HO := Lib.hid ho
  have HB2 := Lib.hid hbW2
  rw [hbase] at HO HB2
  rw [hbase] at hsW
  clear ho hbW2 hbW hbase
  go_wp2
  go_loopw [28, 7] (fun i v wr => ∃ k : Nat, k ≤ n ∧ i = .int .i64 k ∧ Bs.Own wr base 5 v (cmtH n ++ (l.take k).flatMap nums) ∧ Below base w wr) (fun i _ _ => n - (intOf i).toNat)
  case atStart => exact ⟨0, Nat.zero_le _, rfl, HO.out, HB2.out⟩
  case round =>
    obtain ⟨k, hk, rfl, hown, hbl⟩ := hrel
    have hbs : base ≤ wr.heap.size := by have := hbl.size; rw [HBA.out] at this; exact this
    by_cases hlt : k < n
    · obtain ⟨q, o, B, mm, cc, rfl, hq, i0, i1, ib, hBK, hrd⟩ := (HL.out.below (by rw [HBA.out]; exact hbl)).at_ k hlt
      obtain ⟨xn, hx, hxb⟩ : ∃ xn : Nat, (chAt l k).1 = (xn : Int) ∧ xn < 65536 := by
        have := hsec k hlt
        exact ⟨(chAt l k).1.toNat, by omega, by omega⟩
      have HNT : Hid ((l.take (k + 1)).flatMap nums = (l.take k).flatMap nums ++ [byteAt xn 2, byteAt xn 1, byteAt xn 0]) := by
        show _ = _
        rw [nums_take l k (by omega)]
        unfold nums
        rw [hx]
        rfl
      rw [hx] at i0
      obtain ⟨z, hz⟩ : ∃ z, wr.heap.size = z := ⟨_, rfl⟩
      obtain ⟨X1, hX1⟩ : ∃ X1, wr.alloc (.cells #[.int .i64 (xn : Int), .slice B mm cc] 59) = X1 := ⟨_, rfl⟩
      have hb1 : Below wr.heap.size wr X1 := by rw [← hX1]; exact (Below.refl _ _).alloc (Nat.le_refl _) _
      have hz1 : X1.heap[z]? = some (.cells #[.int .i64 (xn : Int), .slice B mm cc] 59 (0, 0)) := by rw [← hX1, ← hz]; exact heap_alloc_new wr _
      have z0 : X1.cell? ⟨z, 0, none⟩ = some (.int .i64 (xn : Int)) := by rw [cell_of_row X1 z _ _ 59 (0, 0) hz1]; rfl
      have hs1 : X1.heap.size = z + 1 := by rw [← hX1, World.size_alloc, hz]
      obtain ⟨X2, hX2⟩ : ∃ X2, X1.alloc (.cells #[.int .u8 ((xn : Int) / 65536), .int .u8 ((xn : Int) / 256), .int .u8 ((xn : Int) % 256)] 5) = X2 := ⟨_, rfl⟩
      have hb2 : Below wr.heap.size wr X2 := by rw [← hX2]; exact hb1.alloc hb1.size _
      have HO2 := Lib.hid (hown.keep hb2)
      have HR2 : Hid (Rd X2 (some ⟨z + 1, 0, none⟩) 3 3 [byteAt xn 2, byteAt xn 1, byteAt xn 0]) := by
        show Rd _ _ _ _ _
        rw [← hX2, ← hs1]
        exact three_rd X1 5 _ _ _ _ _ _ (bv2 xn _ (by omega)) (bv1 xn _ (by omega)) (bv0 xn _ (by omega))
      have HB2' := Lib.hid (hbl.trans (hb2.mono hbs))
      have hlen : (cmtH n ++ (l.take k).flatMap nums).length + 3 ≤ 70368744177664 := by
        simp only [List.length_append, nums_len, cmtH, List.length_cons, List.length_nil, List.length_take]; omega
      have hbs2 : base ≤ X2.heap.size := by have := hb2.size; omega
      clear hx ib hb1 hz1 hrd hBK hown hbl hb2
      go_wp2_with (at_builtin; refine wpList_app _ rfl _ _ 24 rfl base 5 Try.underlying24 u8_info _ _ rfl HO2.out _ 3 3 _ rfl HR2.out hlen hbs2 ?_; intro v' w3 ho3 hb3; have HO3 := Lib.hid ho3; have HB3 := Lib.hid hb3; clear ho3 hb3)
      go_roundw
      case rel => exact ⟨k + 1, by omega, by go_num, by rw [HNT.out, ← List.append_assoc]; exact HO3.out, HB2'.out.trans HB3.out⟩
      case measure => simp [intOf]; omega
    · obtain rfl : k = n := by omega
      have hall : l.take k = l := List.take_of_length_le (by omega)
      rw [hall] at hown
      have hlen : (cmtH k ++ l.flatMap nums).length = 3 + 3 * k := by
        simp only [List.length_append, nums_len, cmtH, List.length_cons, List.length_nil]; omega
      obtain ⟨A', c', rfl, hrd⟩ := Own.slice hown _ hlen
      have HO := Lib.hid hown
      have HB := Lib.hid hbl
      have hbs2 : base ≤ wr.heap.size := by omega
      have hsz : (cmtH k ++ l.flatMap nums).length + m ≤ 70368744177664 := by omega
      clear hall hown hbl hrd hlen
      subst hm
      go_wp2_with (at_builtin; refine wpList_app_zeros _ rfl (.tmp 47) (.tmp 51) 24 3 rfl base 5 .i64 Try.underlying24 Try.underlying3 u8_info _ _ rfl HO.out m (by show Value.int .i64 _ = Value.int .i64 _; congr 1; omega) hsz hbs2 ?_; intro v' w3 ho3 hb3; have HO3 := Lib.hid ho3; have HB3 := Lib.hid hb3; clear ho3 hb3)
      go_ret
      exact ⟨_, rfl, HO3.out, HB.out.trans HB3.out⟩
end Go.Proofs.Ytabffjahelogkaa
