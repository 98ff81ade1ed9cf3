/- 'append(s, make([]byte, k)...)' onto bytes that the call owns. Conditions: none. A commit's bytes. Conditions: none. -/
import Derived.Test.YtephmcbofcfpmaaGreatJ01
import Derived.Lib.AppendZerosOnto
import Derived.Test.YtephmcbofcfpmaaGreatJ11
set_option maxRecDepth 8000
set_option linter.unusedSimpArgs false
set_option linter.unusedVariables false
namespace Go.Bs
open Go.RowKit

theorem zeroCells_zeros (k : Nat) : Builtin.zeroCells #[.int .u8 0] k = ((zeros k).map B).toArray := by
  apply Array.ext
  · simp [Builtin.zeroCells, zeros]
  · intro i h1 h2
    simp [Builtin.zeroCells, zeros, Nat.mod_one]

section
variable {P : Program}
theorem run_append_room_zeros (w : World) (t tn ty e : TypeId) (i : TypeInfo) (z : Value) (kq kn : IntKind) (ht : P.underlying t = some (.slice e)) (htn : P.underlying tn = some (.int kn)) (hi : P.info? e = some i) (hz : i.zero = some z) (hs1 : i.size = 1) (hb1 : i.bytes = 1) (hz1 : z = .int .u8 0)
    (g sLen sCap : Nat) (cur : Array Value) (hg : w.heap[g]? = some (.cells cur e (0, 0))) (k : Nat) (hk : k ≤ 70368744177664) (hroom : sLen + k ≤ sCap) (hfit : sLen + k ≤ cur.size) :
    (Builtin.append_ #[t, tn] ty #[.slice (some ⟨g, 0, none⟩) sLen sCap, .int kq k]).run P w =
      .ok (.slice (some ⟨g, 0, none⟩) (sLen + k) sCap) (w.setRow g (cur.toList.take sLen ++ (zeros k).map B ++ cur.toList.drop (sLen + k)).toArray) := by
  have hst := run_storeCells_at P g sLen e ((zeros k).map B) 0 cur w hg (by simp [zeros_length]; omega) (B_one _)
  simp only [Nat.add_zero, List.length_map, zeros_length] at hst
  have hw : IntKind.i64.wrap (k : Int) = k := by rw [IntKind.wrap_i64]; omega
  have hneg : ¬ ((k : Int) < 0) := by omega
  have h48i : ¬ (281474976710656 < (k : Int)) := by omega
  subst hz1
  have hz0 : Builtin.zeroCells (Value.int .u8 0).cells k = ((zeros k).map B).toArray := zeroCells_zeros k
  by_cases h0 : k = 0
  · subst h0
    have e1 : cur.toList.take sLen ++ (zeros 0).map B ++ cur.toList.drop (sLen + 0) = cur.toList := by simp [zeros]
    rw [e1, Array.toArray_toList, setRow_self w g _ e _ hg]
    have hr : sLen ≤ sCap := by omega
    simp [Builtin.append_, run_underlying ht, run_underlying htn, sizeOf, typeInfo, hi, asInt, asIntOf, hr, storeCells, IntKind.wrap_i64]
  · simp [Builtin.append_, run_underlying ht, run_underlying htn, sizeOf, typeInfo, zeroValue, hi, hz, asInt, asIntOf, hw, hneg, hb1, hs1, h48i, h0, hroom, hz0, Addr.add_lit, hst]

theorem run_app_zeros (w : World) (base t tn ty e : Nat) (kn : IntKind) (ht : P.underlying t = some (.slice e)) (htn : P.underlying tn = some (.int kn)) (hinfo : (P.info? e).map (fun i => (i.zero, i.size, i.bytes)) = some (some (.int .u8 0), 1, 1))
    (v : Value) (bs : List UInt8) (hown : Own w base e v bs) (k : Nat) (hsz : bs.length + k ≤ 70368744177664) (hbase : base ≤ w.heap.size) :
    ∃ v' w', (Builtin.append_ #[t, tn] ty #[v, .int .i64 k]).run P w = .ok v' w' ∧ Own w' base e v' (bs ++ zeros k) ∧ Below base w w' := by
  obtain ⟨i, hi, hz, hs1, hby⟩ := info_parts hinfo
  have grown : ∀ (old : Nat), ∃ cs, (bs.map B).toArray ++ Builtin.zeroCells (Value.int .u8 0).cells k ++ Builtin.zeroCells (Value.int .u8 0).cells (grownCap w (bs.length + k) old e - (bs.length + k)) = cs ∧
      Own (w.drew.alloc (.cells cs e)) base e (.slice (some ⟨w.heap.size, 0, none⟩) (bs.length + k) (grownCap w (bs.length + k) old e)) (bs ++ zeros k) ∧ Below base w (w.drew.alloc (.cells cs e)) := by
    intro old
    have hge := grownCap_ge w (bs.length + k) old e
    have hcm : grownCap w (bs.length + k) old e ≤ maxLen := grownCap_le_maxLen w (bs.length + k) old e (by unfold maxLen; omega)
    have hz0 : ∀ q, Builtin.zeroCells (Value.int .u8 0).cells q = ((zeros q).map B).toArray := zeroCells_zeros
    refine ⟨_, rfl, ⟨by simp, .inr ⟨w.heap.size, _, _, by simp [zeros_length], hbase, heap_alloc_new w.drew _, by simp [zeros_length]; omega, hcm, ?_, ?_⟩⟩, ((Below.refl _ w).drew).alloc hbase _⟩
    · rw [hz0, hz0]; simp [zeros_length]; omega
    · rw [hz0, hz0]
      simp [zeros_length]
      rw [← List.append_assoc]
      exact List.take_left' (by simp [zeros_length])
  rcases hown.2 with ⟨rfl, h0⟩ | ⟨g, cap, cur, rfl, hbg, hg, hnc, hcm, hcs, htake⟩
  · obtain rfl : bs = [] := List.eq_nil_of_length_eq_zero h0
    by_cases hk : k = 0
    · subst hk
      refine ⟨.slice none 0 0, w, ?_, by simpa [zeros] using hown, Below.refl _ _⟩
      simp [Builtin.append_, run_underlying ht, run_underlying htn, sizeOf, typeInfo, hi, asInt, asIntOf, IntKind.wrap_i64]
    · obtain ⟨cs, hcs, h1, h2⟩ := grown 0
      have hr := Lib.run_append_nil_zeros (P := P) w t tn ty e i _ .i64 kn ht htn hi hz k (by omega) (by omega) (by simp only [List.length_nil] at hsz; omega) (by rw [hby]; simp only [List.length_nil] at hsz; omega)
      simp only [List.map_nil, Array.empty_append, List.length_nil, Nat.zero_add] at hcs h1 h2
      rw [hcs] at hr
      exact ⟨_, _, hr, h1, h2⟩
  · simp only [Nat.mul_one] at hcs htake
    by_cases hroom : bs.length + k ≤ cap
    · have hr := run_append_room_zeros (P := P) w t tn ty e i _ .i64 kn ht htn hi hz hs1 hby rfl g bs.length cap cur hg k (by omega) hroom (by omega)
      refine ⟨_, _, hr, ⟨by simp, .inr ⟨g, cap, _, by simp [zeros_length], hbg, setRow_heap w g cur _ e _ hg, by simp [zeros_length]; omega, hcm, ?_, ?_⟩⟩, ?_⟩
      · simp [zeros_length]; omega
      · simp [zeros_length, htake]
        rw [← List.append_assoc]
        exact List.take_left' (by simp [zeros_length])
      · exact below_setRow (Below.refl _ _) hbg _
    · obtain ⟨cs, hcs', h1, h2⟩ := grown cap
      have holds : ∀ j u, (bs.map B)[j]? = some u → w.drew.cell? ((⟨g, 0, none⟩ : Addr).add j) = some u := hown.cells (g := g) rfl
      have hold := run_firstCells_some (P := P) w.drew i.size bs.length ⟨g, 0, none⟩ bs.length cap (bs.map B) (by rw [hs1]; simp) holds
      have hr := Lib.run_append_grow_zeros (P := P) w t tn ty e i _ .i64 kn ht htn hi hz (some ⟨g, 0, none⟩) bs.length cap (bs.map B) hold k (by omega) (by omega) (by omega) (by omega) (by rw [hby]; omega)
        (by rw [hby]; exact growslice_fits (by omega) (by omega))
      rw [hcs'] at hr
      exact ⟨_, _, hr, h1, h2⟩

theorem wpList_app_zeros (w : World) {ops : Array Oper} {rest : List Oper} {o : Oper} {a : Act} {Q : Exit → Act → World → Prop} (hgd : o.guard = none) (s x : Operand) (t tn : TypeId)
    (ho : o.op = .call { callee := .builtin .append, args := #[s, x], argTypes := #[t, tn] })
    (base e : Nat) (kn : IntKind) (ht : P.underlying t = some (.slice e)) (htn : P.underlying tn = some (.int kn)) (hinfo : (P.info? e).map (fun i => (i.zero, i.size, i.bytes)) = some (some (.int .u8 0), 1, 1))
    (v : Value) (bs : List UInt8) (hs : a.eval s = v) (hown : Own w base e v bs) (k : Nat) (hx : a.eval x = .int .i64 k) (hsz : bs.length + k ≤ 70368744177664) (hbase : base ≤ w.heap.size)
    (h : ∀ v' w', Own w' base e v' (bs ++ zeros k) → Below base w w' → wpList P ops Q rest (a.put o.dst v') w') : wpList P ops Q (o :: rest) a w := by
  refine wpList_plain hgd fun K hK => ?_
  obtain ⟨v', w', hrun, h2, h3⟩ := run_app_zeros (P := P) w base t tn o.type e kn ht htn hinfo v bs hown k hsz hbase
  unfold Oper.wp execOp
  simp only [ho, resolve, invoke, builtin, Sem.run_bind, Sem.run_pure, Result.andThen_ok, List.map_toArray, List.map_cons, List.map_nil, hs, hx, hrun]
  exact hK _ _ (h v' w' h2 h3)
end
end Go.Bs

set_option maxRecDepth 8000
set_option linter.unusedSimpArgs false
set_option linter.unusedVariables false
namespace Go.Dk
open Go.RowKit Go.Bs
def nums (c : Ch) : List UInt8 := [byteAt c.1.toNat 2, byteAt c.1.toNat 1, byteAt c.1.toNat 0]
def cmtH (n : Nat) : List UInt8 := [1, byteAt n 1, byteAt n 0]
/-- a commit that is set. -/
def cmt (bytes : Nat) (l : List Ch) : List UInt8 := (cmtH l.length ++ l.flatMap nums) ++ zeros (bytes - (3 + 3 * l.length))
theorem nums_len (l : List Ch) : (l.flatMap nums).length = 3 * l.length := by
  induction l with
  | nil => rfl
  | cons x l ih => simp [nums, ih]; omega
theorem cmt_len (bytes : Nat) (l : List Ch) (h : 3 + 3 * l.length ≤ bytes) : (cmt bytes l).length = bytes := by
  simp only [cmt, List.length_append, nums_len, zeros_length, cmtH, List.length_cons, List.length_nil]; omega
theorem nums_take (l : List Ch) (k : Nat) (hk : k < l.length) : (l.take (k + 1)).flatMap nums = (l.take k).flatMap nums ++ nums (chAt l k) := by
  rw [List.take_succ_eq_append_getElem hk, List.flatMap_append]
  simp [chAt, List.getD, List.getElem?_eq_getElem hk]
end Go.Dk
namespace Go.Proofs.YtephmcbofcfpmaaGreat
open Go.RowKit Go.Bs Go.Dk

theorem three_rd (w : World) (t : Nat) (a b c : UInt8) (va vb vc : Value) (ha : va = B a) (hb : vb = B b) (hc : vc = B c) : Rd (w.alloc (.cells #[va, vb, vc] t)) (some ⟨w.heap.size, 0, none⟩) 3 3 [a, b, c] := by
  subst ha hb hc
  exact (Blk.new w t [a, b, c]).all' 3 3 rfl (Nat.le_refl _)
theorem three_own (w : World) (a b c : UInt8) (va vb vc : Value) (ha : va = B a) (hb : vb = B b) (hc : vc = B c) : Bs.Own (w.alloc (.cells #[va, vb, vc] 5)) w.heap.size 5 (.slice (some ⟨w.heap.size, 0, none⟩) 3 3) [a, b, c] := by
  subst ha hb hc
  exact ⟨by simp, .inr ⟨w.heap.size, 3, #[B a, B b, B c], rfl, Nat.le_refl _, heap_alloc_new w _, Nat.le_refl _, by simp [maxLen], by simp, by simp⟩⟩

theorem bv0 (n : Nat) (e : Int) (h : e = (n : Int) % 256) : Value.int .u8 e = B (byteAt n 0) := by
  subst h
  show Value.int .u8 _ = Value.int .u8 _
  rw [byteAt_toNat]
  simp
theorem bv1 (n : Nat) (e : Int) (h : e = (n : Int) / 256 % 256) : Value.int .u8 e = B (byteAt n 1) := by
  subst h
  show Value.int .u8 _ = Value.int .u8 _
  rw [byteAt_toNat]
  simp
theorem bv2 (n : Nat) (e : Int) (h : e = (n : Int) / 65536 % 256) : Value.int .u8 e = B (byteAt n 2) := by
  subst h
  show Value.int .u8 _ = Value.int .u8 _
  rw [byteAt_toNat]
  simp
set_option maxHeartbeats 2000000 in
theorem commitOf_any (w : World) (p g : Nat) (s : S) (log : Nat) (down : Bool) (D : Nat → Prop) (h : WalAt w p g s log down D) (A : Option Addr) (n c : Nat) (l : List Ch) (K : Nat → Prop) (hl : Chs w A n c l K)
    (hn : n ≤ log) (hsec : ∀ j, j < n → 0 ≤ (chAt l j).1 ∧ (chAt l j).1 < 65536) :
    Calls Tryz.prog 118 #[.pointer (some ⟨p, 0, none⟩), .slice A n c] w fun e w' => ∃ v, e = .returned v ∧ Bs.Own w' w.heap.size 5 v (cmt s.bytes l) ∧ Below w.heap.size w w' := by
  have HS := Lib.hid (Size_any w g s D h.disk)
  obtain ⟨c0, _, _, _⟩ := wc_cells h.row
  have hb1 := h.disk.ok.b1
  have hl2 := h.l2
  have hnl := hl.len
  obtain ⟨nb, hnb⟩ : ∃ nb, s.bytes = nb := ⟨_, rfl⟩
  rw [hnb] at HS hb1 hl2 ⊢
  have HL := Lib.hid hl
  have HW := Lib.hid h
  have hn5 : n ≤ 5000 := by omega
  have hnb3 : 3 + 3 * n ≤ nb := by omega
  obtain ⟨m, hm⟩ : ∃ m, nb = 3 + 3 * n + m := ⟨nb - (3 + 3 * n), by omega⟩
  have hcm : cmt nb l = (cmtH n ++ l.flatMap nums) ++ zeros m := by unfold cmt; rw [hnl, show nb - (3 + 3 * n) = m by omega]
  rw [hcm]
  clear h hl hnb hcm hl2
  obtain ⟨base, hbase⟩ : ∃ base, w.heap.size = base := ⟨_, rfl⟩
  rw [hbase]
  have HBA := Lib.hid hbase
  go_enter Tryz.func118, Tryz.ntmps118
  go_wp2_with fail
  refine HS.out.mono ?_
  rintro e w1 ⟨rfl, k, rfl⟩
  obtain ⟨W1, hW1⟩ : ∃ W1, w.drewN k = W1 := ⟨_, rfl⟩
  have hbW : Below w.heap.size w W1 := by rw [← hW1]; exact below_drewN (Below.refl _ _) _
  have hsW : W1.heap.size = w.heap.size := by rw [← hW1]; rfl
  rw [hW1]
  clear hW1
  have ho : Bs.Own (W1.alloc (.cells #[.int .u8 1, .int .u8 ((n : Int) / 256), .int .u8 ((n : Int) % 256)] 5)) w.heap.size 5 (.slice (some ⟨w.heap.size, 0, none⟩) 3 3) (cmtH n ++ (l.take 0).flatMap nums) := by
    rw [List.take_zero, List.flatMap_nil, List.append_nil, ← hsW]
    exact three_own W1 1 (byteAt n 1) (byteAt n 0) _ _ _ rfl (bv1 n _ (by omega)) (bv0 n _ (by omega))
  obtain ⟨W2, hW2⟩ : ∃ W2, W1.alloc (.cells #[.int .u8 1, .int .u8 ((n : Int) / 256), .int .u8 ((n : Int) % 256)] 5) = W2 := ⟨_, rfl⟩
  have hbW2 : Below w.heap.size w W2 := by rw [← hW2]; exact hbW.alloc hbW.size _
  rw [hW2] at ho
  have HO := Lib.hid ho
  have HB2 := Lib.hid hbW2
  rw [hbase] at HO HB2
  rw [hbase] at hsW
  clear ho hbW2 hbW hbase
  go_wp2
  go_loopw [28, 7] (fun i v wr => ∃ k : Nat, k ≤ n ∧ i = .int .i64 k ∧ Bs.Own wr base 5 v (cmtH n ++ (l.take k).flatMap nums) ∧ Below base w wr) (fun i _ _ => n - (RowKit.intOf i).toNat)
  case atStart => exact ⟨0, Nat.zero_le _, rfl, HO.out, HB2.out⟩
  case round =>
    obtain ⟨k, hk, rfl, hown, hbl⟩ := hrel
    have hbs : base ≤ wr.heap.size := by have := hbl.size; rw [HBA.out] at this; exact this
    by_cases hlt : k < n
    · obtain ⟨q, o, B, mm, cc, rfl, hq, i0, i1, ib, hBK, hrd⟩ := (HL.out.below (by rw [HBA.out]; exact hbl)).at_ k hlt
      obtain ⟨xn, hx, hxb⟩ : ∃ xn : Nat, (chAt l k).1 = (xn : Int) ∧ xn < 65536 := by
        have := hsec k hlt
        exact ⟨(chAt l k).1.toNat, by omega, by omega⟩
      have HNT : Hid ((l.take (k + 1)).flatMap nums = (l.take k).flatMap nums ++ [byteAt xn 2, byteAt xn 1, byteAt xn 0]) := by
        show _ = _
        rw [nums_take l k (by omega)]
        unfold nums
        rw [hx]
        rfl
      rw [hx] at i0
      obtain ⟨z, hz⟩ : ∃ z, wr.heap.size = z := ⟨_, rfl⟩
      obtain ⟨X1, hX1⟩ : ∃ X1, wr.alloc (.cells #[.int .i64 (xn : Int), .slice B mm cc] 169) = X1 := ⟨_, rfl⟩
      have hb1 : Below wr.heap.size wr X1 := by rw [← hX1]; exact (Below.refl _ _).alloc (Nat.le_refl _) _
      have hz1 : X1.heap[z]? = some (.cells #[.int .i64 (xn : Int), .slice B mm cc] 169 (0, 0)) := by rw [← hX1, ← hz]; exact heap_alloc_new wr _
      have z0 : X1.cell? ⟨z, 0, none⟩ = some (.int .i64 (xn : Int)) := by rw [cell_of_row X1 z _ _ 169 (0, 0) hz1]; rfl
      have hs1 : X1.heap.size = z + 1 := by rw [← hX1, World.size_alloc, hz]
      obtain ⟨X2, hX2⟩ : ∃ X2, X1.alloc (.cells #[.int .u8 ((xn : Int) / 65536), .int .u8 ((xn : Int) / 256), .int .u8 ((xn : Int) % 256)] 5) = X2 := ⟨_, rfl⟩
      have hb2 : Below wr.heap.size wr X2 := by rw [← hX2]; exact hb1.alloc hb1.size _
      have HO2 := Lib.hid (hown.keep hb2)
      have HR2 : Hid (Rd X2 (some ⟨z + 1, 0, none⟩) 3 3 [byteAt xn 2, byteAt xn 1, byteAt xn 0]) := by
        show Rd _ _ _ _ _
        rw [← hX2, ← hs1]
        exact three_rd X1 5 _ _ _ _ _ _ (bv2 xn _ (by omega)) (bv1 xn _ (by omega)) (bv0 xn _ (by omega))
      have HB2' := Lib.hid (hbl.trans (hb2.mono hbs))
      have hlen : (cmtH n ++ (l.take k).flatMap nums).length + 3 ≤ 70368744177664 := by
        simp only [List.length_append, nums_len, cmtH, List.length_cons, List.length_nil, List.length_take]; omega
      have hbs2 : base ≤ X2.heap.size := by have := hb2.size; omega
      clear hx ib hb1 hz1 hrd hBK hown hbl hb2
      go_wp2_with (at_builtin; refine wpList_app _ rfl _ _ 39 rfl base 5 Tryz.underlying39 u8_info _ _ rfl HO2.out _ 3 3 _ rfl HR2.out hlen hbs2 ?_; intro v' w3 ho3 hb3; have HO3 := Lib.hid ho3; have HB3 := Lib.hid hb3; clear ho3 hb3)
      go_roundw
      case rel => exact ⟨k + 1, by omega, by go_num, by rw [HNT.out, ← List.append_assoc]; exact HO3.out, HB2'.out.trans HB3.out⟩
      case measure => simp [RowKit.intOf]; omega
    · obtain rfl : k = n := by omega
      have hall : l.take k = l := List.take_of_length_le (by omega)
      rw [hall] at hown
      have hlen : (cmtH k ++ l.flatMap nums).length = 3 + 3 * k := by
        simp only [List.length_append, nums_len, cmtH, List.length_cons, List.length_nil]; omega
      obtain ⟨A', c', rfl, hrd⟩ := Own.slice hown _ hlen
      have HO := Lib.hid hown
      have HB := Lib.hid hbl
      have hbs2 : base ≤ wr.heap.size := by omega
      have hsz : (cmtH k ++ l.flatMap nums).length + m ≤ 70368744177664 := by omega
      clear hall hown hbl hrd hlen
      subst hm
      go_wp2_with (at_builtin; refine wpList_app_zeros _ rfl (.tmp 47) (.tmp 51) 39 3 rfl base 5 .i64 Tryz.underlying39 Tryz.underlying3 u8_info _ _ rfl HO.out m (by show Value.int .i64 _ = Value.int .i64 _; congr 1; omega) hsz hbs2 ?_; intro v' w3 ho3 hb3; have HO3 := Lib.hid ho3; have HB3 := Lib.hid hb3; clear ho3 hb3)
      go_ret
      exact ⟨_, rfl, HO3.out, HB.out.trans HB3.out⟩
end Go.Proofs.YtephmcbofcfpmaaGreat

