/- A Hash's block, and worlds in which all else is as it was. Conditions: none. -/
import Derived.Test.YtnoldhedocejbaaDoorS11
import Derived.Deep.MidRow
import Derived.Laws.CopyRow
namespace Go.Proofs.YtnoldhedocejbaaDoor
open Go.RowKit Go.Bs Go.Sha

/-- every old block but g is as it was. -/
structure But (g : Nat) (w w' : World) : Prop where
  os : w'.os = w.os
  tape : w'.tape = w.tape
  output : w'.output = w.output
  size : w.heap.size ≤ w'.heap.size
  block : ∀ k, k < w.heap.size → k ≠ g → w'.heap[k]? = w.heap[k]?
theorem But.refl (g : Nat) (w : World) : But g w w := ⟨rfl, rfl, rfl, Nat.le_refl _, fun _ _ _ => rfl⟩
theorem But.trans {g : Nat} {a b c : World} (h : But g a b) (k : But g b c) : But g a c :=
  ⟨k.os.trans h.os, k.tape.trans h.tape, k.output.trans h.output, Nat.le_trans h.size k.size, fun i hi hn => (k.block i (Nat.lt_of_lt_of_le hi h.size) hn).trans (h.block i hi hn)⟩
theorem But.of {g : Nat} {a b : World} (h : Below a.heap.size a b) : But g a b := ⟨h.os, h.tape, h.output, h.size, fun k hk _ => h.block k hk⟩
theorem But.below {g N : Nat} {a b : World} (h : But g a b) (h1 : N ≤ g) (h2 : N ≤ a.heap.size) : Below N a b :=
  ⟨h.os, h.tape, h.output, h.size, fun k hk => h.block k (by omega) (by omega)⟩
theorem But.row {g : Nat} (w : World) (cs : Array Value) : But g w (w.setRow g cs) :=
  ⟨rfl, rfl, rfl, by simp, fun k _ hn => setRow_other w g k cs hn⟩
theorem But.setCell {g : Nat} (w : World) (i : Nat) (v : Value) : But g w (w.setCell ⟨g, i, none⟩ v) :=
  ⟨rfl, rfl, rfl, by simp [World.setCell], fun k _ hn => by simp [World.setCell, Array.getElem?_modify, Ne.symm hn]⟩
theorem But.drew {g : Nat} {a b : World} (h : But g a b) : But g a b.drew := ⟨h.os, h.tape, h.output, h.size, h.block⟩
theorem But.rd {g : Nat} {w w' : World} {A : Option Addr} {n c : Nat} {bs : List UInt8} (h : But g w w') (hr : Rd w A n c bs) (hne : ∀ a, A = some a → a.block ≠ g) : Rd w' A n c bs :=
  ⟨hr.len, hr.cap, fun hn => by
    obtain ⟨b, o, e, hb, hc⟩ := hr.cells hn
    have hb2 := h.block b hb (hne _ e)
    refine ⟨b, o, e, Nat.lt_of_lt_of_le hb h.size, fun j hj => ?_⟩
    rw [← hc j hj]
    unfold World.cell?
    simp only [hb2]⟩
theorem But.own {g : Nat} {w w' : World} {base e : Nat} {v : Value} {bs : List UInt8} (h : But g w w') (ho : Own w base e v bs) (hne : v.ownBlock ≠ some g) : Own w' base e v bs := by
  refine ⟨ho.1, ?_⟩
  rcases ho.2 with h0 | ⟨b, cap, cur, e1, e2, e3, e4⟩
  · exact .inl h0
  · refine .inr ⟨b, cap, cur, e1, e2, ?_, e4⟩
    rw [h.block b ?_ ?_, e3]
    · rcases Nat.lt_or_ge b w.heap.size with hlt | hge
      · exact hlt
      · rw [Array.getElem?_eq_none hge] at e3; cases e3
    · rintro rfl
      exact hne (by rw [e1]; rfl)
theorem But.laid {g : Nat} {w w' : World} (h : But g w w') (hL : Laid w) (hg : 2 ≤ g) : Laid w' := by
  have h2 := hL.lt
  have hc : ∀ b i, b < 2 → w'.cell? ⟨b, i, none⟩ = w.cell? ⟨b, i, none⟩ := fun b i hb => by
    unfold World.cell?
    simp only [h.block b (by omega) (by omega)]
  obtain ⟨a1, a2⟩ := hL
  exact ⟨fun i hi => (hc 0 i (by omega)).trans (a1 i hi), fun i hi => (hc 1 i (by omega)).trans (a2 i hi)⟩

def hc (S : St) (blk : List UInt8) (n : Nat) : Array Value := (S.l.map U ++ (blk.map B ++ [I n])).toArray
theorem hc_size (S : St) (blk : List UInt8) (n : Nat) (h : blk.length = 64) : (hc S blk n).size = 73 := by simp [hc, St.l, h]
structure HB (w : World) (g : Nat) (S : St) (blk : List UInt8) (n : Nat) : Prop where
  len : blk.length = 64
  row : w.heap[g]? = some (.cells (hc S blk n) 63 (0, 0))
theorem HB.lt {w : World} {g n : Nat} {S : St} {blk : List UInt8} (h : HB w g S blk n) : g < w.heap.size := by
  rcases Nat.lt_or_ge g w.heap.size with hlt | hge
  · exact hlt
  · have := h.row; rw [Array.getElem?_eq_none hge] at this; cases this
theorem HB.num {w : World} {g n : Nat} {S : St} {blk : List UInt8} (h : HB w g S blk n) : w.cell? ⟨g, 72, none⟩ = some (I n) := by
  rw [cell_of_row w g 72 _ 63 (0, 0) h.row]
  have e : (S.l.map U).length = 8 := by simp [St.l]
  have e2 : (blk.map B).length = 64 := by simp [h.len]
  unfold hc
  rw [List.getElem?_toArray, List.getElem?_append_right (by omega), List.getElem?_append_right (by omega), e, e2]
  rfl
theorem HB.frozen {w : World} {g n : Nat} {S : St} {blk : List UInt8} (h : HB w g S blk n) (i : Nat) : w.frozen? ⟨g, i, none⟩ = false := by
  simp [World.frozen?, h.row]
theorem HB.setN {w : World} {g n : Nat} {S : St} {blk : List UInt8} (h : HB w g S blk n) (m : Nat) : HB (w.setCell ⟨g, 72, none⟩ (I m)) g S blk m := by
  refine ⟨h.len, ?_⟩
  rw [setCell_eq_setRow w g 72 _ 63 (0, 0) (I m) h.row, setRow_heap w g _ _ 63 _ h.row]
  have e : (S.l.map U).length = 8 := by simp [St.l]
  have e2 : (blk.map B).length = 64 := by simp [h.len]
  unfold hc
  congr 2
  rw [List.setIfInBounds_toArray, List.set_append_right _ _ (by omega), List.set_append_right _ _ (by omega), e, e2]
  rfl
theorem HB.stateRange {w : World} {g n : Nat} {S : St} {blk : List UInt8} (h : HB w g S blk n) : w.rangeAt g 0 (S.l.map U) := fun j v hv => by
  have hj : j < (S.l.map U).length := (List.getElem?_eq_some_iff.1 hv).1
  rw [Nat.zero_add, cell_of_row w g j _ 63 (0, 0) h.row]
  unfold hc
  rw [List.getElem?_toArray, List.getElem?_append_left hj, hv]
theorem info51 : (Tryd.prog.info? 51).map (·.size) = some 8 := by kernel_rfl
theorem HB.load {w : World} {g n : Nat} {S : St} {blk : List UInt8} (h : HB w g S blk n) : (loadVar 51 ⟨g, 0, none⟩).run Tryd.prog w = .ok (.agg S.cs) w :=
  run_loadVar_mid (P := Tryd.prog) w g 0 51 (S.l.map U) _ h.stateRange Tryd.underlying51 rfl (by simpa [St.l] using info51)
theorem HB.store {w : World} {g n : Nat} {S : St} {blk : List UInt8} (h : HB w g S blk n) (S' : St) : (storeVar 51 ⟨g, 0, none⟩ (.agg S'.cs)).run Tryd.prog w = .ok () (w.setRow g (hc S' blk n)) ∧ HB (w.setRow g (hc S' blk n)) g S' blk n := by
  have e : (S.l.map U).length = 8 := by simp [St.l]
  refine ⟨?_, h.len, setRow_heap w g _ _ 63 _ h.row⟩
  have hst := run_storeCells_at Tryd.prog g 0 63 S'.cs.toList 0 _ w h.row (by rw [hc_size _ _ _ h.len]; simp [St.cs]) (fun v hv => by
    have := Array.all_eq_true_iff_forall_mem.1 (cs_one S') v (by simpa using hv)
    exact this)
  have e3 : ((hc S blk n).toList.take (0 + 0) ++ S'.cs.toList ++ (hc S blk n).toList.drop (0 + 0 + S'.cs.toList.length)).toArray = hc S' blk n := by
    unfold hc
    simp only [Nat.add_zero, List.take_zero, List.nil_append, Nat.zero_add]
    rw [show S'.cs.toList.length = (S.l.map U).length by rw [e]; rfl, List.drop_left]
    rfl
  rw [e3] at hst
  have hi := info51
  cases hq : Tryd.prog.info? 51 with
  | none => simp [hq] at hi
  | some i =>
    have hs : i.size = 8 := by simpa [hq] using hi
    simp [storeVar, sizeOf, typeInfo, hq, Value.cells, hs, hst, St.cs]
theorem HB.rd {w : World} {g n : Nat} {S : St} {blk : List UInt8} (h : HB w g S blk n) (o m c : Nat) (ho : o + m ≤ 64) (hm : m ≤ c) : Rd w (some ⟨g, 8 + o, none⟩) m c ((blk.drop o).take m) := by
  have hl := h.len
  refine ⟨by simp; omega, hm, fun _ => ⟨g, 8 + o, rfl, h.lt, fun j hj => ?_⟩⟩
  rw [cell_of_row w g _ _ 63 (0, 0) h.row, getD_part _ _ _ _ hj]
  have e : (S.l.map U).length = 8 := by simp [St.l]
  unfold hc
  rw [List.getElem?_toArray, List.getElem?_append_right (by omega), e, show 8 + o + j - 8 = o + j by omega, List.getElem?_append_left (by simp; omega), List.getElem?_map, List.getElem?_eq_getElem (by omega)]
  simp [List.getD, List.getElem?_eq_getElem (show o + j < blk.length by omega)]
theorem info5 : (Tryd.prog.info? 5).map (·.size) = some 1 := by kernel_rfl
theorem HB.copy {w : World} {g n : Nat} {S : St} {blk : List UInt8} (h : HB w g S blk n) (o : Nat) (ho : o ≤ 64) (A : Option Addr) (m c : Nat) (xs : List UInt8) (hr : Rd w A m c xs) (k : Nat) (hk : k = min m (64 - o)) (ty : TypeId) :
    (Builtin.copy_ #[22, 22] ty #[.slice (some ⟨g, 8 + o, none⟩) (64 - o) (64 - o), .slice A m c]).run Tryd.prog w = .ok (goInt k) (w.setRow g (hc S (blk.take o ++ (xs.take k ++ blk.drop (o + k))) n)) ∧
      HB (w.setRow g (hc S (blk.take o ++ (xs.take k ++ blk.drop (o + k))) n)) g S (blk.take o ++ (xs.take k ++ blk.drop (o + k))) n := by
  have hl := h.len
  have hxl := hr.len
  have e : (S.l.map U).length = 8 := by simp [St.l]
  refine ⟨?_, by simp; omega, setRow_heap w g _ _ 63 _ h.row⟩
  by_cases h0 : k = 0
  · subst h0
    have e2 : blk.take o ++ (xs.take 0 ++ blk.drop (o + 0)) = blk := by simp
    rw [e2, setRow_self w g _ 63 _ h.row]
    rcases Nat.eq_zero_or_pos m with hm | hm
    · subst hm
      rw [run_copy_none w 22 22 ty 5 _ A (64 - o) (64 - o) 0 c Tryd.underlying22 info5 (by simp)]
      rfl
    · have ho64 : o = 64 := by omega
      subst ho64
      rw [run_copy_none w 22 22 ty 5 _ A (64 - 64) (64 - 64) m c Tryd.underlying22 info5 (by simp)]
      rfl
  · obtain ⟨g', o', rfl, _, _⟩ := hr.cells (by omega)
    have hl2 : ((xs.take k).map B).length = k := by simp; omega
    rw [run_copy_row Tryd.prog w 22 22 ty 5 g (8 + o) (64 - o) (64 - o) ⟨g', o', none⟩ m c _ 63 ((xs.take k).map B) Tryd.underlying22 info5 h.row (by rw [hl2]; exact hk) (fun j v hv => hr.src j v (by
      have hj : j < ((xs.take k).map B).length := (List.getElem?_eq_some_iff.1 hv).1
      rw [hl2] at hj
      rw [← hv, List.getElem?_map, List.getElem?_map, List.getElem?_take, if_pos hj])) (by rw [hc_size _ _ _ h.len, hl2]; omega) (B_one _), hl2]
    congr 2
    unfold hc
    have e3 : (List.map U S.l ++ (List.map B blk ++ [I n])).take (8 + o) = List.map U S.l ++ (blk.take o).map B := by
      rw [List.take_append, e, show 8 + o - 8 = o by omega, List.take_of_length_le (by omega), List.take_append_of_le_length (by simp; omega), List.map_take]
    have e4 : (List.map U S.l ++ (List.map B blk ++ [I n])).drop (8 + o + k) = (blk.drop (o + k)).map B ++ [I n] := by
      rw [List.drop_append, e, show 8 + o + k - 8 = o + k by omega, List.drop_of_length_le (by omega), List.nil_append, List.drop_append_of_le_length (by simp; omega), List.map_drop]
    simp only [List.toList_toArray] 
    rw [e3, e4]
    simp
end Go.Proofs.YtnoldhedocejbaaDoor
