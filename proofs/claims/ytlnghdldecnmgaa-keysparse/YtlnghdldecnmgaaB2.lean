/- More plain words on bytes and rows of numbers and texts. Conditions: none. -/
import Derived.Test.YtlnghdldecnmgaaBase
namespace Go.Bs
open Go.RowKit

/-- A slice of ints that came in. -/
structure RdI (w : World) (A : Option Addr) (n c : Nat) (zs : List Int) : Prop where
  len : zs.length = n
  cap : n ≤ c
  wf : ∀ z ∈ zs, -9223372036854775808 ≤ z ∧ z ≤ 9223372036854775807
  cells : 0 < n → ∃ g o, A = some ⟨g, o, none⟩ ∧ g < w.heap.size ∧ ∀ j, j < n → w.cell? ⟨g, o + j, none⟩ = some (.int .i64 (zs.getD j 0))

theorem RdI.keep {w w' : World} {A : Option Addr} {n c : Nat} {zs : List Int} (h : RdI w A n c zs) (hb : Below w.heap.size w w') : RdI w' A n c zs :=
  ⟨h.len, h.cap, h.wf, fun hn => by
    obtain ⟨g, o, e, hg, hc⟩ := h.cells hn
    exact ⟨g, o, e, Nat.lt_of_lt_of_le hg hb.size, fun j hj => (hb.cell (p := ⟨g, o + j, none⟩) hg).trans (hc j hj)⟩⟩

theorem rdI_of_row {w : World} {a : Option Addr} {len cap : Nat} {zs : List Int}
    (h : (a = none ∧ len = 0 ∧ cap = 0 ∧ zs = []) ∨
      ∃ x, a = some x ∧ len ≤ cap ∧ cap ≤ maxLen ∧ zs.length = cap ∧ (∀ i, i < zs.length → w.cell? (x.add i) = some (.int .i64 (zs.getD i 0))) ∧ ∀ n ∈ zs, (Lit.int .i64 n).wf = true) :
    len ≤ maxLen ∧ ∃ ys, RdI w a len cap ys := by
  rcases h with ⟨rfl, rfl, rfl, rfl⟩ | ⟨x, rfl, hl, hm, hz, hc, hw⟩
  · exact ⟨Nat.zero_le _, [], rfl, Nat.le_refl _, by simp, fun h => absurd h (by omega)⟩
  · refine ⟨by omega, zs.take len, by simp; omega, hl, fun z hz => bounds_i64 (hw z (List.mem_of_mem_take hz)), fun hn => ?_⟩
    obtain ⟨g, o, rfl, hc'⟩ := ints_at hc (by omega)
    refine ⟨g, o, rfl, ?_, fun j hj => ?_⟩
    · have := hc' 0 (by omega)
      rcases Nat.lt_or_ge g w.heap.size with hlt | hge
      · exact hlt
      · simp [World.cell?, Array.getElem?_eq_none hge] at this
    · rw [hc' j (by omega)]
      simp [List.getD, hj]

theorem leN_bytes (n m : Nat) : leN ((List.range m).map (byteAt n)) = n % 256 ^ m := by
  induction m with
  | zero => simp [leN, Nat.mod_one]
  | succ m ih =>
    rw [List.range_succ, List.map_append, List.map_cons, List.map_nil, leN_snoc, ih, byteAt_toNat, List.length_map, List.length_range, Nat.pow_succ]
    rw [Nat.mod_mul]

theorem leN_numB (n : Nat) (h : n < 18446744073709551616) : leN (numB n) = n := by
  unfold numB
  rw [leN_bytes]
  exact Nat.mod_eq_of_lt (by simpa using h)

def rows (zs : List Int) : List UInt8 := zs.flatMap fun z => numB z.toNat
theorem rows_length (zs : List Int) : (rows zs).length = 8 * zs.length := by
  induction zs with
  | nil => rfl
  | cons z zs ih => simp only [rows, List.flatMap_cons, List.length_append, numB_length, List.length_cons] at ih ⊢; omega
theorem rows_snoc (zs : List Int) (z : Int) : rows (zs ++ [z]) = rows zs ++ numB z.toNat := by simp [rows]
theorem rows_take_succ (zs : List Int) (k : Nat) (h : k < zs.length) : rows (zs.take (k + 1)) = rows (zs.take k) ++ numB (zs.getD k 0).toNat := by
  rw [List.take_succ_eq_append_getElem h, rows_snoc]
  simp [List.getD, List.getElem?_eq_getElem h]
theorem rows_part (zs : List Int) (k : Nat) (h : k < zs.length) : ((rows zs).drop (8 * k)).take 8 = numB (zs.getD k 0).toNat := by
  induction zs generalizing k with
  | nil => simp at h
  | cons z zs ih =>
    have e : rows (z :: zs) = numB z.toNat ++ rows zs := by simp [rows]
    cases k with
    | zero =>
      rw [e, Nat.mul_zero, List.drop_zero, List.take_left' (numB_length _)]
      rfl
    | succ k =>
      rw [e, show 8 * (k + 1) = (numB z.toNat).length + 8 * k by rw [numB_length]; omega, ← List.drop_drop, List.drop_left' rfl]
      simpa using ih k (by simpa using h)

/-- what At tells at the k-th number of a row. -/
theorem atF_rows (zs : List Int) (k : Nat) (h : k < zs.length) (h0 : 0 ≤ zs.getD k 0) (h1 : zs.getD k 0 ≤ 2147483647) : atF (rows zs) ((8 * k : Nat) : Int) = (zs.getD k 0, ((8 * k : Nat) : Int) + 8, 0) := by
  have hp := rows_part zs k h
  have hl : leN (numB (zs.getD k 0).toNat) = (zs.getD k 0).toNat := leN_numB _ (by omega)
  rw [atF_ok (rows zs) (8 * k) (by rw [rows_length]; omega) (by rw [hp, hl]; omega), hp, hl]
  congr 1
  omega

theorem drop_app (a b : List UInt8) (k : Nat) (h : a.length = k) : (a ++ b).drop k = b := List.drop_left' h
theorem take_app (a b : List UInt8) (k : Nat) (h : a.length = k) : (a ++ b).take k = a := List.take_left' h

/-- what TextAt tells of a text that stands behind bytes and ahead of others. -/
theorem textF_mid (ahead s behind : List UInt8) (hs : s.length ≤ 2147483647) :
    textF (ahead ++ (textB s ++ behind)) (ahead.length : Int) = (s, ((ahead.length + (8 + (s.length + gapN s.length)) : Nat) : Int), 0) := by
  have hall : (ahead ++ (textB s ++ behind)).length = ahead.length + (8 + (s.length + gapN s.length)) + behind.length := by
    rw [List.length_append, List.length_append, textB_length]; omega
  have e0 : (ahead ++ (textB s ++ behind)).drop ahead.length = numB s.length ++ (s ++ (List.replicate (gapN s.length) 0 ++ behind)) := by
    rw [drop_app _ _ _ rfl]; simp [textB]
  have e8 : (ahead ++ (textB s ++ behind)).drop (ahead.length + 8) = s ++ (List.replicate (gapN s.length) 0 ++ behind) := by
    rw [← List.drop_drop, e0, drop_app _ _ _ (numB_length _)]
  have en : (ahead ++ (textB s ++ behind)).drop (ahead.length + 8 + s.length) = List.replicate (gapN s.length) 0 ++ behind := by
    rw [← List.drop_drop, e8, drop_app _ _ _ rfl]
  have hl : leN (((ahead ++ (textB s ++ behind)).drop ahead.length).take 8) = s.length := by
    rw [e0, take_app _ _ _ (numB_length _), leN_numB _ (by omega)]
  have ha := atF_ok (ahead ++ (textB s ++ behind)) ahead.length (by rw [hall]; omega) (by rw [hl]; exact hs)
  rw [hl] at ha
  rw [textF_ok (ahead ++ (textB s ++ behind)) ahead.length s.length _ ha (by rw [hall]; omega) (by rw [en, take_app _ _ _ (by simp)]; simp), e8, take_app _ _ _ rfl]
  congr 2
  omega

theorem byteAt_zero (b : UInt8) (n : Nat) : byteAt (b.toNat + 256 * n) 0 = b := by
  apply UInt8.toNat_inj.1
  rw [byteAt_toNat]
  have := b.toNat_lt
  rw [Nat.pow_zero, Nat.div_one]
  omega
theorem byteAt_succ (b : UInt8) (n k : Nat) : byteAt (b.toNat + 256 * n) (k + 1) = byteAt n k := by
  unfold byteAt
  have hb := b.toNat_lt
  have e : 256 ^ (k + 1) = 256 * 256 ^ k := by rw [Nat.pow_succ, Nat.mul_comm]
  rw [e, ← Nat.div_div_eq_div_mul, show (b.toNat + 256 * n) / 256 = n by omega]
theorem bytes_leN : ∀ l : List UInt8, (List.range l.length).map (byteAt (leN l)) = l
  | [] => rfl
  | b :: r => by
    rw [List.length_cons, List.range_succ_eq_map, List.map_cons, List.map_map, leN, byteAt_zero]
    congr 1
    rw [show (byteAt (b.toNat + 256 * leN r) ∘ Nat.succ) = byteAt (leN r) from funext fun k => byteAt_succ b (leN r) k]
    exact bytes_leN r
theorem numB_leN (l : List UInt8) (h : l.length = 8) : numB (leN l) = l := by
  have := bytes_leN l
  rw [h] at this
  exact this

theorem all_zero (l : List UInt8) (h : l.all (· == 0) = true) : l = List.replicate l.length 0 := by
  rw [List.all_eq_true] at h
  exact List.eq_replicate_iff.2 ⟨rfl, fun b hb => by simpa using h b hb⟩

/-- what is told is put as the same bytes. -/
theorem numB_part (bs : List UInt8) (k m : Nat) (b : Int) (hk : k + 8 ≤ bs.length) (h : atF bs k = ((m : Int), b, 0)) : numB m = (bs.drop k).take 8 := by
  by_cases h2 : 2147483647 < leN ((bs.drop k).take 8)
  · rw [atF_long bs k hk h2] at h; simp at h
  · rw [atF_ok bs k hk (by omega)] at h
    have hm : m = leN ((bs.drop k).take 8) := by
      have := congrArg Prod.fst h
      simp only at this
      omega
    rw [hm, numB_leN _ (by simp; omega)]

theorem textB_part (bs : List UInt8) (k m : Nat) (b : Int) (h : atF bs k = ((m : Int), b, 0)) (h1 : k + 8 + m + gapN m ≤ bs.length)
    (h2 : ((bs.drop (k + 8 + m)).take (gapN m)).all (· == 0) = true) : textB ((bs.drop (k + 8)).take m) = (bs.drop k).take (8 + m + gapN m) := by
  have hl : ((bs.drop (k + 8)).take m).length = m := by simp; omega
  have hz : ((bs.drop (k + 8 + m)).take (gapN m)).length = gapN m := by simp; omega
  have e1 := numB_part bs k m b (by omega) h
  have e2 := all_zero _ h2
  rw [hz] at e2
  unfold textB
  rw [hl, e1, ← e2, Nat.add_assoc 8, List.take_add, List.drop_drop, List.take_add, List.drop_drop]

/-- A slice of strings that came in. -/
structure RdS (w : World) (A : Option Addr) (n c : Nat) (ss : List ByteArray) : Prop where
  len : ss.length = n
  cap : n ≤ c
  sizes : ∀ s ∈ ss, s.size ≤ maxLen
  cells : 0 < n → ∃ g o, A = some ⟨g, o, none⟩ ∧ g < w.heap.size ∧ ∀ j, j < n → w.cell? ⟨g, o + j, none⟩ = some (.string (ss.getD j ByteArray.empty))

theorem rdS_of_row {w : World} {a : Option Addr} {len cap : Nat} {ss : List ByteArray}
    (h : (a = none ∧ len = 0 ∧ cap = 0 ∧ ss = []) ∨
      ∃ x, a = some x ∧ len ≤ cap ∧ cap ≤ maxLen ∧ ss.length = cap ∧ (∀ i, i < ss.length → w.cell? (x.add i) = some (.string (ss.getD i ByteArray.empty))) ∧ ∀ s ∈ ss, s.size ≤ maxLen) :
    len ≤ maxLen ∧ ∃ ys, RdS w a len cap ys := by
  rcases h with ⟨rfl, rfl, rfl, rfl⟩ | ⟨⟨g, o, spot⟩, rfl, hl, hm, hz, hc, hw⟩
  · exact ⟨Nat.zero_le _, [], rfl, Nat.le_refl _, by simp, fun h => absurd h (by omega)⟩
  · refine ⟨by omega, ss.take len, by simp; omega, hl, fun z hz => hw z (List.mem_of_mem_take hz), fun hn => ?_⟩
    have hspot : spot = none := by simpa [Addr.add] using World.cell?_spot (hc 0 (by omega))
    subst hspot
    refine ⟨g, o, rfl, ?_, fun j hj => ?_⟩
    · have := hc 0 (by omega)
      rcases Nat.lt_or_ge g w.heap.size with hlt | hge
      · exact hlt
      · rw [addr_add] at this; simp [World.cell?, Array.getElem?_eq_none hge] at this
    · have := hc j (by omega)
      rw [addr_add] at this
      rw [this]
      simp [List.getD, hj]

/-- texts one behind the other. -/
def texts (ss : List ByteArray) : List UInt8 := ss.flatMap fun s => textB s.data.toList
theorem texts_snoc (ss : List ByteArray) (s : ByteArray) : texts (ss ++ [s]) = texts ss ++ textB s.data.toList := by simp [texts]
theorem texts_take_succ (ss : List ByteArray) (k : Nat) (h : k < ss.length) : texts (ss.take (k + 1)) = texts (ss.take k) ++ textB (ss.getD k ByteArray.empty).data.toList := by
  rw [List.take_succ_eq_append_getElem h, texts_snoc]
  simp [List.getD, List.getElem?_eq_getElem h]
theorem texts_split (ss : List ByteArray) (k : Nat) (h : k < ss.length) : texts ss = texts (ss.take k) ++ (textB (ss.getD k ByteArray.empty).data.toList ++ texts (ss.drop (k + 1))) := by
  have e : ss = ss.take k ++ ([ss[k]] ++ ss.drop (k + 1)) := by
    rw [List.singleton_append, ← List.drop_eq_getElem_cons h, List.take_append_drop]
  have e2 : ss.getD k ByteArray.empty = ss[k] := by simp [List.getD, List.getElem?_eq_getElem h]
  rw [e2]
  have : texts ss = texts (ss.take k ++ ([ss[k]] ++ ss.drop (k + 1))) := by rw [← e]
  rw [this]
  unfold texts
  rw [List.flatMap_append, List.flatMap_append, List.flatMap_singleton]

end Go.Bs
