/- Plain words on byte slices, and on numbers and texts as bytes. Conditions: none. -/
import Derived.WalkKit
import Derived.WalkLawsBesides
import Derived.Below
import Derived.Lib.Hide
import Derived.Laws.CopyOwn
import Derived.Laws.BytesArg
import Derived.Laws.OwnMore
import Derived.Laws.BitsAllLaws
import Derived.Lib.BufferWrite
import Derived.Deep.OwnRows
import Derived.OwnWalk
import Derived.OpenShut
import Derived.Lib.ConvBytes
import Derived.Maps.AppendAt
import Derived.Deep.AppendLies
namespace Go.Bs
open Go.RowKit

/-- The cell of a byte. -/
abbrev B (x : UInt8) : Value := .int .u8 (x.toNat : Int)

/-- The slice (A, n, c) reads as the bytes bs, out of blocks that are there. -/
structure Rd (w : World) (A : Option Addr) (n c : Nat) (bs : List UInt8) : Prop where
  len : bs.length = n
  cap : n ≤ c
  cells : 0 < n → ∃ g o, A = some ⟨g, o, none⟩ ∧ g < w.heap.size ∧ ∀ j, j < n → w.cell? ⟨g, o + j, none⟩ = some (B (bs.getD j 0))

theorem Rd.nil (w : World) (A : Option Addr) (c : Nat) : Rd w A 0 c [] := ⟨rfl, Nat.zero_le _, fun h => absurd h (by omega)⟩

theorem Rd.keep {w w' : World} {A : Option Addr} {n c : Nat} {bs : List UInt8} (h : Rd w A n c bs) (hb : Below w.heap.size w w') : Rd w' A n c bs :=
  ⟨h.len, h.cap, fun hn => by
    obtain ⟨g, o, e, hg, hc⟩ := h.cells hn
    exact ⟨g, o, e, Nat.lt_of_lt_of_le hg hb.size, fun j hj => (hb.cell (p := ⟨g, o + j, none⟩) hg).trans (hc j hj)⟩⟩

theorem Rd.capped {w : World} {A : Option Addr} {n c : Nat} {bs : List UInt8} (h : Rd w A n c bs) (c' : Nat) (hc : n ≤ c') : Rd w A n c' bs := ⟨h.len, hc, h.cells⟩
theorem Rd.drew {w : World} {A : Option Addr} {n c : Nat} {bs : List UInt8} (h : Rd w A n c bs) : Rd w.drew A n c bs := ⟨h.len, h.cap, h.cells⟩
theorem Rd.drewN {w : World} {A : Option Addr} {n c : Nat} {bs : List UInt8} (h : Rd w A n c bs) (k : Nat) : Rd (w.drewN k) A n c bs := ⟨h.len, h.cap, h.cells⟩

/-- Of a whole block of bytes. -/
def Blk (w : World) (g : Nat) (t : TypeId) (bs : List UInt8) : Prop := w.heap[g]? = some (.cells (bs.map B).toArray t (0, 0))

theorem Blk.lt {w : World} {g t : Nat} {bs : List UInt8} (h : Blk w g t bs) : g < w.heap.size := by
  rcases Nat.lt_or_ge g w.heap.size with hlt | hge
  · exact hlt
  · unfold Blk at h; rw [Array.getElem?_eq_none hge] at h; cases h

theorem Blk.cell {w : World} {g t : Nat} {bs : List UInt8} (h : Blk w g t bs) (i : Nat) (hi : i < bs.length) : w.cell? ⟨g, i, none⟩ = some (B (bs.getD i 0)) := by
  rw [cell_of_row w g i _ t (0, 0) h]
  simp [List.getElem?_eq_getElem hi]

theorem Blk.frozen {w : World} {g t : Nat} {bs : List UInt8} (h : Blk w g t bs) (i : Nat) : w.frozen? ⟨g, i, none⟩ = false := by
  unfold Blk at h
  simp [World.frozen?, h]

theorem Blk.keep {w w' : World} {g t N : Nat} {bs : List UInt8} (h : Blk w g t bs) (hb : Below N w w') (hg : g < N) : Blk w' g t bs := (hb.block g hg).trans h

theorem Blk.set {w : World} {g t : Nat} {bs : List UInt8} (h : Blk w g t bs) (i : Nat) (x : UInt8) : Blk (w.setCell ⟨g, i, none⟩ (B x)) g t (bs.set i x) := by
  unfold Blk at h ⊢
  simp [World.setCell, Array.getElem?_modify, h, List.map_set]

theorem getD_get (bs : List UInt8) (k : Nat) (h : k < bs.length) : bs.getD k 0 = bs[k] := by simp [List.getD, List.getElem?_eq_getElem h]

theorem getD_part (bs : List UInt8) (o n j : Nat) (hj : j < n) : ((bs.drop o).take n).getD j 0 = bs.getD (o + j) 0 := by
  simp [List.getD, hj, List.getElem?_drop]

/-- A block's part, as a slice. -/
theorem Blk.rd {w : World} {g t : Nat} {bs : List UInt8} (h : Blk w g t bs) (o n c : Nat) (hn : o + n ≤ bs.length) (hc : n ≤ c) : Rd w (some ⟨g, o, none⟩) n c ((bs.drop o).take n) :=
  ⟨by simp; omega, hc, fun _ => ⟨g, o, rfl, h.lt, fun j hj => by
    rw [h.cell (o + j) (by omega), getD_part bs o n j hj]⟩⟩

theorem Blk.all {w : World} {g t : Nat} {bs : List UInt8} (h : Blk w g t bs) (c : Nat) (hc : bs.length ≤ c) : Rd w (some ⟨g, 0, none⟩) bs.length c bs := by
  have := h.rd 0 bs.length c (by omega) hc
  simpa using this

theorem Blk.all' {w : World} {g t : Nat} {bs : List UInt8} (h : Blk w g t bs) (n c : Nat) (hn : bs.length = n) (hc : n ≤ c) : Rd w (some ⟨g, 0, none⟩) n c bs := by
  subst hn; exact h.all c hc

/-- A part of a slice. -/
theorem Rd.part {w : World} {g o n c : Nat} {bs : List UInt8} (h : Rd w (some ⟨g, o, none⟩) n c bs) (i m c' : Nat) (hi : i + m ≤ n) (hc : m ≤ c') : Rd w (some ⟨g, o + i, none⟩) m c' ((bs.drop i).take m) :=
  ⟨by have := h.len; simp; omega, hc, fun hm => by
    obtain ⟨g', o', e, hg, hcell⟩ := h.cells (by omega)
    injection e with e
    injection e with e1 e2
    subst e1 e2
    refine ⟨_, _, rfl, hg, fun j hj => ?_⟩
    rw [Nat.add_assoc, hcell (i + j) (by omega), getD_part bs i m j hj]⟩

/-- A slice of bytes that came in. -/
theorem rd_of_row {w : World} {a : Option Addr} {len cap : Nat} {zs : List Int}
    (h : (a = none ∧ len = 0 ∧ cap = 0 ∧ zs = []) ∨
      ∃ x, a = some x ∧ len ≤ cap ∧ cap ≤ maxLen ∧ zs.length = cap ∧ (∀ i, i < zs.length → w.cell? (x.add i) = some (.int .u8 (zs.getD i 0))) ∧ ∀ n ∈ zs, (Lit.int .u8 n).wf = true) :
    len ≤ maxLen ∧ ∃ bs, Rd w a len cap bs := by
  rcases h with ⟨rfl, rfl, rfl, rfl⟩ | ⟨x, rfl, hl, hm, hz, hc, hw⟩
  · exact ⟨Nat.zero_le _, [], Rd.nil _ _ _⟩
  · refine ⟨by omega, (zs.take len).map fun n => UInt8.ofNat n.toNat, by simp; omega, hl, fun hn => ?_⟩
    obtain ⟨g, o, rfl, hc'⟩ := ints_at hc (by omega)
    refine ⟨g, o, rfl, ?_, fun j hj => ?_⟩
    · have := hc' 0 (by omega)
      rcases Nat.lt_or_ge g w.heap.size with hlt | hge
      · exact hlt
      · simp [World.cell?, Array.getElem?_eq_none hge] at this
    · have hjz : j < zs.length := by omega
      rw [hc' j hjz]
      have hw' := hw zs[j] (List.getElem_mem hjz)
      have hb := bounds_u8 hw'
      have e : ((zs.take len).map fun n => UInt8.ofNat n.toNat).getD j 0 = UInt8.ofNat (zs[j]).toNat := by
        simp [List.getD, hj, List.getElem?_eq_getElem hjz]
      rw [e]
      have e2 : zs.getD j 0 = zs[j] := by simp [List.getD, List.getElem?_eq_getElem hjz]
      rw [e2]
      show some (Value.int .u8 zs[j]) = some (Value.int .u8 ((UInt8.ofNat (zs[j]).toNat).toNat : Int))
      have e3 : ((UInt8.ofNat (zs[j]).toNat).toNat : Int) = zs[j] := by simp; omega
      rw [e3]

/-! numbers as bytes, the lowest first -/
def leN : List UInt8 → Nat
  | [] => 0
  | b :: r => b.toNat + 256 * leN r

def byteAt (n k : Nat) : UInt8 := UInt8.ofNat (n / 256 ^ k)
def numB (n : Nat) : List UInt8 := (List.range 8).map (byteAt n)
def gapN (n : Nat) : Nat := (8 - n % 8) % 8
def textB (s : List UInt8) : List UInt8 := numB s.length ++ (s ++ List.replicate (gapN s.length) 0)

theorem numB_length (n : Nat) : (numB n).length = 8 := by simp [numB]
theorem gapN_lt (n : Nat) : gapN n < 8 := by unfold gapN; omega
theorem gapN_mod (n : Nat) : (n + gapN n) % 8 = 0 := by unfold gapN; omega
theorem textB_length (s : List UInt8) : (textB s).length = 8 + (s.length + gapN s.length) := by simp [textB, numB_length]

theorem leN_lt : ∀ l : List UInt8, leN l < 256 ^ l.length
  | [] => by simp [leN]
  | b :: r => by
    have h := leN_lt r
    have hb : b.toNat < 256 := b.toNat_lt
    simp only [leN, List.length_cons, Nat.pow_succ]
    omega

theorem leN_snoc (l : List UInt8) (b : UInt8) : leN (l ++ [b]) = leN l + 256 ^ l.length * b.toNat := by
  induction l with
  | nil => simp [leN]
  | cons a r ih => simp only [List.cons_append, leN, ih, List.length_cons, Nat.pow_succ]; rw [Nat.mul_add, ← Nat.mul_assoc, Nat.mul_comm 256 (256 ^ r.length)]; omega

theorem byteAt_toNat (n k : Nat) : (byteAt n k).toNat = n / 256 ^ k % 256 := by simp [byteAt]

theorem or_step (m k : Nat) (x : UInt8) (hk : k < 8) (hm : m < 256 ^ k) :
    bits .or .u64 (m : Int) (IntKind.u64.wrap (IntKind.u64.wrap (x.toNat : Int) * 2 ^ (8 * k))) = ((m + 256 ^ k * x.toNat : Nat) : Int) := by
  have hx : x.toNat < 256 := x.toNat_lt
  have e1 : (2 : Nat) ^ (8 * k) = 256 ^ k := by rw [Nat.pow_mul]
  have e2 : ((2 : Int) ^ (8 * k)) = ((256 ^ k : Nat) : Int) := by rw [← e1]; simp
  have hp : 256 ^ k ≤ 72057594037927936 := by
    have : (256 : Nat) ^ k ≤ 256 ^ 7 := Nat.pow_le_pow_right (by omega) (by omega)
    simpa using this
  have hle : x.toNat * 256 ^ k ≤ 255 * 72057594037927936 := Nat.mul_le_mul (by omega) hp
  have w1 : IntKind.u64.wrap (x.toNat : Int) = x.toNat := by rw [IntKind.wrap_u64]; omega
  have w2 : IntKind.u64.wrap ((x.toNat : Int) * 2 ^ (8 * k)) = ((256 ^ k * x.toNat : Nat) : Int) := by
    rw [e2, ← Int.natCast_mul, Nat.mul_comm, IntKind.wrap_u64]
    rw [Nat.mul_comm] at hle
    omega
  rw [w1, w2, u64_or_nat m _ (by omega) (by rw [Nat.mul_comm]; omega)]
  congr 1
  rw [Nat.or_comm, ← e1, ← Nat.two_pow_add_eq_or_of_lt (by rw [e1]; exact hm), Nat.add_comm]

theorem take_snoc (bs : List UInt8) (k : Nat) (h : k < bs.length) : bs.take (k + 1) = bs.take k ++ [bs.getD k 0] := by
  rw [List.take_succ_eq_append_getElem h, getD_get _ _ h]

theorem leN_take_succ (bs : List UInt8) (k : Nat) (h : k < bs.length) : leN (bs.take (k + 1)) = leN (bs.take k) + 256 ^ k * (bs.getD k 0).toNat := by
  rw [take_snoc bs k h, leN_snoc]
  simp [Nat.min_eq_left (Nat.le_of_lt h)]

theorem leN_take_lt (bs : List UInt8) (k : Nat) : leN (bs.take k) < 256 ^ k :=
  Nat.lt_of_lt_of_le (leN_lt _) (Nat.pow_le_pow_right (by omega) (List.length_take_le _ _))

theorem byteAt_val (n k : Nat) : Value.int .u8 ((n : Int) / 2 ^ (8 * k) % 256) = B (byteAt n k) := by
  have e1 : (2 : Nat) ^ (8 * k) = 256 ^ k := by rw [Nat.pow_mul]
  have e2 : ((2 : Int) ^ (8 * k)) = ((256 ^ k : Nat) : Int) := by rw [← e1]; simp
  rw [e2]
  show _ = Value.int .u8 ((byteAt n k).toNat : Int)
  rw [byteAt_toNat]
  congr 1

theorem numB_getD (n k : Nat) (h : k < 8) : (numB n).getD k 0 = byteAt n k := by simp [numB, List.getD, h]

theorem set_step (bs : List UInt8) (n o k : Nat) (ho : o + 8 ≤ bs.length) (hk : k < 8) :
    (bs.take o ++ ((numB n).take k ++ bs.drop (o + k))).set (o + k) (byteAt n k) = bs.take o ++ ((numB n).take (k + 1) ++ bs.drop (o + (k + 1))) := by
  rw [List.set_append_right _ _ (by simp; omega), List.set_append_right _ _ (by simp [numB_length]; omega)]
  have hl1 : (bs.take o).length = o := by simp; omega
  have hl2 : ((numB n).take k).length = k := by simp [numB_length]; omega
  rw [hl1, hl2, show o + k - o - k = 0 by omega, take_snoc (numB n) k (by rw [numB_length]; exact hk), numB_getD n k hk]
  have hd : bs.drop (o + k) = bs[o + k] :: bs.drop (o + (k + 1)) := by rw [← Nat.add_assoc]; exact List.drop_eq_getElem_cons (by omega)
  rw [hd]
  simp

theorem grown_set {w wr : World} {g : Nat} (h : w.grownBy wr (some g)) (i : Nat) (u : Value) : w.grownBy (wr.setCell ⟨g, i, none⟩ u) (some g) :=
  ⟨h.os, h.tape, h.output, by simpa [World.setCell] using h.size, fun k hk hne => (Below.heap_setCell wr ⟨g, i, none⟩ u k (fun e => hne (by rw [e]))).trans (h.block k hk hne)⟩

/-! a block of bytes that was just made -/
def rowObj (t : TypeId) (bs : List UInt8) : Obj := .cells (bs.map B).toArray t (0, 0)
def zeros (n : Nat) : List UInt8 := List.replicate n 0
theorem zeros_length (n : Nat) : (zeros n).length = n := by simp [zeros]

theorem madeCells_zeros (n : Nat) : madeCells #[.int .u8 0] n = ((zeros n).map B).toArray := by
  apply Array.ext
  · simp [madeCells, zeros]
  · intro i h1 h2
    simp [madeCells, zeros, Nat.mod_one]

theorem Blk.new (w : World) (t : TypeId) (bs : List UInt8) : Blk (w.alloc (rowObj t bs)) w.heap.size t bs := heap_alloc_new w _

theorem setRow_new (w : World) (t : TypeId) (a b : List UInt8) : (w.alloc (rowObj t a)).setRow w.heap.size (b.map B).toArray = w.alloc (rowObj t b) := by
  show World.setRow { w with heap := w.heap.push (rowObj t a) } w.heap.size (b.map B).toArray = { w with heap := w.heap.push (rowObj t b) }
  simp only [World.setRow]
  congr 1
  apply Array.ext
  · simp
  · intro i h1 h2
    simp only [Array.getElem_modify, Array.getElem_push]
    by_cases hi : i < w.heap.size
    · rw [if_neg (by omega)]
      simp [hi]
    · have : i = w.heap.size := by simp at h1; omega
      subst this
      simp [rowObj]

theorem Blk.setRow {w : World} {g t : Nat} {a : List UInt8} (h : Blk w g t a) (b : List UInt8) : Blk (w.setRow g (b.map B).toArray) g t b := setRow_heap w g _ _ t _ h

theorem grown_setRow (w : World) (g : Nat) (cs : Array Value) : w.grownBy (w.setRow g cs) (some g) :=
  ⟨rfl, rfl, rfl, by simp, fun k _ hne => setRow_other w g k cs (fun e => hne (by rw [e]))⟩

section
variable {P : Program}

theorem addr_add (g o j : Nat) : (⟨g, o, none⟩ : Addr).add j = ⟨g, o + j, none⟩ := by unfold Addr.add; split <;> simp_all

theorem B_one (bs : List UInt8) : ∀ v ∈ bs.map B, v.oneCell' = true := by
  intro v hv
  obtain ⟨x, _, rfl⟩ := List.mem_map.1 hv
  rfl

theorem Rd.src {w : World} {g o n c : Nat} {bs : List UInt8} (h : Rd w (some ⟨g, o, none⟩) n c bs) : ∀ j v, (bs.map B)[j]? = some v → w.cell? ((⟨g, o, none⟩ : Addr).add j) = some v := by
  intro j v hv
  have hl := h.len
  rcases Nat.lt_or_ge j n with hj | hj
  · obtain ⟨g', o', e, _, hc⟩ := h.cells (by omega)
    injection e with e
    injection e with e1 e2
    subst e1 e2
    rw [addr_add, hc j hj, ← hv]
    simp [List.getElem?_eq_getElem (show j < bs.length by omega)]
  · rw [List.getElem?_eq_none (by simp; omega)] at hv
    cases hv

/-- copy out of a slice into a block that is known whole. -/
theorem run_copy_rd (w : World) (dT sT ty elem : TypeId) (hu : P.underlying dT = some (.slice elem)) (hs : (P.info? elem).map (·.size) = some 1)
    (g o dLen dCap t : Nat) (cur : List UInt8) (hb : Blk w g t cur) (A : Option Addr) (n c : Nat) (bs : List UInt8) (hr : Rd w A n c bs) (hd : n ≤ dLen) (hfit : o + n ≤ cur.length) :
    (Builtin.copy_ #[dT, sT] ty #[.slice (some ⟨g, o, none⟩) dLen dCap, .slice A n c]).run P w = .ok (goInt n) (w.setRow g ((cur.take o ++ (bs ++ cur.drop (o + n))).map B).toArray) := by
  have hl := hr.len
  by_cases h0 : n = 0
  · subst h0
    obtain rfl : bs = [] := List.eq_nil_of_length_eq_zero hl
    rw [run_copy_none w dT sT ty elem _ A dLen dCap 0 c hu hs (by simp)]
    have e : cur.take o ++ ([] ++ cur.drop (o + 0)) = cur := by simp
    rw [e, setRow_self w g _ t _ hb]
    rfl
  · obtain ⟨g', o', rfl, _, _⟩ := hr.cells (by omega)
    rw [run_copy_row P w dT sT ty elem g o dLen dCap ⟨g', o', none⟩ n c (cur.map B).toArray t (bs.map B) hu hs hb (by rw [List.length_map, hl]; exact (Nat.min_eq_left hd).symm) hr.src (by simp; omega) (B_one bs)]
    simp [hl]

theorem run_copy_str (w : World) (dT sT ty elem : TypeId) (hu : P.underlying dT = some (.slice elem)) (hs : (P.info? elem).map (·.size) = some 1)
    (g o dLen dCap t : Nat) (cur : List UInt8) (hb : Blk w g t cur) (s : ByteArray) (hd : s.size ≤ dLen) (hfit : o + s.size ≤ cur.length) :
    (Builtin.copy_ #[dT, sT] ty #[.slice (some ⟨g, o, none⟩) dLen dCap, .string s]).run P w = .ok (goInt s.size) (w.setRow g ((cur.take o ++ (s.data.toList ++ cur.drop (o + s.size))).map B).toArray) := by
  rw [Lib.run_copy_row_string w dT sT ty elem g o dLen dCap s (cur.map B).toArray t hu hs hb hd (by simpa using hfit)]
  simp [Lib.byteCells]

/-- string(b) of a slice that reads as bs. -/
theorem run_string_rd (w : World) (src dst e : TypeId) (hs : P.underlying src = some (.slice e)) (he : P.underlying e = some (.int .u8)) (hd : P.underlying dst = some .string)
    (A : Option Addr) (n c : Nat) (bs : List UInt8) (hr : Rd w A n c bs) : (convert src dst (.slice A n c)).run P w = .ok (.string ⟨bs.toArray⟩) w := by
  have hl := hr.len
  by_cases h0 : n = 0
  · subst h0
    obtain rfl : bs = [] := List.eq_nil_of_length_eq_zero hl
    rcases A with _ | ad
    · rw [run_convert_bytes_nil w src e hs he 0 c dst hd]
      rfl
    · rw [run_convert_bytes_string w src dst e _ 0 c hs he hd]
      simp [Conv.bytesToString, loadCells]
      rfl
  · obtain ⟨g, o, rfl, _, hc⟩ := hr.cells (by omega)
    rw [run_convert_bytes_arg w src e hs he g o n c (bs.map fun b => (b.toNat : Int)) (by simpa using hl) (fun i hi => by
      rw [hc i hi, getD_get bs i (by omega)]
      simp [List.getElem?_eq_getElem (show i < bs.length by omega)]) dst hd]
    congr 2
    simp [strOfNums]
    exact (List.map_congr_left (fun x _ => by simp)).trans (List.map_id bs)

end

theorem below_new {w w' : World} {o : Obj} (hG : (w.alloc o).grownBy w' (some w.heap.size)) : Below w.heap.size w w' :=
  ((Below.refl _ _).alloc (Nat.le_refl _) _).grown hG (by simp) (fun k hk => by injection hk with hk; omega)

theorem zeros_drop (a b : Nat) : (zeros (a + b)).drop a = zeros b := by simp [zeros]

theorem drop_room (bs : List UInt8) (n a m : Nat) (hn : bs.length = n) : (bs ++ zeros (a + m)).drop (n + a) = zeros m := by
  subst hn
  rw [List.drop_append, List.drop_eq_nil_of_le (by omega), show bs.length + a - bs.length = a by omega, zeros_drop]
  rfl

theorem text_splice (bs s : List UInt8) (n m q : Nat) (hn : bs.length = n) (hm : s.length = m) (hq : gapN m = q) :
    (bs ++ (numB m ++ zeros (m + q))).take (n + 8) ++ (s ++ (bs ++ (numB m ++ zeros (m + q))).drop (n + 8 + m)) = bs ++ textB s := by
  have h8 : (bs ++ numB m).length = n + 8 := by rw [List.length_append, numB_length, hn]
  rw [← List.append_assoc bs, drop_room (bs ++ numB m) (n + 8) m q h8, ← h8, List.take_left' rfl]
  subst hm hq
  simp [textB, zeros]

theorem below_step {w W w' : World} (h : Below w.heap.size w W) (k : Below W.heap.size W w') : Below w.heap.size w w' := h.trans (k.mono h.size)

/-! what the call itself appends to -/
def sliceLen : Value → Nat | .slice _ n _ => n | _ => 0

def Own (w : World) (base e : Nat) (v : Value) (bs : List UInt8) : Prop := w.ownsRow base e 1 v bs.length (bs.map B)

theorem Own.nil (w : World) (base e : Nat) : Own w base e (.slice none 0 0) [] := ⟨by simp, .inl ⟨rfl, rfl⟩⟩

theorem Own.empty (w : World) (e : Nat) : Own (w.alloc (.cells #[] e)) w.heap.size e (.slice (some ⟨w.heap.size, 0, none⟩) 0 0) [] :=
  ⟨by simp, .inr ⟨w.heap.size, 0, #[], rfl, Nat.le_refl _, heap_alloc_new w _, Nat.le_refl _, by simp [maxLen], by simp, by simp⟩⟩

theorem Own.rd {w : World} {base e : Nat} {v : Value} {bs : List UInt8} (h : Own w base e v bs) : ∃ A c, v = .slice A bs.length c ∧ Rd w A bs.length c bs := by
  rcases h.2 with ⟨rfl, h0⟩ | ⟨g, cap, cur, rfl, _, hg, hnc, _, hsz, htk⟩
  · obtain rfl : bs = [] := List.eq_nil_of_length_eq_zero h0
    exact ⟨none, 0, rfl, Rd.nil _ _ _⟩
  · refine ⟨_, _, rfl, rfl, hnc, fun hn => ⟨g, 0, rfl, ?_, fun j hj => ?_⟩⟩
    · rcases Nat.lt_or_ge g w.heap.size with hlt | hge
      · exact hlt
      · rw [Array.getElem?_eq_none hge] at hg; cases hg
    · have := h.cells (g := g) rfl j (B bs[j]) (by simp [List.getElem?_eq_getElem hj])
      rw [addr_add] at this
      rw [getD_get bs j hj]
      exact this

/-- what is owned, with its length as the caller knows it. -/
theorem Own.slice {w : World} {base e : Nat} {v : Value} {bs : List UInt8} (h : Own w base e v bs) (n : Nat) (hn : bs.length = n) : ∃ A c, v = .slice A n c ∧ Rd w A n c bs := by
  subst hn; exact h.rd

theorem Own.keep {w w' : World} {base e : Nat} {v : Value} {bs : List UInt8} (h : Own w base e v bs) (hb : Below w.heap.size w w') : Own w' base e v bs := by
  refine ⟨h.1, ?_⟩
  rcases h.2 with h0 | ⟨g, cap, cur, hv, hbg, hg, hr⟩
  · exact .inl h0
  · refine .inr ⟨g, cap, cur, hv, hbg, ?_, hr⟩
    rw [hb.block g ?_, hg]
    rcases Nat.lt_or_ge g w.heap.size with hlt | hge
    · exact hlt
    · rw [Array.getElem?_eq_none hge] at hg; cases hg

theorem Own.alloc {w : World} {base e : Nat} {v : Value} {bs : List UInt8} (h : Own w base e v bs) (o : Obj) : Own (w.alloc o) base e v bs := h.keep ((Below.refl _ _).alloc (Nat.le_refl _) o)

theorem Rd.alloc {w : World} {A : Option Addr} {n c : Nat} {bs : List UInt8} (h : Rd w A n c bs) (o : Obj) : Rd (w.alloc o) A n c bs := h.keep ((Below.refl _ _).alloc (Nat.le_refl _) o)

theorem one_rd (w : World) (t : Nat) (x : UInt8) (v : Value) (hv : v = B x) : Rd (w.alloc (.cells #[v] t)) (some ⟨w.heap.size, 0, none⟩) 1 1 [x] := by
  subst hv
  exact (Blk.new w t [x]).all 1 (Nat.le_refl _)

theorem Own.base {w : World} {base e : Nat} {v : Value} {bs : List UInt8} (h : Own w base e v bs) : ∀ k, v.ownBlock = some k → base ≤ k := by
  intro k hk
  rcases h.2 with ⟨rfl, h0⟩ | ⟨g, cap, cur, rfl, hb, _⟩
  · simp [Value.ownBlock] at hk
  · have : g = k := by simpa [Value.ownBlock] using hk
    omega

section
variable {P : Program}
theorem run_app (w : World) (base t ty e : Nat) (ht : P.underlying t = some (.slice e)) (hinfo : (P.info? e).map (fun i => (i.zero, i.size, i.bytes)) = some (some (.int .u8 0), 1, 1))
    (v : Value) (bs : List UInt8) (hown : Own w base e v bs) (A : Option Addr) (m c : Nat) (xs : List UInt8) (hr : Rd w A m c xs) (hsz : bs.length + m ≤ 70368744177664) (hbase : base ≤ w.heap.size) :
    ∃ v' w', (Builtin.append_ #[t, t] ty #[v, .slice A m c]).run P w = .ok v' w' ∧ Own w' base e v' (bs ++ xs) ∧ Below base w w' := by
  obtain ⟨i, hi, hz, hs1, hby⟩ := info_parts hinfo
  have hl := hr.len
  rcases A with _ | ad
  · have hm : m = 0 := by
      rcases Nat.eq_zero_or_pos m with h0 | h0
      · exact h0
      · obtain ⟨_, _, h, _⟩ := hr.cells h0
        cases h
    subst hm
    obtain rfl : xs = [] := List.eq_nil_of_length_eq_zero hl
    refine ⟨v, w, ?_, by simpa using hown, Below.refl _ _⟩
    rcases hown.2 with ⟨rfl, _⟩ | ⟨g, cap, cur, rfl, _, _, hnc, _⟩
    · simp [Builtin.append_, run_underlying ht, sizeOf, typeInfo, hi, Builtin.lenOf, Builtin.firstCells]
    · simp [Builtin.append_, run_underlying ht, sizeOf, typeInfo, hi, Builtin.lenOf, Builtin.firstCells, hnc, storeCells]
  · have hcells : ∀ j u, (xs.map B)[j]? = some u → w.cell? (ad.add j) = some u := by
      intro j u hu
      rcases Nat.eq_zero_or_pos m with h0 | h0
      · subst h0
        obtain rfl : xs = [] := List.eq_nil_of_length_eq_zero hl
        simp at hu
      · obtain ⟨g, o, h, _, _⟩ := hr.cells h0
        injection h with h
        subst h
        exact hr.src j u hu
    obtain ⟨v', w', hrun, h2, h3, _, _⟩ := run_append_own_at (P := P) w base t ty e i _ 1 1 ht hi hz hs1 hby rfl (by omega) v bs.length (bs.map B) hown ad m c (xs.map B) (by simp [hl]) hcells (B_one xs)
      (by unfold maxLen; omega) (by omega) hbase
    refine ⟨v', w', hrun, ?_, (Below.refl _ _).grown h3 hbase hown.base⟩
    unfold Own
    rw [List.length_append, hl, List.map_append]
    exact h2

/-- []byte(s). -/
theorem run_bytes_str (w : World) (src dst e : Nat) (hs : P.underlying src = some .string) (hd : P.underlying dst = some (.slice e)) (he : P.underlying e = some (.int .u8)) (s : ByteArray) :
    ∃ c w', (convert src dst (.string s)).run P w = .ok (.slice (some ⟨w.heap.size, 0, none⟩) s.size c) w' ∧ Rd w' (some ⟨w.heap.size, 0, none⟩) s.size c s.data.toList ∧ Below w.heap.size w w' := by
  refine ⟨_, _, Lib.run_convert_string_bytes w src dst e s hs hd he, ⟨by simp, grownCap_ge _ _ _ _, fun _ => ⟨_, 0, rfl, ?_, fun j hj => ?_⟩⟩, rfl, rfl, rfl, ?_, fun k hk => ?_⟩
  · rw [Lib.bytesWorld_size]; omega
  · rw [Nat.zero_add]
    exact Lib.bytesWorld_cell w e s j hj
  · rw [Lib.bytesWorld_size]; omega
  · exact Lib.bytesWorld_at_old w e s k hk

theorem wpList_app (w : World) {ops : Array Oper} {rest : List Oper} {o : Oper} {a : Act} {Q : Exit → Act → World → Prop} (hgd : o.guard = none) (s x : Operand) (t : TypeId)
    (ho : o.op = .call { callee := .builtin .append, args := #[s, x], argTypes := #[t, t] })
    (base e : Nat) (ht : P.underlying t = some (.slice e)) (hinfo : (P.info? e).map (fun i => (i.zero, i.size, i.bytes)) = some (some (.int .u8 0), 1, 1))
    (v : Value) (bs : List UInt8) (hs : a.eval s = v) (hown : Own w base e v bs) (A : Option Addr) (m c : Nat) (xs : List UInt8) (hx : a.eval x = .slice A m c) (hr : Rd w A m c xs) (hsz : bs.length + m ≤ 70368744177664) (hbase : base ≤ w.heap.size)
    (h : ∀ v' w', Own w' base e v' (bs ++ xs) → Below base w w' → wpList P ops Q rest (a.put o.dst v') w') : wpList P ops Q (o :: rest) a w := by
  refine wpList_plain hgd fun K hK => ?_
  obtain ⟨v', w', hrun, h2, h3⟩ := run_app (P := P) w base t o.type e ht hinfo v bs hown A m c xs hr hsz hbase
  unfold Oper.wp execOp
  simp only [ho, resolve, invoke, builtin, Sem.run_bind, Sem.run_pure, Result.andThen_ok, List.map_toArray, List.map_cons, List.map_nil, hs, hx, hrun]
  exact hK _ _ (h v' w' h2 h3)
end

theorem textB_take_mod (s : List UInt8) : (textB s).length % 8 = 0 := by
  rw [textB_length]; have := gapN_mod s.length; omega

/-- the text behind j of its last noughts. -/
def textTo (s : List UInt8) (j : Nat) : List UInt8 := numB s.length ++ (s ++ zeros j)
theorem textTo_length (s : List UInt8) (j : Nat) : (textTo s j).length = 8 + (s.length + j) := by simp [textTo, numB_length, zeros_length]
theorem textTo_snoc (s : List UInt8) (j : Nat) : textTo s j ++ [0] = textTo s (j + 1) := by simp [textTo, zeros, List.replicate_succ']
theorem textTo_all (s : List UInt8) : textTo s (gapN s.length) = textB s := by simp [textTo, textB, zeros]

/-! what At and TextAt tell, by the document -/
def atF (bs : List UInt8) (i : Int) : Int × Int × Int :=
  if i < 0 then (0, 0, 1) else if (bs.length : Int) - i < 8 then (0, 0, 7) else
  if 2147483647 < leN ((bs.drop i.toNat).take 8) then (0, 0, 2) else ((leN ((bs.drop i.toNat).take 8) : Int), i + 8, 0)

theorem atF_neg (bs : List UInt8) (i : Int) (h : i < 0) : atF bs i = (0, 0, 1) := by simp [atF, h]
theorem atF_more (bs : List UInt8) (i : Int) (h : 0 ≤ i) (h1 : (bs.length : Int) - i < 8) : atF bs i = (0, 0, 7) := by rw [atF, if_neg (by omega), if_pos h1]
theorem atF_long (bs : List UInt8) (k : Nat) (h1 : k + 8 ≤ bs.length) (h2 : 2147483647 < leN ((bs.drop k).take 8)) : atF bs k = (0, 0, 2) := by
  rw [atF, if_neg (by omega), if_neg (by omega), Int.toNat_natCast, if_pos h2]
theorem atF_ok (bs : List UInt8) (k : Nat) (h1 : k + 8 ≤ bs.length) (h2 : leN ((bs.drop k).take 8) ≤ 2147483647) : atF bs k = ((leN ((bs.drop k).take 8) : Int), (k : Int) + 8, 0) := by
  rw [atF, if_neg (by omega), if_neg (by omega), Int.toNat_natCast, if_neg (by omega)]

theorem atF_split (bs : List UInt8) (i : Int) (n : Nat) (hl : bs.length = n) (he : (atF bs i).2.2 = 0) : ∃ k m : Nat, i = k ∧ k + 8 ≤ n ∧ m ≤ 2147483647 ∧ atF bs i = ((m : Int), (k : Int) + 8, 0) := by
  subst hl
  by_cases h0 : i < 0
  · rw [atF_neg bs i h0] at he; simp at he
  by_cases h1 : (bs.length : Int) - i < 8
  · rw [atF_more bs i (by omega) h1] at he; simp at he
  obtain ⟨k, rfl⟩ := Int.eq_ofNat_of_zero_le (show 0 ≤ i by omega)
  by_cases h2 : 2147483647 < leN ((bs.drop k).take 8)
  · rw [atF_long bs k (by omega) h2] at he; simp at he
  exact ⟨k, _, rfl, by omega, by omega, atF_ok bs k (by omega) (by omega)⟩

/-- the number of the t highest of the eight bytes from i on. -/
def seg (bs : List UInt8) (i t : Nat) : Nat := leN ((bs.drop (i + (8 - t))).take t)
theorem seg_zero (bs : List UInt8) (i : Nat) : seg bs i 0 = 0 := by simp [seg, leN]
theorem seg_succ (bs : List UInt8) (i t : Nat) (ht : t < 8) (hi : i + 8 ≤ bs.length) : seg bs i (t + 1) = (bs.getD (i + (7 - t)) 0).toNat + 256 * seg bs i t := by
  unfold seg
  have e : i + (8 - t) = i + (7 - t) + 1 := by omega
  rw [show 8 - (t + 1) = 7 - t by omega, e, List.drop_eq_getElem_cons (show i + (7 - t) < bs.length by omega), List.take_succ_cons, leN, getD_get bs (i + (7 - t)) (by omega)]
theorem seg_le (bs : List UInt8) (i : Nat) (hi : i + 8 ≤ bs.length) : ∀ t, t ≤ 8 → seg bs i t ≤ seg bs i 8 := by
  have step : ∀ t, t < 8 → seg bs i t ≤ seg bs i (t + 1) := fun t ht => by rw [seg_succ bs i t ht hi]; omega
  intro t ht
  have h : ∀ d t, t + d = 8 → seg bs i t ≤ seg bs i 8 := by
    intro d
    induction d with
    | zero => intro t h; rw [show t = 8 by omega]; exact Nat.le_refl _
    | succ d ih => intro t h; exact Nat.le_trans (step t (by omega)) (ih (t + 1) (by omega))
  exact h (8 - t) t (by omega)
theorem seg_eight (bs : List UInt8) (i : Nat) : seg bs i 8 = leN ((bs.drop i).take 8) := by simp [seg]

theorem part_all_true (bs : List UInt8) (s q : Nat) (h : ∀ t, t < q → bs.getD (s + t) 0 = 0) : ((bs.drop s).take q).all (· == 0) = true := by
  rw [List.all_eq_true]
  intro x hx
  obtain ⟨j, hj, rfl⟩ := List.getElem_of_mem hx
  have hjq : j < q := Nat.lt_of_lt_of_le hj (List.length_take_le _ _)
  have e := getD_part bs s q j hjq
  rw [getD_get _ j hj, h j hjq] at e
  simp [e]

theorem part_all_false (bs : List UInt8) (s q t : Nat) (hl : s + q ≤ bs.length) (ht : t < q) (h : bs.getD (s + t) 0 ≠ 0) : ((bs.drop s).take q).all (· == 0) = false := by
  have hj : t < ((bs.drop s).take q).length := by simp; omega
  rw [List.all_eq_false]
  refine ⟨_, List.getElem_mem hj, ?_⟩
  rw [← getD_get _ t hj, getD_part bs s q t ht]
  simpa using h

def textF (bs : List UInt8) (i : Int) : List UInt8 × Int × Int :=
  if (atF bs i).2.2 ≠ 0 then ([], 0, (atF bs i).2.2) else
  if bs.length < i.toNat + 8 + (atF bs i).1.toNat + gapN (atF bs i).1.toNat then ([], 0, 7) else
  if ((bs.drop (i.toNat + 8 + (atF bs i).1.toNat)).take (gapN (atF bs i).1.toNat)).all (· == 0) = false then ([], 0, 4) else
  ((bs.drop (i.toNat + 8)).take (atF bs i).1.toNat, ((i.toNat + 8 + (atF bs i).1.toNat + gapN (atF bs i).1.toNat : Nat) : Int), 0)

theorem textF_err (bs : List UInt8) (i a b e : Int) (h : atF bs i = (a, b, e)) (he : e ≠ 0) : textF bs i = ([], 0, e) := by rw [textF, h, if_pos he]
theorem textF_more (bs : List UInt8) (k n : Nat) (b : Int) (h : atF bs k = ((n : Int), b, 0)) (h1 : bs.length < k + 8 + n + gapN n) : textF bs k = ([], 0, 7) := by
  rw [textF, h]; simp only [Int.toNat_natCast]; rw [if_neg (by simp), if_pos h1]
theorem textF_form (bs : List UInt8) (k n : Nat) (b : Int) (h : atF bs k = ((n : Int), b, 0)) (h1 : k + 8 + n + gapN n ≤ bs.length)
    (h2 : ((bs.drop (k + 8 + n)).take (gapN n)).all (· == 0) = false) : textF bs k = ([], 0, 4) := by
  rw [textF, h]; simp only [Int.toNat_natCast]; rw [if_neg (by simp), if_neg (by omega), if_pos h2]
theorem textF_ok (bs : List UInt8) (k n : Nat) (b : Int) (h : atF bs k = ((n : Int), b, 0)) (h1 : k + 8 + n + gapN n ≤ bs.length)
    (h2 : ((bs.drop (k + 8 + n)).take (gapN n)).all (· == 0) = true) : textF bs k = ((bs.drop (k + 8)).take n, ((k + 8 + n + gapN n : Nat) : Int), 0) := by
  rw [textF, h]; simp only [Int.toNat_natCast]; rw [if_neg (by simp), if_neg (by omega), if_neg (by rw [h2]; simp)]

end Go.Bs
