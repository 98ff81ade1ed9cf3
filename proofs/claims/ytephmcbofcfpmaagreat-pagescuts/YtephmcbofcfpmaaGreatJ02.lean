/- Worlds in which some blocks alone may turn; the disk's answers as plain functions. Conditions: none. Pages and transactions by the document, in plain words. Conditions: none. -/
import Derived.Test.YtephmcbofcfpmaaGreatJ01
set_option maxRecDepth 8000
set_option linter.unusedSimpArgs false
set_option linter.unusedVariables false
namespace Go.Dk
open Go.RowKit Go.Bs

/-- the blocks of D alone may have turned. -/
structure Fr (D : Nat → Prop) (w w' : World) : Prop where
  os : w'.os = w.os
  tape : w'.tape = w.tape
  output : w'.output = w.output
  size : w.heap.size ≤ w'.heap.size
  block : ∀ k, k < w.heap.size → ¬ D k → w'.heap[k]? = w.heap[k]?
theorem Fr.refl (D : Nat → Prop) (w : World) : Fr D w w := ⟨rfl, rfl, rfl, Nat.le_refl _, fun _ _ _ => rfl⟩
theorem Fr.step {D D' : Nat → Prop} {a b c : World} (h : Fr D a b) (k : Fr D' b c) (hD : ∀ i, D' i → D i ∨ a.heap.size ≤ i) : Fr D a c :=
  ⟨k.os.trans h.os, k.tape.trans h.tape, k.output.trans h.output, Nat.le_trans h.size k.size, fun i hi hn => (k.block i (Nat.lt_of_lt_of_le hi h.size) (fun hd => (hD i hd).elim hn (by omega))).trans (h.block i hi hn)⟩
theorem Fr.trans {D : Nat → Prop} {a b c : World} (h : Fr D a b) (k : Fr D b c) : Fr D a c := h.step k fun _ hd => .inl hd
theorem Fr.of {D : Nat → Prop} {a b : World} (h : Below a.heap.size a b) : Fr D a b := ⟨h.os, h.tape, h.output, h.size, fun k hk _ => h.block k hk⟩
theorem Fr.below {D : Nat → Prop} {N : Nat} {a b : World} (h : Fr D a b) (h1 : ∀ k, D k → N ≤ k) (h2 : N ≤ a.heap.size) : Below N a b :=
  ⟨h.os, h.tape, h.output, h.size, fun k hk => h.block k (by omega) (fun hd => by have := h1 k hd; omega)⟩
theorem Fr.drew {D : Nat → Prop} {a b : World} (h : Fr D a b) : Fr D a b.drew := ⟨h.os, h.tape, h.output, h.size, h.block⟩
theorem Fr.alloc {D : Nat → Prop} {a b : World} (h : Fr D a b) (o : Obj) : Fr D a (b.alloc o) :=
  h.trans (Fr.of ((Below.refl _ _).alloc (Nat.le_refl _) o))
theorem Fr.grown {D : Nat → Prop} {a b c : World} {row : Option Nat} (h : Fr D a b) (hg : b.grownBy c row) (hr : ∀ k, row = some k → D k ∨ a.heap.size ≤ k) : Fr D a c :=
  h.step (D' := fun k => row = some k) ⟨hg.os, hg.tape, hg.output, hg.size, fun k hk hn => hg.block k hk (fun e => hn e.symm)⟩ hr
theorem Fr.setCell {D : Nat → Prop} {a b : World} (h : Fr D a b) {g i : Nat} (hg : D g ∨ a.heap.size ≤ g) (v : Value) : Fr D a (b.setCell ⟨g, i, none⟩ v) :=
  h.step (D' := fun k => k = g) ⟨rfl, rfl, rfl, by simp [World.setCell], fun k _ hn => Below.heap_setCell b ⟨g, i, none⟩ v k hn⟩ (fun k e => by subst e; exact hg)
theorem Fr.setRow {D : Nat → Prop} {a b : World} (h : Fr D a b) {g : Nat} (hg : D g ∨ a.heap.size ≤ g) (cs : Array Value) : Fr D a (b.setRow g cs) :=
  h.step (D' := fun k => k = g) ⟨rfl, rfl, rfl, by simp, fun k _ hn => setRow_other b g k cs hn⟩ (fun k e => by subst e; exact hg)
theorem Fr.mono {D D' : Nat → Prop} {a b : World} (h : Fr D a b) (hD : ∀ k, D k → D' k) : Fr D' a b := ⟨h.os, h.tape, h.output, h.size, fun k hk hn => h.block k hk (fun hd => hn (hD k hd))⟩

/-! ### the disk by the document -/
def upd {α : Type} (M : Nat → α) (s : Nat) (b : α) : Nat → α := fun k => if k = s then b else M k
theorem upd_same {α : Type} (M : Nat → α) (s : Nat) (b : α) : upd M s b s = b := by simp [upd]
theorem upd_other {α : Type} (M : Nat → α) (s k : Nat) (b : α) (h : k ≠ s) : upd M s b k = M k := by simp [upd, h]
theorem upd_twice {α : Type} (M : Nat → α) (s : Nat) (a b : α) : upd (upd M s a) s b = upd M s b := by
  funext k; simp only [upd]; split <;> rfl
theorem upd_self {α : Type} (M : Nat → α) (s : Nat) : upd M s (M s) = M := by
  funext k; simp only [upd]; split
  · rename_i h; rw [h]
  · rfl

abbrev Wr := Nat × List UInt8
def cur (L : Nat → List UInt8) (c : List Wr) : Nat → List UInt8 := c.foldl (fun M p => upd M p.1 p.2) L
theorem cur_snoc (L : Nat → List UInt8) (c : List Wr) (p : Wr) : cur L (c ++ [p]) = upd (cur L c) p.1 p.2 := by simp [cur]
theorem cur_nil (L : Nat → List UInt8) : cur L [] = L := rfl
/-- those of the cache's writes that are done. -/
def kept (keep : List Bool) (c : List Wr) : List Wr := ((keep.zip c).filter (·.1)).map (·.2)
theorem kept_nil (c : List Wr) : kept [] c = [] := rfl
theorem kept_mem {keep : List Bool} {c : List Wr} {p : Wr} (h : p ∈ kept keep c) : p ∈ c := by
  unfold kept at h
  obtain ⟨q, hq, rfl⟩ := List.mem_map.1 h
  exact (List.of_mem_zip (List.mem_filter.1 hq).1).2
theorem kept_take_succ (keep : List Bool) (c : List Wr) (k : Nat) (hk : k < keep.length) (hc : k < c.length) :
    kept (keep.take (k + 1)) c = kept (keep.take k) c ++ (if keep[k] then [c[k]] else []) := by
  have e : ∀ n, n ≤ c.length → (keep.take n).zip c = (keep.take n).zip (c.take n) := fun n hn => by
    apply List.ext_getElem
    · simp; omega
    · intro i h1 h2; simp
  have hz : (keep.take (k + 1)).zip c = (keep.take k).zip c ++ [(keep[k], c[k])] := by
    rw [e (k + 1) (by omega), e k (by omega), List.take_succ_eq_append_getElem hk, List.take_succ_eq_append_getElem hc, List.zip_append (by simp; omega)]
    rfl
  unfold kept
  rw [hz, List.filter_append, List.map_append]
  congr 1
  cases keep[k] <;> rfl
theorem kept_take_all (keep : List Bool) (c : List Wr) (n : Nat) (h : n = min keep.length c.length) : kept (keep.take n) c = kept keep c := by
  unfold kept
  have : (keep.take n).zip c = keep.zip c := by
    apply List.ext_getElem
    · simp; omega
    · intro i h1 h2; simp
  rw [this]

structure S where
  sectors : Nat
  bytes : Nat
  L : Nat → List UInt8
  c : List Wr
  up : Bool
  deeds : Nat
  left : Nat
  keep : List Bool

structure S.Ok (s : S) : Prop where
  s0 : 1 ≤ s.sectors
  s1 : s.sectors ≤ 65536
  b0 : 16 ≤ s.bytes
  b1 : s.bytes ≤ 4096
  cd : s.c.length ≤ s.deeds + 1
  lf : s.left ≤ 9223372036854775807
  cs : ∀ p ∈ s.c, p.1 < s.sectors ∧ p.2.length = s.bytes
  ls : ∀ k, (s.L k).length = s.bytes

theorem cur_len {L : Nat → List UInt8} {c : List Wr} {n N : Nat} (hL : ∀ k, (L k).length = n) (hc : ∀ p ∈ c, p.1 < N ∧ p.2.length = n) (k : Nat) : (cur L c k).length = n := by
  induction c generalizing L with
  | nil => exact hL k
  | cons p c ih =>
    show (cur (upd L p.1 p.2) c k).length = n
    refine ih (fun j => ?_) (fun q hq => hc q (List.mem_cons_of_mem _ hq))
    unfold upd
    split
    · exact (hc p List.mem_cons_self).2
    · exact hL j

def S.crash (s : S) (keep : List Bool) : S := if s.up then { s with L := cur s.L (kept keep s.c), c := [], up := false } else s
def S.deed (s : S) : S × Int :=
  if s.left = 0 then ({ s with deeds := s.deeds + 1 }, 0) else
  if s.left = 1 then (({ s with deeds := s.deeds + 1, left := 0 } : S).crash s.keep, 50) else
  ({ s with deeds := s.deeds + 1, left := s.left - 1 }, 0)
def S.has (s : S) (i : Int) : Bool := decide (0 ≤ i) && decide (i < s.sectors)
def S.write (s : S) (i : Int) (b : List UInt8) : S × Int :=
  if s.up = false then (s, 50) else if s.has i = false ∨ b.length ≠ s.bytes then (s, 1) else ({ s with c := s.c ++ [(i.toNat, b)] } : S).deed
def S.flush (s : S) : S × Int :=
  if s.up = false then (s, 50) else
  if s.deed.2 = 0 then ({ s.deed.1 with L := cur s.L s.c, c := [] }, 0) else s.deed
def S.arm (s : S) (n : Int) (keep : List Bool) : S := { s with left := n.toNat, keep := keep }
def S.on (s : S) : S := { s with up := true, left := 0, keep := [] }
def S.read (s : S) (i : Int) : List UInt8 × Int :=
  if s.up = false then ([], 50) else if s.has i = false then ([], 1) else (cur s.L s.c i.toNat, 0)
def S.new (sectors bytes : Nat) : S := ⟨sectors, bytes, fun _ => zeros bytes, [], true, 0, 0, []⟩

theorem S.Ok.crash {s : S} (h : s.Ok) (keep : List Bool) : (s.crash keep).Ok := by
  unfold S.crash
  split
  · exact ⟨h.s0, h.s1, h.b0, h.b1, Nat.zero_le _, h.lf, fun p hp => (by cases hp), fun k => cur_len h.ls (fun p hp => h.cs p (kept_mem hp)) k⟩
  · exact h
theorem S.Ok.new (sectors bytes : Nat) (h0 : 1 ≤ sectors) (h1 : sectors ≤ 65536) (h2 : 16 ≤ bytes) (h3 : bytes ≤ 4096) : (S.new sectors bytes).Ok :=
  ⟨h0, h1, h2, h3, Nat.zero_le _, by simp [S.new], fun p hp => (by cases hp), fun _ => zeros_length _⟩
theorem S.Ok.curLen {s : S} (h : s.Ok) (k : Nat) : (cur s.L s.c k).length = s.bytes := cur_len h.ls h.cs k

/-- no more writes in the cache than deeds. -/
def S.Fine (s : S) : Prop := s.c.length ≤ s.deeds
theorem S.Fine.deed {s : S} (h : s.c.length ≤ s.deeds + 1) : s.deed.1.Fine := by
  unfold S.deed S.Fine
  split
  · exact h
  · split
    · unfold S.crash
      split
      · exact Nat.zero_le _
      · exact h
    · exact h
theorem S.Fine.write {s : S} (h : s.Fine) (i : Int) (b : List UInt8) : (s.write i b).1.Fine := by
  unfold S.write
  split
  · exact h
  · split
    · exact h
    · exact S.Fine.deed (by simp; exact h)
theorem S.Fine.flush {s : S} (h : s.Fine) : s.flush.1.Fine := by
  unfold S.flush
  split
  · exact h
  · split
    · exact Nat.zero_le _
    · exact S.Fine.deed (Nat.le_succ_of_le h)
theorem S.Fine.crash {s : S} (h : s.Fine) (ks : List Bool) : (s.crash ks).Fine := by
  unfold S.crash
  split
  · exact Nat.zero_le _
  · exact h
theorem S.crash_deeds (s : S) (ks : List Bool) : (s.crash ks).deeds = s.deeds := by unfold S.crash; split <;> rfl
theorem S.deed_deeds (s : S) : s.deed.1.deeds = s.deeds + 1 := by
  unfold S.deed
  split
  · rfl
  · split
    · rw [S.crash_deeds]
    · rfl
theorem S.write_deeds (s : S) (i : Int) (b : List UInt8) : (s.write i b).1.deeds ≤ s.deeds + 1 := by
  unfold S.write
  split
  · exact Nat.le_succ _
  · split
    · exact Nat.le_succ _
    · rw [S.deed_deeds]; exact Nat.le_refl _
theorem S.flush_deeds (s : S) : s.flush.1.deeds ≤ s.deeds + 1 := by
  unfold S.flush
  split
  · exact Nat.le_succ _
  · split
    · show s.deed.1.deeds ≤ _
      rw [S.deed_deeds]; exact Nat.le_refl _
    · rw [S.deed_deeds]; exact Nat.le_refl _
end Go.Dk

set_option maxRecDepth 8000
set_option linter.unusedSimpArgs false
set_option linter.unusedVariables false
namespace Go.Proofs.YtephmcbofcfpmaaGreat.Rp
open Go.RowKit Go.Bs Go.Dk

def bitP (B : Nat) (L : Nat → List UInt8) (p : Nat) : Bool := ((L (p / 8 / B)).getD (p / 8 % B) 0).toNat / 2 ^ (p % 8) % 2 == 1
def usedP (N B M : Nat) (L : Nat → List UInt8) (p : Int) : Bool := decide ((M : Int) < p) && decide (p < (N : Int)) && bitP B L p.toNat
def flip8 (x : UInt8) (k : Nat) : UInt8 := UInt8.ofNat (if x.toNat / 2 ^ k % 2 = 1 then x.toNat - 2 ^ k else x.toNat + 2 ^ k)
def turnP (B : Nat) (L : Nat → List UInt8) (p : Nat) : Nat → List UInt8 := upd L (p / 8 / B) ((L (p / 8 / B)).set (p / 8 % B) (flip8 ((L (p / 8 / B)).getD (p / 8 % B) 0) (p % 8)))
structure Dm (N B M : Nat) (L : Nat → List UInt8) : Prop where
  b0 : 4 ≤ B
  b1 : B ≤ 100000
  n1 : N ≤ 100000
  m : N ≤ 8 * B * M
  mn : M + 2 ≤ N
  len : ∀ k, k < N → (L k).length = B
theorem Dm.at {N B M : Nat} {L : Nat → List UInt8} (h : Dm N B M L) {p : Nat} (hp : p < N) : p / 8 / B < M := by
  have h1 := h.m
  rw [Nat.div_div_eq_div_mul]
  exact Nat.div_lt_of_lt_mul (by rw [Nat.mul_comm 8 B, Nat.mul_comm B 8]; omega)
/-- a transaction. -/
structure TX where
  L : Nat → List UInt8
  W : Nat → Bool
  root : Bool
  done : Bool
def le32 (b : List UInt8) : Nat := (b.getD 0 0).toNat + 256 * (b.getD 1 0).toNat + 65536 * (b.getD 2 0).toNat + 16777216 * (b.getD 3 0).toNat
def TX.read (N B M : Nat) (T : TX) (p : Int) : List UInt8 × Int := if T.done || !usedP N B M T.L p then ([], 1) else (T.L p.toNat, 0)
theorem Dm.upd {N B M : Nat} {L : Nat → List UInt8} (h : Dm N B M L) (p : Nat) (bs : List UInt8) (hb : bs.length = B) : Dm N B M (Dk.upd L p bs) :=
  ⟨h.b0, h.b1, h.n1, h.m, h.mn, fun k hk => by
    by_cases e : k = p
    · subst e; rw [upd_same]; exact hb
    · rw [upd_other _ _ _ _ e]; exact h.len k hk⟩
def TX.write (N B M : Nat) (T : TX) (p : Int) (bs : List UInt8) : TX × Int := if T.done || !usedP N B M T.L p || decide (bs.length ≠ B) then (T, 1) else ({ T with L := Dk.upd T.L p.toNat bs, W := Dk.upd T.W p.toNat true }, 0)
theorem Dm.turn {N B M : Nat} {L : Nat → List UInt8} (h : Dm N B M L) (p : Nat) (hp : p < N) : Dm N B M (turnP B L p) := by
  unfold turnP
  exact h.upd _ _ (by rw [List.length_set]; exact h.len _ (by have := h.at hp; have := h.mn; omega))
theorem used_nat {N B M : Nat} {L : Nat → List UInt8} {p : Int} (h : usedP N B M L p = true) : ∃ q : Nat, p = q ∧ M < q ∧ q < N := by
  unfold usedP at h
  simp at h
  exact ⟨p.toNat, by omega, by omega, by omega⟩
def TX.give (N B M : Nat) (T : TX) (p : Int) : TX × Int := if T.done || !usedP N B M T.L p || decide (p = (le32 (T.L M) : Int)) then (T, 1) else ({ T with L := turnP B T.L p.toNat }, 0)
/-- a page that may be taken. -/
def freeAt (N B M : Nat) (L : Nat → List UInt8) (i : Nat) : Bool := decide ((M : Int) < (i : Int)) && !usedP N B M L (i : Int)
def TX.take (N B M : Nat) (T : TX) : TX × Int × Int :=
  if T.done then (T, 0, 1) else
  match (List.range N).find? (freeAt N B M T.L) with
  | none => (T, 0, 6)
  | some i => ({ T with L := Dk.upd (turnP B T.L i) i (zeros B), W := Dk.upd T.W i true }, (i : Int), 0)
theorem find_none {f : Nat → Bool} {N : Nat} (h : ∀ j, j < N → f j = false) : (List.range N).find? f = none := by
  rw [List.find?_eq_none]
  intro x hx
  rw [h x (List.mem_range.1 hx)]
  simp
theorem find_some {f : Nat → Bool} {N k : Nat} (hk : k < N) (h : ∀ j, j < k → f j = false) (hf : f k = true) : (List.range N).find? f = some k := by
  rw [List.find?_range_eq_some]
  exact ⟨hf, List.mem_range.2 hk, fun j hj => by rw [h j hj]; rfl⟩
def putK (b : List UInt8) (p : Nat) : Nat → List UInt8
  | 0 => b
  | k + 1 => (putK b p k).set k (byteAt p k)
theorem putK_len (b : List UInt8) (p k : Nat) : (putK b p k).length = b.length := by
  induction k with
  | zero => rfl
  | succ k ih => simp [putK, ih]
def TX.setRoot (N B M : Nat) (T : TX) (p : Int) : TX × Int := if T.done || (decide (p ≠ 0) && !usedP N B M T.L p) then (T, 1) else ({ T with L := Dk.upd T.L M (putK (T.L M) p.toNat 4), root := true }, 0)
def freeN (N B M : Nat) (L : Nat → List UInt8) (k : Nat) : Nat := ((List.range k).filter (freeAt N B M L)).length
theorem freeN_succ (N B M : Nat) (L : Nat → List UInt8) (k : Nat) : freeN N B M L (k + 1) = freeN N B M L k + (if freeAt N B M L k then 1 else 0) := by
  unfold freeN
  rw [List.range_succ, List.filter_append, List.length_append]
  congr 1
  by_cases h : freeAt N B M L k = true
  · simp [h]
  · simp [h]
theorem freeN_le (N B M : Nat) (L : Nat → List UInt8) (k : Nat) : freeN N B M L k ≤ k := by
  unfold freeN
  exact Nat.le_trans (List.length_filter_le _ _) (by simp)
def TX.new (L : Nat → List UInt8) : TX := ⟨L, fun _ => false, false, false⟩
def mapN (n b : Nat) : Nat := (n + 8 * b - 1) / (8 * b)
theorem mapN_ge (n b : Nat) (hb : 1 ≤ b) : n ≤ 8 * b * mapN n b := by
  unfold mapN
  have h1 := Nat.div_add_mod (n + 8 * b - 1) (8 * b)
  have h2 := Nat.mod_lt (n + 8 * b - 1) (show 0 < 8 * b by omega)
  omega
theorem mapN_le (n b : Nat) (hb : 1 ≤ b) : mapN n b ≤ n := by
  unfold mapN
  rw [Nat.div_le_iff_le_mul_add_pred (by omega)]
  rcases Nat.eq_zero_or_pos n with h | h
  · subst h; simp
  · have : 8 * b * 1 ≤ 8 * b * n := Nat.mul_le_mul_left _ h
    have : n ≤ 8 * b * n := Nat.le_mul_of_pos_left n (by omega)
    omega
/-- a block that a Commit changes. -/
def chg1 (M : Nat) (L : Nat → List UInt8) (T : TX) (i : Nat) : Bool := decide (i < M) && decide (T.L i ≠ L i)
def chgAt (N B M : Nat) (L : Nat → List UInt8) (T : TX) (i : Nat) : Bool := chg1 M L T i || (decide (i = M) && T.root) || (usedP N B M T.L (i : Int) && T.W i)
def chgN (N B M : Nat) (L : Nat → List UInt8) (T : TX) (k : Nat) : Nat := ((List.range k).filter (chgAt N B M L T)).length
def outK (N B M : Nat) (L : Nat → List UInt8) (T : TX) (k : Nat) : Nat → List UInt8 := fun j => if decide (j < k) && chgAt N B M L T j then T.L j else L j
theorem chgN_succ (N B M : Nat) (L : Nat → List UInt8) (T : TX) (k : Nat) : chgN N B M L T (k + 1) = chgN N B M L T k + (if chgAt N B M L T k then 1 else 0) := by
  unfold chgN
  rw [List.range_succ, List.filter_append, List.length_append]
  congr 1
  by_cases h : chgAt N B M L T k = true
  · simp [h]
  · simp [h]
theorem chgN_le (N B M : Nat) (L : Nat → List UInt8) (T : TX) (k : Nat) : chgN N B M L T k ≤ k := by
  unfold chgN
  exact Nat.le_trans (List.length_filter_le _ _) (by simp)
theorem outK_no {N B M : Nat} {L : Nat → List UInt8} {T : TX} {k : Nat} (h : chgAt N B M L T k = false) : outK N B M L T (k + 1) = outK N B M L T k := by
  funext j
  unfold outK
  by_cases e : j = k
  · subst e; simp [h]
  · have : decide (j < k + 1) = decide (j < k) := by simp; omega
    rw [this]
theorem outK_yes {N B M : Nat} {L : Nat → List UInt8} {T : TX} {k : Nat} (h : chgAt N B M L T k = true) : outK N B M L T (k + 1) = Dk.upd (outK N B M L T k) k (T.L k) := by
  funext j
  by_cases e : j = k
  · subst e; rw [upd_same]; unfold outK; simp [h]
  · rw [upd_other _ _ _ _ e]
    unfold outK
    have : decide (j < k + 1) = decide (j < k) := by simp; omega
    rw [this]
def TX.end_ (T : TX) : TX := { T with done := true }
/-- the blocks behind a Commit, the transaction, the answer. -/
def TX.commit (N B M Log : Nat) (L : Nat → List UInt8) (T : TX) : (Nat → List UInt8) × TX × Int :=
  if T.done then (L, T, 1) else if Log < chgN N B M L T.end_ N then (L, T.end_, 8) else (outK N B M L T.end_ N, T.end_, 0)
theorem outK_dm {N B M : Nat} {L : Nat → List UInt8} {T : TX} (h1 : Dm N B M L) (h2 : Dm N B M T.L) (k : Nat) : Dm N B M (outK N B M L T k) :=
  ⟨h1.b0, h1.b1, h1.n1, h1.m, h1.mn, fun j hj => by
    unfold outK
    split
    · exact h2.len j hj
    · exact h1.len j hj⟩
end Go.Proofs.YtephmcbofcfpmaaGreat.Rp

