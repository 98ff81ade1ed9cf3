/- Pages and transactions by the document, in plain words. Conditions: none. -/
import Derived.Test.YtjoglmkiphdfiaaD0
set_option maxRecDepth 8000
namespace Go.Proofs.Ytjoglmkiphdfiaa.Rp
open Go.RowKit Go.Bs Go.Dk

def bitP (B : Nat) (L : Nat → List UInt8) (p : Nat) : Bool := ((L (p / 8 / B)).getD (p / 8 % B) 0).toNat / 2 ^ (p % 8) % 2 == 1
def usedP (N B M : Nat) (L : Nat → List UInt8) (p : Int) : Bool := decide ((M : Int) < p) && decide (p < (N : Int)) && bitP B L p.toNat
def flip8 (x : UInt8) (k : Nat) : UInt8 := UInt8.ofNat (if x.toNat / 2 ^ k % 2 = 1 then x.toNat - 2 ^ k else x.toNat + 2 ^ k)
def turnP (B : Nat) (L : Nat → List UInt8) (p : Nat) : Nat → List UInt8 := upd L (p / 8 / B) ((L (p / 8 / B)).set (p / 8 % B) (flip8 ((L (p / 8 / B)).getD (p / 8 % B) 0) (p % 8)))
structure Dm (N B M : Nat) (L : Nat → List UInt8) : Prop where
  b0 : 4 ≤ B
  b1 : B ≤ 100000
  n1 : N ≤ 100000
  m : N ≤ 8 * B * M
  mn : M + 2 ≤ N
  len : ∀ k, k < N → (L k).length = B
theorem Dm.at {N B M : Nat} {L : Nat → List UInt8} (h : Dm N B M L) {p : Nat} (hp : p < N) : p / 8 / B < M := by
  have h1 := h.m
  rw [Nat.div_div_eq_div_mul]
  exact Nat.div_lt_of_lt_mul (by rw [Nat.mul_comm 8 B, Nat.mul_comm B 8]; omega)
/-- a transaction. -/
structure TX where
  L : Nat → List UInt8
  W : Nat → Bool
  root : Bool
  done : Bool
def le32 (b : List UInt8) : Nat := (b.getD 0 0).toNat + 256 * (b.getD 1 0).toNat + 65536 * (b.getD 2 0).toNat + 16777216 * (b.getD 3 0).toNat
def TX.read (N B M : Nat) (T : TX) (p : Int) : List UInt8 × Int := if T.done || !usedP N B M T.L p then ([], 1) else (T.L p.toNat, 0)
theorem Dm.upd {N B M : Nat} {L : Nat → List UInt8} (h : Dm N B M L) (p : Nat) (bs : List UInt8) (hb : bs.length = B) : Dm N B M (Dk.upd L p bs) :=
  ⟨h.b0, h.b1, h.n1, h.m, h.mn, fun k hk => by
    by_cases e : k = p
    · subst e; rw [upd_same]; exact hb
    · rw [upd_other _ _ _ _ e]; exact h.len k hk⟩
def TX.write (N B M : Nat) (T : TX) (p : Int) (bs : List UInt8) : TX × Int := if T.done || !usedP N B M T.L p || decide (bs.length ≠ B) then (T, 1) else ({ T with L := Dk.upd T.L p.toNat bs, W := Dk.upd T.W p.toNat true }, 0)
theorem Dm.turn {N B M : Nat} {L : Nat → List UInt8} (h : Dm N B M L) (p : Nat) (hp : p < N) : Dm N B M (turnP B L p) := by
  unfold turnP
  exact h.upd _ _ (by rw [List.length_set]; exact h.len _ (by have := h.at hp; have := h.mn; omega))
theorem used_nat {N B M : Nat} {L : Nat → List UInt8} {p : Int} (h : usedP N B M L p = true) : ∃ q : Nat, p = q ∧ M < q ∧ q < N := by
  unfold usedP at h
  simp at h
  exact ⟨p.toNat, by omega, by omega, by omega⟩
def TX.give (N B M : Nat) (T : TX) (p : Int) : TX × Int := if T.done || !usedP N B M T.L p || decide (p = (le32 (T.L M) : Int)) then (T, 1) else ({ T with L := turnP B T.L p.toNat }, 0)
/-- a page that may be taken. -/
def freeAt (N B M : Nat) (L : Nat → List UInt8) (i : Nat) : Bool := decide ((M : Int) < (i : Int)) && !usedP N B M L (i : Int)
def TX.take (N B M : Nat) (T : TX) : TX × Int × Int :=
  if T.done then (T, 0, 1) else
  match (List.range N).find? (freeAt N B M T.L) with
  | none => (T, 0, 6)
  | some i => ({ T with L := Dk.upd (turnP B T.L i) i (zeros B), W := Dk.upd T.W i true }, (i : Int), 0)
theorem find_none {f : Nat → Bool} {N : Nat} (h : ∀ j, j < N → f j = false) : (List.range N).find? f = none := by
  rw [List.find?_eq_none]
  intro x hx
  rw [h x (List.mem_range.1 hx)]
  simp
theorem find_some {f : Nat → Bool} {N k : Nat} (hk : k < N) (h : ∀ j, j < k → f j = false) (hf : f k = true) : (List.range N).find? f = some k := by
  rw [List.find?_range_eq_some]
  exact ⟨hf, List.mem_range.2 hk, fun j hj => by rw [h j hj]; rfl⟩
def putK (b : List UInt8) (p : Nat) : Nat → List UInt8
  | 0 => b
  | k + 1 => (putK b p k).set k (byteAt p k)
theorem putK_len (b : List UInt8) (p k : Nat) : (putK b p k).length = b.length := by
  induction k with
  | zero => rfl
  | succ k ih => simp [putK, ih]
def TX.setRoot (N B M : Nat) (T : TX) (p : Int) : TX × Int := if T.done || (decide (p ≠ 0) && !usedP N B M T.L p) then (T, 1) else ({ T with L := Dk.upd T.L M (putK (T.L M) p.toNat 4), root := true }, 0)
def freeN (N B M : Nat) (L : Nat → List UInt8) (k : Nat) : Nat := ((List.range k).filter (freeAt N B M L)).length
theorem freeN_succ (N B M : Nat) (L : Nat → List UInt8) (k : Nat) : freeN N B M L (k + 1) = freeN N B M L k + (if freeAt N B M L k then 1 else 0) := by
  unfold freeN
  rw [List.range_succ, List.filter_append, List.length_append]
  congr 1
  by_cases h : freeAt N B M L k = true
  · simp [h]
  · simp [h]
theorem freeN_le (N B M : Nat) (L : Nat → List UInt8) (k : Nat) : freeN N B M L k ≤ k := by
  unfold freeN
  exact Nat.le_trans (List.length_filter_le _ _) (by simp)
def TX.new (L : Nat → List UInt8) : TX := ⟨L, fun _ => false, false, false⟩
def mapN (n b : Nat) : Nat := (n + 8 * b - 1) / (8 * b)
theorem mapN_ge (n b : Nat) (hb : 1 ≤ b) : n ≤ 8 * b * mapN n b := by
  unfold mapN
  have h1 := Nat.div_add_mod (n + 8 * b - 1) (8 * b)
  have h2 := Nat.mod_lt (n + 8 * b - 1) (show 0 < 8 * b by omega)
  omega
theorem mapN_le (n b : Nat) (hb : 1 ≤ b) : mapN n b ≤ n := by
  unfold mapN
  rw [Nat.div_le_iff_le_mul_add_pred (by omega)]
  rcases Nat.eq_zero_or_pos n with h | h
  · subst h; simp
  · have : 8 * b * 1 ≤ 8 * b * n := Nat.mul_le_mul_left _ h
    have : n ≤ 8 * b * n := Nat.le_mul_of_pos_left n (by omega)
    omega
/-- a block that a Commit changes. -/
def chg1 (M : Nat) (L : Nat → List UInt8) (T : TX) (i : Nat) : Bool := decide (i < M) && decide (T.L i ≠ L i)
def chgAt (N B M : Nat) (L : Nat → List UInt8) (T : TX) (i : Nat) : Bool := chg1 M L T i || (decide (i = M) && T.root) || (usedP N B M T.L (i : Int) && T.W i)
def chgN (N B M : Nat) (L : Nat → List UInt8) (T : TX) (k : Nat) : Nat := ((List.range k).filter (chgAt N B M L T)).length
def outK (N B M : Nat) (L : Nat → List UInt8) (T : TX) (k : Nat) : Nat → List UInt8 := fun j => if decide (j < k) && chgAt N B M L T j then T.L j else L j
theorem chgN_succ (N B M : Nat) (L : Nat → List UInt8) (T : TX) (k : Nat) : chgN N B M L T (k + 1) = chgN N B M L T k + (if chgAt N B M L T k then 1 else 0) := by
  unfold chgN
  rw [List.range_succ, List.filter_append, List.length_append]
  congr 1
  by_cases h : chgAt N B M L T k = true
  · simp [h]
  · simp [h]
theorem chgN_le (N B M : Nat) (L : Nat → List UInt8) (T : TX) (k : Nat) : chgN N B M L T k ≤ k := by
  unfold chgN
  exact Nat.le_trans (List.length_filter_le _ _) (by simp)
theorem outK_no {N B M : Nat} {L : Nat → List UInt8} {T : TX} {k : Nat} (h : chgAt N B M L T k = false) : outK N B M L T (k + 1) = outK N B M L T k := by
  funext j
  unfold outK
  by_cases e : j = k
  · subst e; simp [h]
  · have : decide (j < k + 1) = decide (j < k) := by simp; omega
    rw [this]
theorem outK_yes {N B M : Nat} {L : Nat → List UInt8} {T : TX} {k : Nat} (h : chgAt N B M L T k = true) : outK N B M L T (k + 1) = Dk.upd (outK N B M L T k) k (T.L k) := by
  funext j
  by_cases e : j = k
  · subst e; rw [upd_same]; unfold outK; simp [h]
  · rw [upd_other _ _ _ _ e]
    unfold outK
    have : decide (j < k + 1) = decide (j < k) := by simp; omega
    rw [this]
def TX.end_ (T : TX) : TX := { T with done := true }
/-- the blocks behind a Commit, the transaction, the answer. -/
def TX.commit (N B M Log : Nat) (L : Nat → List UInt8) (T : TX) : (Nat → List UInt8) × TX × Int :=
  if T.done then (L, T, 1) else if Log < chgN N B M L T.end_ N then (L, T.end_, 8) else (outK N B M L T.end_ N, T.end_, 0)
theorem outK_dm {N B M : Nat} {L : Nat → List UInt8} {T : TX} (h1 : Dm N B M L) (h2 : Dm N B M T.L) (k : Nat) : Dm N B M (outK N B M L T k) :=
  ⟨h1.b0, h1.b1, h1.n1, h1.m, h1.mn, fun j hj => by
    unfold outK
    split
    · exact h2.len j hj
    · exact h1.len j hj⟩
end Go.Proofs.Ytjoglmkiphdfiaa.Rp
