/- The map's blocks one behind the other; a bit of a byte. Conditions: none. -/
import Derived.Test.YtjoglmkiphdfiaaTx0
set_option maxRecDepth 8000
namespace Go.Proofs.Ytjoglmkiphdfiaa.Rp
open Go.RowKit Go.Bs Go.Dk

/-- the map's blocks one behind the other. -/
def cat (M : Nat) (L : Nat → List UInt8) : List UInt8 := (List.range M).flatMap L
theorem cat_zero (L : Nat → List UInt8) : cat 0 L = [] := rfl
theorem cat_succ (M : Nat) (L : Nat → List UInt8) : cat (M + 1) L = cat M L ++ L M := by
  unfold cat
  rw [List.range_succ, List.flatMap_append]
  simp
theorem cat_len {M B : Nat} {L : Nat → List UInt8} (h : ∀ k, k < M → (L k).length = B) : (cat M L).length = M * B := by
  induction M with
  | zero => simp [cat_zero]
  | succ M ih => rw [cat_succ, List.length_append, ih (fun k hk => h k (by omega)), h M (by omega), Nat.succ_mul]
theorem cat_congr {M : Nat} {L L' : Nat → List UInt8} (h : ∀ k, k < M → L k = L' k) : cat M L = cat M L' := by
  induction M with
  | zero => rfl
  | succ M ih => rw [cat_succ, cat_succ, ih (fun k hk => h k (by omega)), h M (by omega)]
theorem cat_part {M B : Nat} {L : Nat → List UInt8} (h : ∀ k, k < M → (L k).length = B) (k : Nat) (hk : k < M) : ((cat M L).drop (k * B)).take B = L k := by
  induction M with
  | zero => omega
  | succ M ih =>
    have hl := cat_len (L := L) (M := M) (B := B) (fun k hk => h k (by omega))
    rw [cat_succ]
    by_cases e : k = M
    · subst e
      rw [List.drop_left' hl, ← h k (by omega), List.take_length]
    · have hk' : k < M := by omega
      have h1 : (k + 1) * B ≤ M * B := Nat.mul_le_mul_right _ hk'
      rw [Nat.succ_mul] at h1
      rw [List.drop_append_of_le_length (by rw [hl]; omega), List.take_append_of_le_length (by rw [List.length_drop, hl]; omega)]
      exact ih (fun k hk => h k (by omega)) hk'
theorem cat_get {M B : Nat} {L : Nat → List UInt8} (h : ∀ k, k < M → (L k).length = B) (i : Nat) (hi : i < M * B) : (cat M L).getD i 0 = (L (i / B)).getD (i % B) 0 := by
  have hB : 0 < B := by
    rcases Nat.eq_zero_or_pos B with e | e
    · subst e; omega
    · exact e
  have hq : i / B < M := Nat.div_lt_of_lt_mul (by rw [Nat.mul_comm]; exact hi)
  rw [← cat_part h (i / B) hq, getD_part _ _ _ _ (Nat.mod_lt _ hB)]
  congr 1
  rw [Nat.mul_comm]
  exact (Nat.div_add_mod i B).symm
theorem cat_set {M B : Nat} {L : Nat → List UInt8} (h : ∀ k, k < M → (L k).length = B) (i : Nat) (hi : i < M * B) (x : UInt8) : (cat M L).set i x = cat M (upd L (i / B) ((L (i / B)).set (i % B) x)) := by
  have hB : 0 < B := by
    rcases Nat.eq_zero_or_pos B with e | e
    · subst e; omega
    · exact e
  have hq : i / B < M := Nat.div_lt_of_lt_mul (by rw [Nat.mul_comm]; exact hi)
  have h' : ∀ k, k < M → ((upd L (i / B) ((L (i / B)).set (i % B) x)) k).length = B := fun k hk => by
    by_cases e : k = i / B
    · subst e; rw [upd_same, List.length_set]; exact h _ hk
    · rw [upd_other _ _ _ _ e]; exact h k hk
  have hl := cat_len h
  have hl' := cat_len h'
  apply List.ext_getElem
  · rw [List.length_set, hl, hl']
  · intro j h1 h2
    have hj : j < M * B := by rw [hl'] at h2; exact h2
    have hlq := h (i / B) hq
    have hm := Nat.mod_lt i hB
    have e1 := cat_get h' j hj
    rw [getD_get _ _ h2] at e1
    rw [e1]
    by_cases e : j = i
    · subst e
      rw [List.getElem_set_self, upd_same, getD_get _ _ (by rw [List.length_set]; omega), List.getElem_set_self]
    · rw [List.getElem_set_ne (Ne.symm e)]
      have e2 := cat_get h j hj
      rw [getD_get _ _ (by rw [hl]; exact hj)] at e2
      rw [e2]
      by_cases e3 : j / B = i / B
      · rw [e3, upd_same]
        have e4 : j % B ≠ i % B := fun e4 => e (by rw [← Nat.div_add_mod j B, ← Nat.div_add_mod i B, e3, e4])
        have hjm := Nat.mod_lt j hB
        rw [getD_get _ _ (by omega), getD_get _ _ (by rw [List.length_set]; omega), List.getElem_set_ne (Ne.symm e4)]
      · rw [upd_other _ _ _ _ e3]
/-! ### a bit of a byte -/
def wgt (p : Nat) : UInt8 := UInt8.ofNat (2 ^ (p % 8))
theorem wgt_toNat (p : Nat) : (wgt p).toNat = 2 ^ (p % 8) := by
  have h : p % 8 < 8 := Nat.mod_lt _ (by omega)
  have : 2 ^ (p % 8) ≤ 2 ^ 7 := Nat.pow_le_pow_right (by omega) (by omega)
  unfold wgt
  simp
  omega
set_option maxRecDepth 100000 in
theorem and_all : ∀ x : Fin 256, ∀ k : Fin 8, (x.val &&& 2 ^ k.val ≠ 0) ↔ (x.val / 2 ^ k.val % 2 == 1) = true := by decide
theorem and_bit (x : UInt8) (p : Nat) : (x.toNat &&& (wgt p).toNat ≠ 0) ↔ (x.toNat / 2 ^ (p % 8) % 2 == 1) = true := by
  rw [wgt_toNat]
  exact and_all ⟨x.toNat, x.toNat_lt⟩ ⟨p % 8, Nat.mod_lt _ (by omega)⟩
set_option maxRecDepth 100000 in
theorem xor_all : ∀ x : Fin 256, ∀ k : Fin 8, (if x.val / 2 ^ k.val % 2 = 1 then x.val - 2 ^ k.val else x.val + 2 ^ k.val) = x.val ^^^ 2 ^ k.val := by decide
theorem xor_bit (x : UInt8) (p : Nat) : x ^^^ wgt p = flip8 x (p % 8) := by
  have h := xor_all ⟨x.toNat, x.toNat_lt⟩ ⟨p % 8, Nat.mod_lt _ (by omega)⟩
  apply UInt8.toNat_inj.1
  have hx : x.toNat ^^^ 2 ^ (p % 8) < 256 := by
    have h2 := (x ^^^ wgt p).toNat_lt
    rw [UInt8.toNat_xor, wgt_toNat] at h2
    exact h2
  rw [UInt8.toNat_xor, wgt_toNat]
  unfold flip8
  rw [show (if x.toNat / 2 ^ (p % 8) % 2 = 1 then x.toNat - 2 ^ (p % 8) else x.toNat + 2 ^ (p % 8)) = x.toNat ^^^ 2 ^ (p % 8) from h]
  show _ = (UInt8.ofNat _).toNat
  rw [UInt8.toNat_ofNat']
  exact (Nat.mod_eq_of_lt hx).symm
theorem bit_cat {N B M : Nat} {L : Nat → List UInt8} (h : Dm N B M L) (p : Nat) (hp : p / 8 < M * B) : (((cat M L).getD (p / 8) 0).toNat / 2 ^ (p % 8) % 2 == 1) = bitP B L p := by
  rw [cat_get (fun k hk => h.len k (by have := h.mn; omega)) _ hp]
  rfl
theorem turn_cat {N B M : Nat} {L : Nat → List UInt8} (h : Dm N B M L) (p : Nat) (hp : p / 8 < M * B) : (cat M L).set (p / 8) (flip8 ((cat M L).getD (p / 8) 0) (p % 8)) = cat M (turnP B L p) := by
  have hl : ∀ k, k < M → (L k).length = B := fun k hk => h.len k (by have := h.mn; omega)
  rw [cat_set hl _ hp, cat_get hl _ hp]
  rfl
theorem page_lt {N B M : Nat} {L : Nat → List UInt8} (h : Dm N B M L) (p : Nat) (hp : p < N) : p / 8 < M * B := by
  have h1 := h.m
  have h2 : 8 * B * M = 8 * (M * B) := by rw [Nat.mul_assoc, Nat.mul_comm B M]
  rw [h2] at h1
  omega
end Go.Proofs.Ytjoglmkiphdfiaa.Rp
