/- The closures of a field. Conditions: none. -/
import Derived.Test.YtlnghdldecnmgaaK3
set_option maxRecDepth 8000
set_option linter.unusedSimpArgs false
set_option linter.unusedVariables false
namespace Go.Kx
open Go.RowKit Go.Bs
def fnT (isb : Bool) : Value := .func (.func (if isb then 30 else 29)) #[] #[]
def fnN (ism : Bool) : Value := .func (.func (if ism then 32 else 31)) #[] #[]
def ptr (q : Nat) : Value := .pointer (some ⟨q, 0, none⟩)
end Go.Kx
namespace Go.Proofs.Ytlnghdldecnmgaa
open Go.RowKit Go.Bs Go.Kx

theorem app_st (x y : List UInt8) : (⟨x.toArray⟩ : ByteArray) ++ (⟨y.toArray⟩ : ByteArray) = ⟨(x ++ y).toArray⟩ := by
  apply ByteArray.ext
  simp
theorem add_str (x y : List UInt8) (h : x.length + y.length ≤ 9223372036854775807) (W : World) : (Op.stringOp .add ⟨x.toArray⟩ ⟨y.toArray⟩).run Try.prog W = .ok (st (x ++ y)) W := by
  rw [run_string_add_sum (P := Try.prog) W _ _ (by show x.toArray.size + y.toArray.size ≤ _; simpa using h), app_st]
  rfl
theorem add_st (x y : List UInt8) (h : x.length + y.length ≤ 9223372036854775807) (W : World) : (binOp BinOp.add 9 (st x) (st y)).run Try.prog W = .ok (st (x ++ y)) W := by
  have h1 := add_str x y h W
  unfold st at h1 ⊢
  go_simp
theorem at29_any (w : World) (z : Nat) : Calls Try.prog 29 #[.pointer (some ⟨z, 0, none⟩)] w fun e w' => e = .returned (.pointer (some ⟨z, 1, none⟩)) ∧ w = w' := by
  go_enter Try.func29, Try.ntmps29
  go_wp2
  go_ret
  exact ⟨rfl, rfl⟩
theorem at30_any (w : World) (z : Nat) : Calls Try.prog 30 #[.pointer (some ⟨z, 0, none⟩)] w fun e w' => e = .returned (.pointer (some ⟨z, 2, none⟩)) ∧ w = w' := by
  go_enter Try.func30, Try.ntmps30
  go_wp2
  go_ret
  exact ⟨rfl, rfl⟩
theorem at31_any (w : World) (z : Nat) : Calls Try.prog 31 #[.pointer (some ⟨z, 0, none⟩)] w fun e w' => e = .returned (.pointer (some ⟨z, 3, none⟩)) ∧ w = w' := by
  go_enter Try.func31, Try.ntmps31
  go_wp2
  go_ret
  exact ⟨rfl, rfl⟩
theorem at32_any (w : World) (z : Nat) : Calls Try.prog 32 #[.pointer (some ⟨z, 0, none⟩)] w fun e w' => e = .returned (.pointer (some ⟨z, 4, none⟩)) ∧ w = w' := by
  go_enter Try.func32, Try.ntmps32
  go_wp2
  go_ret
  exact ⟨rfl, rfl⟩
set_option maxHeartbeats 1000000 in
theorem nameTake_any (w : World) (z q : Nat) (k : Ky) (isb : Bool) (hk : KyAt w z k) (hq : w.cell? ⟨q, 0, none⟩ = some (fnT isb)) (hl : (k.txt isb).length ≤ 140737488351232) :
    Calls Try.prog 40 #[.pointer (some ⟨z, 0, none⟩), .pointer (some ⟨q, 0, none⟩)] w fun e w' => e = .returned (.tuple #[st (k.txt isb), .bool (nameL (k.txt isb))]) ∧ KyAt w' z (k.setT isb []) ∧ Fr (· = z) w w' := by
  have HE : Hid (KyAt (w.setCell ⟨z, if isb then 2 else 1, none⟩ (st [])) z (k.setT isb []) ∧ Fr (· = z) w (w.setCell ⟨z, if isb then 2 else 1, none⟩ (st []))) := ⟨hk.setT isb [], (Fr.refl (· = z) w).setCell (.inl rfl) _⟩
  obtain ⟨c0, c1, c2, c3, c4, fz⟩ := hk.at
  have fz1 := fz 1
  have fz2 := fz 2
  have hz := hk.lt
  have HN := Lib.hid (fun W => isName_any (k.txt isb) W hl)
  obtain ⟨R, hR⟩ : ∃ R, nameL (k.txt isb) = R := ⟨_, rfl⟩
  rw [hR] at HN ⊢
  clear hk fz hR
  cases isb
  · simp only [Ky.txt, Bool.false_eq_true, if_false] at HE HN ⊢
    simp only [fnT, Bool.false_eq_true, if_false] at hq
    go_enter Try.func40, Try.ntmps40
    go_wp2_with fail
    refine (at29_any _ z).mono ?_
    rintro e w' ⟨rfl, rfl⟩
    go_wp2_with fail
    refine (at29_any _ z).mono ?_
    rintro e w' ⟨rfl, rfl⟩
    go_wp2_with fail
    refine (HN.out _).mono ?_
    rintro e w' ⟨rfl, rfl⟩
    go_wp2
    go_ret2
    exact ⟨rfl, HE.out⟩
  · simp only [Ky.txt, if_true] at HE HN ⊢
    simp only [fnT, if_true] at hq
    go_enter Try.func40, Try.ntmps40
    go_wp2_with fail
    refine (at30_any _ z).mono ?_
    rintro e w' ⟨rfl, rfl⟩
    go_wp2_with fail
    refine (at30_any _ z).mono ?_
    rintro e w' ⟨rfl, rfl⟩
    go_wp2_with fail
    refine (HN.out _).mono ?_
    rintro e w' ⟨rfl, rfl⟩
    go_wp2
    go_ret2
    exact ⟨rfl, HE.out⟩
set_option maxHeartbeats 1000000 in
theorem nameRead_any (w : World) (z q : Nat) (k : Ky) (isb : Bool) (l : List UInt8) (hk : KyAt w z k) (hq : w.cell? ⟨q, 0, none⟩ = some (fnT isb)) :
    Calls Try.prog 42 #[.pointer (some ⟨z, 0, none⟩), st l, .pointer (some ⟨q, 0, none⟩)] w fun e w' => e = .returned (st []) ∧ KyAt w' z (k.setT isb l) ∧ Fr (· = z) w w' := by
  have HE : Hid (KyAt (w.setCell ⟨z, if isb then 2 else 1, none⟩ (st l)) z (k.setT isb l) ∧ Fr (· = z) w (w.setCell ⟨z, if isb then 2 else 1, none⟩ (st l))) := ⟨hk.setT isb l, (Fr.refl (· = z) w).setCell (.inl rfl) _⟩
  obtain ⟨c0, c1, c2, c3, c4, fz⟩ := hk.at
  have fz1 := fz 1
  have fz2 := fz 2
  have hz := hk.lt
  clear hk fz
  cases isb
  · simp only [Bool.false_eq_true, if_false] at HE ⊢
    simp only [fnT, Bool.false_eq_true, if_false] at hq
    unfold st at c1 c2 HE ⊢
    go_enter Try.func42, Try.ntmps42
    go_wp2
    go_ret
    exact ⟨rfl, HE.out⟩
  · simp only [if_true] at HE ⊢
    simp only [fnT, if_true] at hq
    unfold st at c1 c2 HE ⊢
    go_enter Try.func42, Try.ntmps42
    go_wp2
    go_ret
    exact ⟨rfl, HE.out⟩
set_option maxHeartbeats 1000000 in
theorem endTake_any (w : World) (z q q' : Nat) (k : Ky) (hk : KyAt w z k) (h0 : w.cell? ⟨q', 0, none⟩ = some (.func (.func 40) #[] #[ptr q])) (hq : w.cell? ⟨q, 0, none⟩ = some (fnT false)) (hl : k.a.length ≤ 140737488351232) :
    Calls Try.prog 43 #[.pointer (some ⟨z, 0, none⟩), .pointer (some ⟨q', 0, none⟩)] w fun e w' => (e = .returned (.tuple #[if nameL k.a then st (k.a ++ [0]) else st [], .bool (nameL k.a)])) ∧ KyAt w' z (k.setT false []) ∧ Fr (· = z) w w' := by
  have HT := Lib.hid (nameTake_any w z q k false hk hq hl)
  have hz := hk.lt
  unfold ptr at h0
  simp only [Ky.txt, Bool.false_eq_true, if_false] at HT
  clear hk hq
  obtain ⟨R, hR⟩ : ∃ R, nameL k.a = R := ⟨_, rfl⟩
  rw [hR] at HT ⊢
  have HL : R = true → Hid (k.a.length ≤ 64) := fun h => (nameL_no (hR.trans h)).2.2.2
  clear hR
  go_enter Try.func43, Try.ntmps43
  go_wp2_with fail
  refine HT.out.mono ?_
  rintro e w1 ⟨rfl, hh⟩
  have HE := Lib.hid hh
  clear hh
  cases R
  · go_wp2
    go_ret2
    exact ⟨rfl, HE.out⟩
  · have hl64 := (HL rfl).out
    have hsz : (⟨k.a.toArray⟩ : ByteArray).size = k.a.length := size_list k.a
    have hadd := add_st k.a [0] (by simp; omega)
    have e0 : st [0] = .string ⟨#[0]⟩ := rfl
    rw [e0] at hadd
    go_wp2
    go_ret2
    exact ⟨rfl, HE.out⟩
end Go.Proofs.Ytlnghdldecnmgaa
