/- The document's Prefix, whole; its Has; its reading in plain words. Conditions: none. -/
import Derived.Test.YtlnghdldecnmgaaKN
import Derived.Test.YtlnghdldecnmgaaKN2
set_option maxRecDepth 8000
set_option linter.unusedSimpArgs false
set_option linter.unusedVariables false
namespace Go.Kx
open Go.RowKit Go.Bs
/-- what the document's Prefix tells. -/
def PreR (k : Ky) (e : Ending) : Prop := ∃ s ok, e = .returned (.tuple #[st s, .bool ok]) ∧ (ok = true → prefixF k = some s) ∧ (ok = false → prefixF k = none)
def hasF (k o : Ky) : Bool := decide (k.kind = o.kind) && (if k.kind = 3 ∨ k.kind = 4 then decide (k.n = o.n) else if k.kind = 6 ∨ k.kind = 7 ∨ k.kind = 9 then decide (k.a = o.a) else true)
/-- where the first 00 stands, or the end. -/
def zat (l : List UInt8) : Nat := (l.takeWhile (· != 0)).length
def refR (kd : Int) (r : List UInt8) : Option Ky :=
  if kd = 2 then (if r.length < 3 then none else some ⟨2, [], [], (beN (r.take 3) : Nat), 0⟩)
  else if kd = 3 then (if r.length < 5 then none else some ⟨3, [], [], (beN (r.take 3) : Nat), ((256 * (r.getD 3 0).toNat + (r.getD 4 0).toNat : Nat) : Int)⟩)
  else if kd = 4 then (if r.length < 3 then none else some ⟨4, r.drop 3, [], (beN (r.take 3) : Nat), 0⟩)
  else if kd = 6 ∨ kd = 7 then (if zat r = r.length then none else some ⟨kd, r.take (zat r), r.drop (zat r + 1), 0, 0⟩)
  else if kd = 9 then (if zat r = r.length ∨ r.length - zat r < 4 then none else some ⟨9, r.take (zat r), [], (beN ((r.drop (zat r + 1)).take 3) : Nat), 0⟩)
  else some ⟨kd, r, [], 0, 0⟩
theorem zat_cases (l : List UInt8) : (zat l = l.length ∧ ∀ j, j < l.length → l.getD j 0 ≠ 0) ∨ (zat l < l.length ∧ l.getD (zat l) 0 = 0 ∧ ∀ j, j < zat l → l.getD j 0 ≠ 0) := by
  induction l with
  | nil => exact .inl ⟨rfl, fun j hj => absurd hj (by simp)⟩
  | cons x l ih =>
    by_cases hx : x = 0
    · subst hx
      refine .inr ⟨by simp [zat], by simp [zat], fun j hj => ?_⟩
      simp [zat] at hj
    · have h3 : (x != 0) = true := by simpa using hx
      have hz : zat (x :: l) = zat l + 1 := by simp [zat, List.takeWhile_cons, h3]
      rcases ih with ⟨a, b⟩ | ⟨a, b, c⟩
      · refine .inl ⟨by rw [hz, a]; rfl, fun j hj => ?_⟩
        cases j with
        | zero => simpa using hx
        | succ j => simpa using b j (by simpa using hj)
      · refine .inr ⟨by rw [hz]; simpa using a, by rw [hz]; simpa using b, fun j hj => ?_⟩
        cases j with
        | zero => simpa using hx
        | succ j => simpa using c j (by rw [hz] at hj; omega)
theorem zat_le (l : List UInt8) : zat l ≤ l.length := (List.takeWhile_sublist _).length_le
theorem zat_app {a r : List UInt8} (h : a.contains 0 = false) : zat (a ++ 0 :: r) = a.length := by
  unfold zat
  rw [(take_cut h).1]
theorem is_refR {k : Ky} {x : UInt8} {r : List UInt8} (h : Is k (x :: r)) : refR (ix letters x + 1) r = some k := by
  generalize hs : x :: r = s at h
  cases h with
  | count =>
    injection hs with e1 e2
    subst e1; subst e2
    decide
  | inode n h1 h2 =>
    injection hs with e1 e2
    subst e1; subst e2
    have e0 : ix letters 105 + 1 = 2 := by decide
    have e := (take_be n 3 []).1
    rw [List.append_nil] at e
    simp only [refR, e0, if_true]
    rw [if_neg (by rw [be_length]; omega), e, beN_be, Nat.mod_eq_of_lt (by omega)]
  | chunk n m h1 h2 h3 =>
    injection hs with e1 e2
    subst e1; subst e2
    have e0 : ix letters 99 + 1 = 3 := by decide
    have e := take_be n 3 (be 2 m)
    simp only [refR, e0]
    rw [if_neg (by omega), if_pos True.intro, if_neg (by simp [be_length]), e.1, beN_be, Nat.mod_eq_of_lt (by omega)]
    have g3 : (be 3 n ++ be 2 m).getD 3 0 = byteAt m 1 := rfl
    have g4 : (be 3 n ++ be 2 m).getD 4 0 = byteAt m 0 := rfl
    rw [g3, g4, byteAt_toNat, byteAt_toNat]
    congr 2
    omega
  | entry n a h1 h2 h3 =>
    injection hs with e1 e2
    subst e1; subst e2
    have e0 : ix letters 100 + 1 = 4 := by decide
    have e := take_be n 3 a
    simp only [refR, e0]
    rw [if_neg (by omega), if_neg (by omega), if_pos True.intro, if_neg (by simp [be_length]), e.1, e.2, beN_be, Nat.mod_eq_of_lt (by omega)]
  | one kind a hk h =>
    injection hs with e1 e2
    subst e1; subst e2
    rw [ix_letterOf kind (by omega)]
    rcases hk with rfl | rfl | rfl <;> rfl
  | two kind a b hk h h' =>
    injection hs with e1 e2
    subst e1; subst e2
    rw [ix_letterOf kind (by omega)]
    have hz := zat_app (r := b) (nameL_no h).1
    have e2 : (a ++ 0 :: b).drop (a.length + 1) = b := by rw [← List.drop_drop]; simp
    rcases hk with rfl | rfl <;>
      (simp only [refR]
       rw [if_neg (by omega), if_neg (by omega), if_neg (by omega), if_pos (by simp), if_neg (by rw [hz]; simp <;> omega), hz, e2]
       simp)
  | gen a n h h2 =>
    injection hs with e1 e2
    subst e1; subst e2
    have e0 : ix letters 103 + 1 = 9 := by decide
    have hz := zat_app (r := be 3 n) (nameL_no h).1
    have e2 : (a ++ 0 :: be 3 n).drop (a.length + 1) = be 3 n := by rw [← List.drop_drop]; simp
    have e := (take_be n 3 []).1
    rw [List.append_nil] at e
    simp only [refR, e0]
    rw [if_neg (by omega), if_neg (by omega), if_neg (by omega), if_neg (by omega), if_pos True.intro, if_neg (by rw [hz]; simp [be_length] <;> omega), hz, e2, e, beN_be, Nat.mod_eq_of_lt (by omega)]
    simp
/-- what the document's reading comes to. -/
theorem refR_parse (x : UInt8) (r : List UInt8) : parseF (x :: r) = match refR (ix letters x + 1) r with
    | none => none
    | some k => if bytesF k = some (x :: r) then some k else none := by
  cases hp : parseF (x :: r) with
  | some k =>
    have h := (parseF_iff _ _).1 hp
    rw [is_refR h]
    simp only
    rw [if_pos h.bytes]
  | none =>
    cases hr : refR (ix letters x + 1) r with
    | none => rfl
    | some k =>
      simp only
      by_cases hb : bytesF k = some (x :: r)
      · have := (parseF_iff _ _).2 (bytesF_is hb)
        rw [hp] at this
        cases this
      · rw [if_neg hb]
theorem parse_nil : parseF [] = none := by decide
theorem parse_noletter (x : UInt8) (r : List UInt8) (h : ix letters x = -1) : parseF (x :: r) = none := by
  have : ∀ k, ¬ Is k (x :: r) := by
    intro k hk
    obtain ⟨r', e⟩ := hk.head
    injection e with e1 _
    have := ix_letterOf k.kind hk.kind
    rw [← e1, h] at this
    have := hk.kind
    omega
  cases hp : parseF (x :: r) with
  | none => rfl
  | some k => exact absurd ((parseF_iff _ _).1 hp) (this k)
end Go.Kx
namespace Go.Proofs.Ytlnghdldecnmgaa
open Go.RowKit Go.Bs Go.Kx
set_option maxHeartbeats 1000000 in
theorem rPrefix_any (k : Ky) (w : World) (hb : Bd k) : Calls Try.prog 13 #[k.val] w fun e w' => PreR k e ∧ Below w.heap.size w w' := by
  by_cases hk : 1 ≤ k.kind ∧ k.kind ≤ 10
  · obtain ⟨kind, a, b, n, m⟩ := k
    obtain ⟨hla, hlb, hn, hm⟩ := hb
    simp only at hk hla hlb hn
    rcases kinds hk with rfl | rfl | rfl | rfl | rfl | rfl | rfl | rfl | rfl | rfl
    · exact rPrefix_1 a b n m w _ _ _ rfl rfl rfl hla hlb
    · exact rPrefix_2 a b n m w _ _ _ rfl rfl rfl hla hlb
    · exact rPrefix_3 a b n m w _ _ _ rfl rfl rfl hla hlb hn
    · exact rPrefix_4 a b n m w _ _ _ rfl rfl rfl hla hlb hn
    · exact rPrefix_5 a b n m w _ _ _ rfl rfl rfl hla hlb
    · exact rPrefix_6 a b n m w _ _ _ rfl rfl rfl hla hlb
    · exact rPrefix_7 a b n m w _ _ _ rfl rfl rfl hla hlb
    · exact rPrefix_8 a b n m w _ _ _ rfl rfl rfl hla hlb
    · exact rPrefix_9 a b n m w _ _ _ rfl rfl rfl hla hlb
    · exact rPrefix_10 a b n m w _ _ _ rfl rfl rfl hla hlb
  · have HP := Lib.hid (prefix_none k hk)
    have HB : Hid (Below w.heap.size w (w.alloc (.cells k.cells 23))) := (Below.refl _ _).alloc (Nat.le_refl _) _
    unfold Ky.val
    unfold Ky.cells at HB
    by_cases h1 : k.kind < 1
    · go_enter Try.func13, Try.ntmps13
      go_wp2
      go_ret2
      exact ⟨⟨[], false, rfl, fun h => (by cases h), fun _ => HP.out⟩, HB.out⟩
    · have h2 : 10 < k.kind := by omega
      go_enter Try.func13, Try.ntmps13
      go_wp2
      go_ret2
      exact ⟨⟨[], false, rfl, fun h => (by cases h), fun _ => HP.out⟩, HB.out⟩

set_option maxHeartbeats 2000000 in
theorem rHas_any (k o : Ky) (w : World) : Calls Try.prog 19 #[k.val, o.val] w fun e w' => e = .returned (.bool (hasF k o)) ∧ Below w.heap.size w w' := by
  obtain ⟨R, hR⟩ : ∃ R, hasF k o = R := ⟨_, rfl⟩
  rw [hR]
  have HR := Lib.hid hR
  have HB : Hid (Below w.heap.size w ((w.alloc (.cells k.cells 23)).alloc (.cells o.cells 23))) := ((Below.refl _ _).alloc (Nat.le_refl _) _).alloc (by simp) _
  unfold Ky.val
  unfold Ky.cells at HB
  unfold st at HB ⊢
  clear hR
  by_cases hk : k.kind = o.kind
  · obtain ⟨kd, hkd⟩ : ∃ kd, o.kind = kd := ⟨_, rfl⟩
    rw [hk, hkd] at HB ⊢
    have HK : Hid (k.kind = kd ∧ o.kind = kd) := ⟨hk.trans hkd, hkd⟩
    clear hk hkd
    by_cases k3 : kd = 3
    · subst k3
      by_cases hn : k.n = o.n
      · have H9 : Hid (R = true) := by show R = true; rw [← HR.out]; simp [hasF, HK.out.1, HK.out.2, hn]
        try rw [hn] at HB
        clear HR
        go_enter Try.func19, Try.ntmps19
        go_wp2
        go_ret
        exact ⟨by rw [H9.out] <;> simp [hn], HB.out⟩
      · have H9 : Hid (R = false) := by show R = false; rw [← HR.out]; simp [hasF, HK.out.1, HK.out.2, hn]
        try rw [hn] at HB
        clear HR
        go_enter Try.func19, Try.ntmps19
        go_wp2
        go_ret
        exact ⟨by rw [H9.out] <;> simp [hn], HB.out⟩
    by_cases k4 : kd = 4
    · subst k4
      by_cases hn : k.n = o.n
      · have H9 : Hid (R = true) := by show R = true; rw [← HR.out]; simp [hasF, HK.out.1, HK.out.2, hn]
        try rw [hn] at HB
        clear HR
        go_enter Try.func19, Try.ntmps19
        go_wp2
        go_ret
        exact ⟨by rw [H9.out] <;> simp [hn], HB.out⟩
      · have H9 : Hid (R = false) := by show R = false; rw [← HR.out]; simp [hasF, HK.out.1, HK.out.2, hn]
        try rw [hn] at HB
        clear HR
        go_enter Try.func19, Try.ntmps19
        go_wp2
        go_ret
        exact ⟨by rw [H9.out] <;> simp [hn], HB.out⟩
    by_cases k6 : kd = 6
    · subst k6
      by_cases hn : k.a = o.a
      · have H9 : Hid (R = true) := by show R = true; rw [← HR.out]; simp [hasF, HK.out.1, HK.out.2, hn]
        rw [hn] at HB
        have h5 : (k.a == o.a) = true := by rw [hn]; simp
        clear HR
        go_enter Try.func19, Try.ntmps19
        go_wp2
        go_ret
        exact ⟨by rw [H9.out] <;> simp [hn], HB.out⟩
      · have H9 : Hid (R = false) := by show R = false; rw [← HR.out]; simp [hasF, HK.out.1, HK.out.2, hn]
        have h5 : (k.a == o.a) = false := by rw [beq_eq_false_iff_ne]; exact hn
        clear HR
        go_enter Try.func19, Try.ntmps19
        go_wp2
        go_ret
        exact ⟨by rw [H9.out] <;> simp [hn], HB.out⟩
    by_cases k7 : kd = 7
    · subst k7
      by_cases hn : k.a = o.a
      · have H9 : Hid (R = true) := by show R = true; rw [← HR.out]; simp [hasF, HK.out.1, HK.out.2, hn]
        rw [hn] at HB
        have h5 : (k.a == o.a) = true := by rw [hn]; simp
        clear HR
        go_enter Try.func19, Try.ntmps19
        go_wp2
        go_ret
        exact ⟨by rw [H9.out] <;> simp [hn], HB.out⟩
      · have H9 : Hid (R = false) := by show R = false; rw [← HR.out]; simp [hasF, HK.out.1, HK.out.2, hn]
        have h5 : (k.a == o.a) = false := by rw [beq_eq_false_iff_ne]; exact hn
        clear HR
        go_enter Try.func19, Try.ntmps19
        go_wp2
        go_ret
        exact ⟨by rw [H9.out] <;> simp [hn], HB.out⟩
    by_cases k9 : kd = 9
    · subst k9
      by_cases hn : k.a = o.a
      · have H9 : Hid (R = true) := by show R = true; rw [← HR.out]; simp [hasF, HK.out.1, HK.out.2, hn]
        rw [hn] at HB
        have h5 : (k.a == o.a) = true := by rw [hn]; simp
        clear HR
        go_enter Try.func19, Try.ntmps19
        go_wp2
        go_ret
        exact ⟨by rw [H9.out] <;> simp [hn], HB.out⟩
      · have H9 : Hid (R = false) := by show R = false; rw [← HR.out]; simp [hasF, HK.out.1, HK.out.2, hn]
        have h5 : (k.a == o.a) = false := by rw [beq_eq_false_iff_ne]; exact hn
        clear HR
        go_enter Try.func19, Try.ntmps19
        go_wp2
        go_ret
        exact ⟨by rw [H9.out] <;> simp [hn], HB.out⟩
    · have H9 : Hid (R = true) := by
        show R = true
        rw [← HR.out]
        simp [hasF, HK.out.1, HK.out.2, k3, k4, k6, k7, k9]
      clear HR
      go_enter Try.func19, Try.ntmps19
      go_wp2
      go_ret
      exact ⟨by rw [H9.out]; rfl, HB.out⟩
  · go_enter Try.func19, Try.ntmps19
    go_wp2
    go_ret
    exact ⟨by rw [← HR.out]; simp [hasF, hk], HB.out⟩
end Go.Proofs.Ytlnghdldecnmgaa
