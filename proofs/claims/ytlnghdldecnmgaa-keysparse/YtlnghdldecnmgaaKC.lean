/- Bytes. Conditions: none. -/
import Derived.Test.YtlnghdldecnmgaaKB
set_option maxRecDepth 8000
set_option linter.unusedSimpArgs false
set_option linter.unusedVariables false
namespace Go.Kx
open Go.RowKit Go.Bs
theorem fields_ok (kind : Int) : (∀ f ∈ fields kind, OkF f) ∧ (fields kind).length ≤ 2 := by
  unfold fields
  split <;> simp [OkF, fin]
def BytesE (k : Ky) (e : Ending) : Prop := match bytesF k with
  | some s => e = .returned (.tuple #[st s, .int .i64 0])
  | none => e = .returned (.tuple #[st [], .int .i64 1])
end Go.Kx
namespace Go.Proofs.Ytlnghdldecnmgaa
open Go.RowKit Go.Bs Go.Kx

theorem neq_ky (x y : Ky) (W : World) : (binOp BinOp.neq 23 x.val y.val).run Try.prog W = .ok (.bool (decide (x ≠ y))) W := by
  obtain ⟨k, a, b, n, m⟩ := x
  obtain ⟨k', a', b', n', m'⟩ := y
  unfold Ky.val st
  go_simp
  by_cases h1 : k = k' <;> by_cases h2 : a = a' <;> by_cases h3 : b = b' <;> by_cases h4 : n = n' <;> by_cases h5 : m = m' <;> simp [h1, h2, h3, h4, h5]
theorem eql_ky (x y : Ky) (W : World) : (binOp BinOp.eql 23 x.val y.val).run Try.prog W = .ok (.bool (decide (x = y))) W := by
  obtain ⟨k, a, b, n, m⟩ := x
  obtain ⟨k', a', b', n', m'⟩ := y
  unfold Ky.val st
  go_simp
  by_cases h1 : k = k' <;> by_cases h2 : a = a' <;> by_cases h3 : b = b' <;> by_cases h4 : n = n' <;> by_cases h5 : m = m' <;> simp [h1, h2, h3, h4, h5]
set_option maxHeartbeats 4000000 in
theorem Bytes_any (k : Ky) (w : World) (hbd : Bd k) : Calls Try.prog 11 #[k.val] w fun e w' => BytesE k e ∧ Below w.heap.size w w' := by
  obtain ⟨g, hg⟩ : ∃ g, w.heap.size = g := ⟨_, rfl⟩
  rw [hg]
  obtain ⟨W2, hW2⟩ : ∃ W2, (w.alloc (.cells k.cells 23)).alloc (.cells k.cells 23) = W2 := ⟨_, rfl⟩
  have hk0 : KyAt W2 g k := by
    rw [← hW2, ← hg]
    exact (KyAt.new w k).keep ((Below.refl _ _).alloc (Nat.le_refl _) _)
  have hk1 : KyAt W2 (g + 1) k := by
    have := KyAt.new (w.alloc (.cells k.cells 23)) k
    rw [hW2] at this
    simpa [hg] using this
  have hs2 : W2.heap.size = g + 2 := by rw [← hW2]; simp [hg]
  have hb2 : Below g w W2 := by
    rw [← hW2, ← hg]
    exact ((Below.refl _ _).alloc (Nat.le_refl _) _).alloc (by simp) _
  have HFO := Lib.hid (fieldsOf_any W2 k.kind)
  have HK0 := Lib.hid hk0
  have HK1 := Lib.hid hk1
  have HS2 := Lib.hid hs2
  have HB2 := Lib.hid hb2
  have HG := Lib.hid hg
  have HBD := Lib.hid hbd
  have hBF : ∀ r, lay (fields k.kind) k = r → bytesF k = (match r with | none => none | some (left, s) => if left = noneK k.kind then some s else none) := fun r hr => by
    unfold bytesF
    rw [hr]
    rfl
  have HBFF := Lib.hid hBF
  obtain ⟨c0, _⟩ := hk0.at
  clear hk0 hk1 hs2 hb2 hbd hBF
  unfold Ky.val
  unfold Ky.cells at hW2
  obtain ⟨SA, hSA⟩ : ∃ SA, st k.a = .string SA := ⟨_, rfl⟩
  obtain ⟨SB, hSB⟩ : ∃ SB, st k.b = .string SB := ⟨_, rfl⟩
  rw [hSA, hSB] at hW2 ⊢
  have HW2 := Lib.hid hW2
  have HSA := Lib.hid hSA
  have HSB := Lib.hid hSB
  clear hW2 hSA hSB
  go_enter Try.func11, Try.ntmps11
  go_wp2_with fail
  rw [HW2.out]
  refine HFO.out.mono ?_
  rintro e w1 ⟨v, rfl, hfs, hb1⟩
  have hl := lay_any w1 (g + 1) W2.heap.size k (fields k.kind) v (HK1.out.keep hb1) hfs (by rw [HS2.out]; omega) hb1.size HBD.out (fields_ok _).1 (fields_ok _).2
  have HK0' : Hid (KyAt w1 g k ∧ Below g w w1) := ⟨HK0.out.keep hb1, HB2.out.trans (hb1.mono (by rw [HS2.out]; omega))⟩
  obtain ⟨r, hr⟩ : ∃ r, lay (fields k.kind) k = r := ⟨_, rfl⟩
  rw [hr] at hl
  have HBF := Lib.hid (HBFF.out r hr)
  have HL := Lib.hid hl
  clear hl hr hb1 hfs HFO HK0
  go_wp2_with fail
  refine HL.out.mono ?_
  rintro e w2 ⟨hf2, he⟩
  have HB3 : Hid (Below g w w2) := HK0'.out.2.trans (hf2.below (fun i e => by have : i = g + 1 := e; omega) (by have h1 := HK0'.out.2.size; have h2 := HG.out; omega))
  cases r with
  | none =>
    obtain rfl := he
    clear hf2
    go_wp2
    go_ret2
    refine ⟨?_, HB3.out⟩
    unfold BytesE
    rw [HBF.out]
    rfl
  | some r =>
    obtain ⟨left, s⟩ := r
    obtain ⟨rfl, hkl⟩ := he
    have hk0 := HK0'.out.1.fr hf2 (by show ¬ g = g + 1; omega)
    obtain ⟨d0, _⟩ := hk0.at
    obtain ⟨l0, l1, l2, l3, l4, _⟩ := hkl.at
    clear hf2 hkl hk0
    have hcmp : ∀ W, (binOp BinOp.neq 23 (.agg #[.int .i64 left.kind, st left.a, st left.b, .int .i64 left.n, .int .i64 left.m]) (.agg #[.int .i64 k.kind, .string ⟨#[]⟩, .string ⟨#[]⟩, .int .i64 0, .int .i64 0])).run Try.prog W = .ok (.bool (decide (left ≠ noneK k.kind))) W := fun W => neq_ky left (noneK k.kind) W
    obtain ⟨kk, hkk⟩ : ∃ kk, left = kk := ⟨_, rfl⟩
    by_cases heq : left = noneK k.kind
    · have hd : decide (left ≠ noneK k.kind) = false := by simp [heq]
      simp only [hd] at hcmp
      have HQ := Lib.hid heq
      clear heq hd hkk
      go_wp2
      go_ret2
      refine ⟨?_, HB3.out⟩
      unfold BytesE
      rw [HBF.out]
      simp only [HQ.out, if_true]
      rfl
    · have hd : decide (left ≠ noneK k.kind) = true := by simp [heq]
      simp only [hd] at hcmp
      have HQ := Lib.hid heq
      clear heq hd hkk
      go_wp2
      go_ret2
      refine ⟨?_, HB3.out⟩
      unfold BytesE
      rw [HBF.out]
      simp only [if_neg HQ.out]
      rfl
set_option maxHeartbeats 1000000 in
theorem Check_any (k : Ky) (w : World) (hbd : Bd k) : Calls Try.prog 10 #[k.val] w fun e w' => e = .returned (.int .i64 (if (bytesF k).isSome then 0 else 1)) ∧ Below w.heap.size w w' := by
  obtain ⟨g, hg⟩ : ∃ g, w.heap.size = g := ⟨_, rfl⟩
  rw [hg]
  obtain ⟨W2, hW2⟩ : ∃ W2, w.alloc (.cells k.cells 23) = W2 := ⟨_, rfl⟩
  have HB := Lib.hid (Bytes_any k W2 hbd)
  have HB2 : Hid (Below g w W2 ∧ g ≤ W2.heap.size) := by rw [← hW2, ← hg]; exact ⟨(Below.refl _ _).alloc (Nat.le_refl _) _, by simp⟩
  unfold Ky.val at HB ⊢
  unfold Ky.cells at hW2
  obtain ⟨SA, hSA⟩ : ∃ SA, st k.a = .string SA := ⟨_, rfl⟩
  obtain ⟨SB, hSB⟩ : ∃ SB, st k.b = .string SB := ⟨_, rfl⟩
  rw [hSA, hSB] at hW2 HB ⊢
  have HW2 := Lib.hid hW2
  have HBF : Hid (∀ r, bytesF k = r → bytesF k = r) := fun r h => h
  unfold BytesE at HB
  obtain ⟨r, hr⟩ : ∃ r, bytesF k = r := ⟨_, rfl⟩
  rw [hr] at HB ⊢
  clear hW2 hSA hSB hr HBF
  go_enter Try.func10, Try.ntmps10
  go_wp2_with fail
  rw [HW2.out]
  refine HB.out.mono ?_
  rintro e w2 ⟨he, hb⟩
  have HB3 : Hid (Below g w w2) := HB2.out.1.trans (hb.mono HB2.out.2)
  clear hb
  cases r with
  | none =>
    obtain rfl := he
    go_wp2
    go_ret
    exact ⟨rfl, HB3.out⟩
  | some s =>
    obtain rfl := he
    go_wp2
    go_ret
    exact ⟨rfl, HB3.out⟩
end Go.Proofs.Ytlnghdldecnmgaa
