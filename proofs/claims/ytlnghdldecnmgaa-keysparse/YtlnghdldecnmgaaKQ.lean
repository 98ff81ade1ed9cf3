/- The chapter's examples; small keys. Conditions: none. -/
import Derived.Test.YtlnghdldecnmgaaKF
set_option maxRecDepth 8000
set_option linter.unusedSimpArgs false
set_option linter.unusedVariables false
namespace Go.Proofs.Ytlnghdldecnmgaa
open Go.RowKit Go.Bs Go.Kx
theorem ex1 : bytesF ⟨3, [], [], 258, 1⟩ = some [99, 0, 1, 2, 0, 1] := by decide +kernel
theorem ex2 : prefixF ⟨6, [97], [], 0, 0⟩ = some [114, 97, 0] := by decide +kernel
theorem ex3 : parseF [113] = none := by decide +kernel
theorem ex4 : parseF [114, 97, 0, 98] = some ⟨6, [97], [98], 0, 0⟩ := by decide +kernel
set_option maxHeartbeats 2000000 in
theorem awake_any (w : World) : Calls Try.prog 15 #[] w fun e w' => e = .returned (.bool true) ∧ Below w.heap.size w w' := by
  have H1 := Lib.hid (Bytes_any ⟨3, [], [], 258, 1⟩ w ⟨by simp, by simp, by simp, by simp⟩)
  have H2 := Lib.hid (fun W => Prefix_any ⟨6, [97], [], 0, 0⟩ W ⟨by simp, by simp, by simp, by simp⟩)
  have H3 := Lib.hid (fun W => Parse_any [113] W (by simp))
  have H4 := Lib.hid (fun W => Parse_any [114, 97, 0, 98] W (by simp))
  unfold BytesE at H1
  unfold PrefixE at H2
  unfold ParseE at H3 H4
  rw [ex1] at H1
  rw [ex2] at H2
  rw [ex3] at H3
  rw [ex4] at H4
  go_enter Try.func15, Try.ntmps15
  go_wp2_with fail
  refine H1.out.mono ?_
  rintro e w1 ⟨rfl, hb1⟩
  have HB1 := Lib.hid hb1
  clear hb1
  unfold st
  go_wp2_with fail
  refine (H2.out _).mono ?_
  rintro e w2 ⟨rfl, hb2⟩
  have HB2 : Hid (Below w.heap.size w w2) := HB1.out.trans (hb2.mono HB1.out.size)
  clear hb2
  unfold st
  go_wp2_with fail
  refine (H3.out _).mono ?_
  rintro e w3 ⟨rfl, hb3⟩
  have HB3 : Hid (Below w.heap.size w w3) := HB2.out.trans (hb3.mono HB2.out.size)
  clear hb3
  simp only [noneK, Ky.val, st]
  go_wp2_with fail
  refine (H4.out _).mono ?_
  rintro e w4 ⟨rfl, hb4⟩
  have HB4 : Hid (Below w.heap.size w w4) := HB3.out.trans ((((Below.refl _ _).alloc HB3.out.size _).trans (hb4.mono (by have := HB3.out.size; simp; omega))))
  have HS4 : Hid (w.heap.size ≤ w4.heap.size) := HB4.out.size
  clear hb4
  simp only [Ky.val, st]
  go_wp2
  go_ret
  exact ⟨rfl, HB4.out.alloc HS4.out _⟩
set_option maxHeartbeats 1000000 in
theorem small_any (k : Ky) (w : World) (ha : k.a.length ≤ 140737488351232) (hb : k.b.length ≤ 140737488351232) : Calls Try.prog 9 #[k.val] w fun e w' => e = .returned (.bool (decide (k.a.length + k.b.length ≤ 1000))) ∧ Below w.heap.size w w' := by
  have HB : Hid (Below w.heap.size w (w.alloc (.cells k.cells 23))) := (Below.refl _ _).alloc (Nat.le_refl _) _
  obtain ⟨SA, hsa⟩ : ∃ SA, st k.a = .string SA := ⟨_, rfl⟩
  obtain ⟨SB, hsb⟩ : ∃ SB, st k.b = .string SB := ⟨_, rfl⟩
  have ha2 : SA.size = k.a.length := by
    unfold st at hsa
    simp only [Value.string.injEq] at hsa
    rw [← hsa]; exact size_list _
  have hb2 : SB.size = k.b.length := by
    unfold st at hsb
    simp only [Value.string.injEq] at hsb
    rw [← hsb]; exact size_list _
  unfold Ky.val
  unfold Ky.cells at HB
  rw [hsa, hsb] at HB ⊢
  obtain ⟨x, hx⟩ : ∃ x, k.a.length = x := ⟨_, rfl⟩
  obtain ⟨y, hy⟩ : ∃ y, k.b.length = y := ⟨_, rfl⟩
  rw [hx] at ha ha2 ⊢
  rw [hy] at hb hb2 ⊢
  have hw : IntKind.i64.wrap ((x : Int) + (y : Int)) = (x : Int) + (y : Int) := IntWalk.i64_in _ (by omega)
  clear hsa hsb hx hy
  by_cases hc : x + y ≤ 1000
  · go_enter Try.func9, Try.ntmps9
    go_wp2
    go_ret
    exact ⟨by simp [hc] <;> omega, HB.out⟩
  · go_enter Try.func9, Try.ntmps9
    go_wp2
    go_ret
    exact ⟨by simp [hc] <;> omega, HB.out⟩
end Go.Proofs.Ytlnghdldecnmgaa
