/- Names, copies of texts, texts that are cut. Conditions: none. -/
import Derived.Test.YtlnghdldecnmgaaK2
import Derived.Test.YtlnghdldecnmgaaNum
import Derived.Lib.UnsafeStr
import Derived.WalkSmall
set_option maxRecDepth 8000
set_option linter.unusedSimpArgs false
set_option linter.unusedVariables false
namespace Go.Kx
open Go.RowKit Go.Bs
end Go.Kx
namespace Go.Proofs.Ytlnghdldecnmgaa
open Go.RowKit Go.Bs Go.Kx

set_option maxHeartbeats 400000 in
theorem liteIndex_any (s : ByteArray) (c : UInt8) (w : World) :
    Calls Try.prog 46 #[.string s, B c] w fun e w' => e = .returned (.int .i64 (Lib.indexByte s.data.toList c)) ∧ w = w' := by
  go_enter Try.func46, Try.ntmps46
  go_wp2
  rw [run_callFunc_extern Try.func48 (by kernel_rfl) (by kernel_rfl) (by kernel_rfl) (e := Extern.BytealgIndexByte.indexByte) (by kernel_rfl), Lib.run_indexByteString]
  simp only [Result.andThen_ok]
  go_wp2
  go_ret
  exact ⟨by simp, rfl⟩
set_option maxHeartbeats 400000 in
theorem Index_any (s : ByteArray) (c : UInt8) (w : World) :
    Calls Try.prog 36 #[.string s, B c] w fun e w' => e = .returned (.int .i64 (Lib.indexByte s.data.toList c)) ∧ w = w' := by
  go_enter Try.func36, Try.ntmps36
  go_wp2_with fail
  refine (liteIndex_any s c w).mono ?_
  rintro e w' ⟨rfl, rfl⟩
  go_wp2
  go_ret
  exact ⟨rfl, rfl⟩

set_option maxHeartbeats 400000 in
theorem isName_any (l : List UInt8) (w : World) (hl : l.length ≤ 140737488351232) :
    Calls Try.prog 41 #[st l] w fun e w' => e = .returned (.bool (nameL l)) ∧ w = w' := by
  have hsz : (⟨l.toArray⟩ : ByteArray).size = l.length := size_list l
  have H0 := Lib.hid (fun w => Index_any ⟨l.toArray⟩ 0 w)
  have H1 := Lib.hid (fun w => Index_any ⟨l.toArray⟩ 47 w)
  obtain ⟨x, hx⟩ : ∃ x, ix l 0 = x := ⟨_, rfl⟩
  obtain ⟨y, hy⟩ : ∃ y, ix l 47 = y := ⟨_, rfl⟩
  have hx' : Lib.indexByte (⟨l.toArray⟩ : ByteArray).data.toList 0 = x := hx
  have hy' : Lib.indexByte (⟨l.toArray⟩ : ByteArray).data.toList 47 = y := hy
  rw [hx'] at H0
  rw [hy'] at H1
  have h0 := ix_cases 0 l
  have h1 := ix_cases 47 l
  rw [hx] at h0
  rw [hy] at h1
  have hc0 : Hid ((x < 0 ∧ l.contains 0 = false) ∨ (0 ≤ x ∧ l.contains 0 = true)) := by
    rcases h0 with ⟨a, b, _⟩ | ⟨k, _, a, b, _⟩
    · exact .inl ⟨by omega, b⟩
    · exact .inr ⟨by omega, b⟩
  have hc1 : Hid ((y < 0 ∧ l.contains 47 = false) ∨ (0 ≤ y ∧ l.contains 47 = true)) := by
    rcases h1 with ⟨a, b, _⟩ | ⟨k, _, a, b, _⟩
    · exact .inl ⟨by omega, b⟩
    · exact .inr ⟨by omega, b⟩
  obtain ⟨R, hR⟩ : ∃ R, nameL l = R := ⟨_, rfl⟩
  obtain ⟨n, hn⟩ : ∃ n, l.length = n := ⟨_, rfl⟩
  have HR : Hid (R = (decide (1 ≤ n) && decide (n ≤ 64) && !l.contains 0 && !l.contains 47)) := by rw [← hR, ← hn]; rfl
  rw [hn] at hsz hl
  rw [hR]
  clear hx hy hx' hy' h0 h1 hR hn
  unfold st
  by_cases a : 1 ≤ n
  · by_cases b : n ≤ 64
    · go_enter Try.func41, Try.ntmps41
      go_wp2_with fail
      refine (H0.out _).mono ?_
      rintro e w' ⟨rfl, rfl⟩
      rcases hc0.out with ⟨c1, c2⟩ | ⟨c1, c2⟩
      · have C2 := Lib.hid c2
        clear c2
        go_wp2_with fail
        refine (H1.out _).mono ?_
        rintro e w' ⟨rfl, rfl⟩
        rcases hc1.out with ⟨d1, d2⟩ | ⟨d1, d2⟩
        · have D2 := Lib.hid d2
          clear d2
          go_wp2
          go_ret
          exact ⟨by rw [HR.out, C2.out, D2.out]; simp [a, b], rfl⟩
        · have D2 := Lib.hid d2
          clear d2
          go_wp2
          go_ret
          exact ⟨by rw [HR.out, C2.out, D2.out]; simp [d1], rfl⟩
      · have C2 := Lib.hid c2
        clear c2
        go_wp2
        go_ret
        exact ⟨by rw [HR.out, C2.out]; simp, rfl⟩
    · go_enter Try.func41, Try.ntmps41
      go_wp2
      go_ret
      exact ⟨by rw [HR.out]; simp [b], rfl⟩
  · go_enter Try.func41, Try.ntmps41
    go_wp2
    go_ret
    exact ⟨by rw [HR.out]; simp [a], rfl⟩

theorem make_zeros (n : Nat) (hn : n ≤ 281474976710656) (w : World) :
    (Instr.makeSlice 49 (.int .i64 (n : Int)) (.int .i64 (n : Int))).run Try.prog w = .ok (.slice (some ⟨w.heap.size, 0, none⟩) n n) (w.alloc (rowObj 5 (zeros n))) := by
  rw [run_make_row' (P := Try.prog) 49 5 (.int .u8 0) 1 Try.underlying49 (by kernel_rfl) rfl .i64 .i64 n (by omega) (by omega) w, madeCells_zeros]
  rfl
theorem string_rd (w : World) (A : Option Addr) (n c : Nat) (bs : List UInt8) (h : Rd w A n c bs) : (convert 49 9 (.slice A n c)).run Try.prog w = .ok (st bs) w :=
  run_string_rd w 49 9 5 Try.underlying49 Try.underlying5 Try.underlying9 A n c bs h
/-- strings.Clone: the same text. -/
theorem Clone_any (l : List UInt8) (w : World) (hl : l.length ≤ 1000000) :
    Calls Try.prog 27 #[st l] w fun e w' => e = .returned (st l) ∧ Below w.heap.size w w' := by
  have hsz : (⟨l.toArray⟩ : ByteArray).size = l.length := size_list l
  obtain ⟨n, hn⟩ : ∃ n, l.length = n := ⟨_, rfl⟩
  have HN := Lib.hid hn
  rw [hn] at hsz hl
  clear hn
  unfold st
  by_cases h0 : n = 0
  · have : l = [] := List.eq_nil_of_length_eq_zero (by rw [HN.out, h0])
    subst this
    go_enter Try.func27, Try.ntmps27
    go_wp2
    go_ret
    exact ⟨rfl, Below.refl _ _⟩
  · have hmk := make_zeros n (by omega) w
    have hcp := run_copy_str (P := Try.prog) (w.alloc (rowObj 5 (zeros n))) 49 9 3 5 Try.underlying49 (by kernel_rfl) w.heap.size 0 n n 5 (zeros n) (Blk.new w 5 (zeros n)) ⟨l.toArray⟩ (by omega) (by rw [zeros_length]; omega)
    have e1 : (zeros n).take 0 ++ ((⟨l.toArray⟩ : ByteArray).data.toList ++ (zeros n).drop (0 + (⟨l.toArray⟩ : ByteArray).size)) = l := by
      rw [hsz]; simp [zeros]
    rw [e1, setRow_new, hsz] at hcp
    have e2 : goInt (n : Int) = .int .i64 n := rfl
    rw [e2] at hcp
    have hus := Lib.run_unsafeString_row (P := Try.prog) (w := w.alloc (rowObj 5 l)) 68 3 9 5 Try.underlying68 (by kernel_rfl) w.heap.size n (by
      have := heap_alloc_new w (rowObj 5 l)
      unfold World.shape?
      rw [this]
      simp [rowObj, HN.out]) l (by intro e; rw [e] at HN; exact h0 HN.out.symm) (by rw [HN.out]; exact Nat.le_refl _) (by rw [HN.out]; omega) (fun j x hx => by
        have hb := Blk.new w 5 l
        have hj : j < l.length := by
          rcases Nat.lt_or_ge j l.length with h | h
          · exact h
          · rw [List.getElem?_eq_none h] at hx; cases hx
        have := hb.cell j hj
        rw [addr_add, Nat.zero_add, this, getD_get _ _ hj]
        rw [List.getElem?_eq_getElem hj] at hx
        cases hx
        rfl)
    rw [HN.out] at hus
    have HB : Hid (Below w.heap.size w ((w.alloc (rowObj 5 l)).freeze ⟨w.heap.size, 0, none⟩ n)) := Lib.below_freeze ((Below.refl _ _).alloc (Nat.le_refl _) _) (Nat.le_refl _) n
    clear e1 e2
    go_enter Try.func27, Try.ntmps27
    go_wp2
    go_ret
    exact ⟨rfl, HB.out⟩

/-- strings.Index of one byte. -/
theorem liteIdx_any (l : List UInt8) (w : World) (hl : l.length ≤ 1000000) :
    Calls Try.prog 49 #[st l, .string ⟨#[0]⟩] w fun e w' => e = .returned (.int .i64 (ix l 0)) ∧ w = w' := by
  have H0 := Lib.hid (liteIndex_any ⟨l.toArray⟩ 0 w)
  obtain ⟨x, hx⟩ : ∃ x, ix l 0 = x := ⟨_, rfl⟩
  have hx' : Lib.indexByte (⟨l.toArray⟩ : ByteArray).data.toList 0 = x := hx
  rw [hx'] at H0
  rw [hx]
  have hx0 := hx
  clear hx hx'
  have HX : Hid (l = [0] → x = 0) := fun e => by rw [← hx0, e]; rfl
  clear hx0
  by_cases hl0 : l = [0]
  · have h0 := HX.out hl0
    subst h0
    subst hl0
    unfold st
    go_enter Try.func49, Try.ntmps49
    go_wp2
    go_ret
    exact ⟨rfl, rfl⟩
  · have hne : ([0] == l) = false := by
      rw [beq_eq_false_iff_ne]
      exact fun e => hl0 e.symm
    clear hl0
    unfold st
    go_enter Try.func49, Try.ntmps49
    go_wp2_with fail
    refine (H0.out).mono ?_
    rintro e w' ⟨rfl, rfl⟩
    go_wp2
    go_ret
    exact ⟨rfl, rfl⟩
theorem slice_to (l : List UInt8) (k : Nat) (hk : k ≤ l.length) (W : World) : (Instr.slice 9 (st l) none (some (.int .i64 (k : Int))) none).run Try.prog W = .ok (st (l.take k)) W := by
  have hsz : (⟨l.toArray⟩ : ByteArray).size = l.length := size_list l
  unfold st
  rw [run_slice_string_to_if W 9 ⟨l.toArray⟩ .i64 (k : Int) Try.underlying9, if_pos (by rw [hsz]; omega), Int.toNat_natCast, Lib.extract_eq]
  simp
theorem slice_from (l : List UInt8) (k : Nat) (hk : k ≤ l.length) (W : World) : (Instr.slice 9 (st l) (some (.int .i64 (k : Int))) none none).run Try.prog W = .ok (st (l.drop k)) W := by
  have hsz : (⟨l.toArray⟩ : ByteArray).size = l.length := size_list l
  unfold st
  rw [run_slice_string_from_if W 9 ⟨l.toArray⟩ .i64 (k : Int) Try.underlying9, if_pos (by rw [hsz]; omega), Int.toNat_natCast, Lib.extract_eq]
  simp [hsz, List.take_of_length_le]
theorem liteCut_any (l : List UInt8) (w : World) (hl : l.length ≤ 1000000) :
    Calls Try.prog 47 #[st l, .string ⟨#[0]⟩] w fun e w' => (∃ b, e = .returned (.tuple #[st (l.takeWhile (· != 0)), st ((l.dropWhile (· != 0)).drop 1), .bool b])) ∧ Below w.heap.size w w' := by
  have H0 := Lib.hid (liteIdx_any l w hl)
  have hsz : (⟨l.toArray⟩ : ByteArray).size = l.length := size_list l
  rcases ix_cases 0 l with ⟨a, b, d, e⟩ | ⟨k, hk, a, b, d, e⟩
  · rw [a] at H0
    rw [d, e]
    clear a b d e
    go_enter Try.func47, Try.ntmps47
    go_wp2_with fail
    refine (H0.out).mono ?_
    rintro e w' ⟨rfl, rfl⟩
    go_wp2
    go_ret3
    exact ⟨⟨_, rfl⟩, Below.refl _ _⟩
  · rw [a] at H0
    obtain ⟨n, hn⟩ : ∃ n, l.length = n := ⟨_, rfl⟩
    have HN := Lib.hid hn
    have hs1 := slice_to l k (by omega)
    have hs2 := slice_from l (k + 1) (by omega)
    rw [d, e, List.drop_drop]
    rw [hn] at hk hl
    obtain ⟨p, hp⟩ : ∃ p, l.take k = p := ⟨_, rfl⟩
    obtain ⟨q, hq⟩ : ∃ q, l.drop (k + 1) = q := ⟨_, rfl⟩
    rw [hp] at hs1 ⊢
    rw [hq] at hs2 ⊢
    have e5 : ((k + 1 : Nat) : Int) = (k : Int) + 1 := by omega
    rw [e5] at hs2
    have hw1 : IntKind.i64.wrap ((k : Int) + 1) = (k : Int) + 1 := IntWalk.i64_in _ (by omega)
    clear a b d e hp hq hn hsz e5
    go_enter Try.func47, Try.ntmps47
    go_wp2_with fail
    refine (H0.out).mono ?_
    rintro e w' ⟨rfl, rfl⟩
    go_wp2
    go_quiet (fail)
    go_wp2
    go_ret3
    exact ⟨⟨_, rfl⟩, below_drewN (Below.refl _ _) _⟩
theorem Cut_any (l : List UInt8) (w : World) (hl : l.length ≤ 1000000) :
    Calls Try.prog 45 #[st l, .string ⟨#[0]⟩] w fun e w' => (∃ b, e = .returned (.tuple #[st (l.takeWhile (· != 0)), st ((l.dropWhile (· != 0)).drop 1), .bool b])) ∧ Below w.heap.size w w' := by
  have H0 := Lib.hid (liteCut_any l w hl)
  obtain ⟨p, hp⟩ : ∃ p, l.takeWhile (· != 0) = p := ⟨_, rfl⟩
  obtain ⟨q, hq⟩ : ∃ q, (l.dropWhile (· != 0)).drop 1 = q := ⟨_, rfl⟩
  rw [hp, hq] at H0 ⊢
  clear hp hq
  go_enter Try.func45, Try.ntmps45
  go_wp2_with fail
  refine (H0.out).mono ?_
  rintro e w' ⟨⟨b, rfl⟩, hb⟩
  go_wp2
  go_ret3
  exact ⟨⟨b, rfl⟩, hb⟩
end Go.Proofs.Ytlnghdldecnmgaa
