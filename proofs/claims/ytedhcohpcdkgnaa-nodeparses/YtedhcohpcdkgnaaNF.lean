/- A cursor over bytes: take, number, text. Conditions: none. -/
import Derived.Test.YtedhcohpcdkgnaaNE
import Derived.Test.YtedhcohpcdkgnaaN8
namespace Go.Bs
open Go.RowKit
/-- what lies ahead, and whether it was short. -/
abbrev St := List UInt8 × Bool
def beN (l : List UInt8) : Nat := l.foldl (fun a x => a * 256 + x.toNat) 0
def stTake (s : St) (k : Nat) : List UInt8 × St := if s.2 = true ∨ s.1.length < k then ([], (s.1, true)) else (s.1.take k, (s.1.drop k, false))
def stNum (s : St) (k : Nat) : Nat × St := (beN (stTake s k).1, (stTake s k).2)
def stTxt (s : St) : ByteArray × St := (⟨(stTake (stNum s 1).2 (stNum s 1).1).1.toArray⟩, (stTake (stNum s 1).2 (stNum s 1).1).2)
theorem beN_snoc (l : List UInt8) (x : UInt8) : beN (l ++ [x]) = beN l * 256 + x.toNat := by simp [beN]
theorem beN_acc : ∀ (l : List UInt8) (a : Nat), l.foldl (fun a x => a * 256 + x.toNat) a < (a + 1) * 256 ^ l.length
  | [], a => by simp
  | x :: l, a => by
    have ih := beN_acc l (a * 256 + x.toNat)
    have hx := x.toNat_lt
    have h2 : (a * 256 + x.toNat + 1) * 256 ^ l.length ≤ ((a + 1) * 256) * 256 ^ l.length := Nat.mul_le_mul_right _ (by omega)
    rw [List.foldl_cons, List.length_cons, Nat.pow_succ, Nat.mul_comm (256 ^ l.length) 256, ← Nat.mul_assoc]
    omega
theorem beN_lt (l : List UInt8) : beN l < 256 ^ l.length := by
  have := beN_acc l 0
  simpa [beN] using this
theorem stTake_len (s : St) (k : Nat) : (stTake s k).1.length ≤ k := by
  unfold stTake; split
  · simp
  · simp; omega
theorem stNum_lt (s : St) (k : Nat) (hk : k ≤ 3) : (stNum s k).1 < 256 ^ k :=
  Nat.lt_of_lt_of_le (beN_lt _) (Nat.pow_le_pow_right (by omega) (stTake_len s k))
theorem stTxt_size (s : St) : (stTxt s).1.size ≤ 255 := by
  have h1 := stNum_lt s 1 (by omega)
  have h2 := stTake_len (stNum s 1).2 (stNum s 1).1
  show (stTake (stNum s 1).2 (stNum s 1).1).1.toArray.size ≤ 255
  simp at h1 ⊢
  omega
theorem stTake_ahead (s : St) (k : Nat) : (stTake s k).2.1.length ≤ s.1.length := by
  unfold stTake; split
  · exact Nat.le_refl _
  · simp
/-- the cursor's block. -/
def CuAt (w : World) (z : Nat) (A : Option Addr) (n c : Nat) (sh : Bool) : Prop := w.heap[z]? = some (.cells #[.slice A n c, .bool sh] 58 (0, 0))
structure Cu (w : World) (z lim : Nat) (s : St) : Prop where
  ex : ∃ A n c, CuAt w z A n c s.2 ∧ Rd w A n c s.1 ∧ (∀ a, A = some a → 0 < n → a.block ≠ z ∧ a.block < lim) ∧ n ≤ 5000
theorem CuAt.lt {w : World} {z : Nat} {A : Option Addr} {n c : Nat} {sh : Bool} (h : CuAt w z A n c sh) : z < w.heap.size := (Array.getElem?_eq_some_iff.1 h).1
theorem Cu.lt {w : World} {z lim : Nat} {s : St} (h : Cu w z lim s) : z < w.heap.size := by obtain ⟨_, _, _, h1, _⟩ := h; exact h1.lt
theorem Cu.len {w : World} {z lim : Nat} {s : St} (h : Cu w z lim s) : s.1.length ≤ 5000 := by obtain ⟨_, _, _, _, h2, _, h3⟩ := h; rw [h2.len]; exact h3
theorem CuAt.cells {w : World} {z : Nat} {A : Option Addr} {n c : Nat} {sh : Bool} (h : CuAt w z A n c sh) : w.cell? ⟨z, 0, none⟩ = some (.slice A n c) ∧ w.cell? ⟨z, 1, none⟩ = some (.bool sh) ∧ w.frozen? ⟨z, 0, none⟩ = false ∧ w.frozen? ⟨z, 1, none⟩ = false := by
  refine ⟨?_, ?_, ?_, ?_⟩
  · rw [cell_of_row w z _ _ 58 (0, 0) h]; rfl
  · rw [cell_of_row w z _ _ 58 (0, 0) h]; rfl
  · simp [World.frozen?, show w.heap[z]? = _ from h]
  · simp [World.frozen?, show w.heap[z]? = _ from h]
theorem Rd.fr {w w' : World} {D : Nat → Prop} {A : Option Addr} {n c : Nat} {bs : List UInt8} (h : Rd w A n c bs) (hf : Fr D w w') (hD : ∀ a, A = some a → 0 < n → ¬ D a.block) : Rd w' A n c bs :=
  ⟨h.len, h.cap, fun hn => by
    obtain ⟨g, o, e, hg, hc⟩ := h.cells hn
    refine ⟨g, o, e, Nat.lt_of_lt_of_le hg hf.size, fun j hj => ?_⟩
    have := hf.block g hg (hD _ e hn)
    rw [← hc j hj]
    simp only [World.cell?, this]⟩
theorem Cu.keep {w w' : World} {z lim : Nat} {s : St} (h : Cu w z lim s) (hb : Below w.heap.size w w') : Cu w' z lim s := by
  obtain ⟨A, n, c, h1, h2, h3, h4⟩ := h
  exact ⟨A, n, c, (hb.block z h1.lt).trans h1, h2.keep hb, h3, h4⟩
theorem CuAt.set0 {w : World} {z : Nat} {A A' : Option Addr} {n c n' c' : Nat} {sh : Bool} (h : CuAt w z A n c sh) : CuAt (w.setCell ⟨z, 0, none⟩ (.slice A' n' c')) z A' n' c' sh := by
  unfold CuAt at h ⊢
  rw [setCell_eq_setRow w z 0 _ 58 _ _ h, setRow_heap w z _ _ 58 _ h]; rfl
theorem CuAt.set1 {w : World} {z : Nat} {A : Option Addr} {n c : Nat} {sh sh' : Bool} (h : CuAt w z A n c sh) : CuAt (w.setCell ⟨z, 1, none⟩ (.bool sh')) z A n c sh' := by
  unfold CuAt at h ⊢
  rw [setCell_eq_setRow w z 1 _ 58 _ _ h, setRow_heap w z _ _ 58 _ h]; rfl
theorem Cu.fr {w w' : World} {D : Nat → Prop} {z lim : Nat} {s : St} (h : Cu w z lim s) (hf : Fr D w w') (hz : ¬ D z) (hD : ∀ k, D k → lim ≤ k) : Cu w' z lim s := by
  obtain ⟨A, n, c, h1, h2, h3, h4⟩ := h
  exact ⟨A, n, c, (hf.block z h1.lt hz).trans h1, h2.fr hf (fun a ha hn hd => by have := hD _ hd; have := (h3 a ha hn).2; omega), h3, h4⟩
end Go.Bs
namespace Go.Proofs.Ytedhcohpcdkgnaa
open Go.RowKit Go.Bs

theorem or_byte (a x : Nat) (ha : a < 65536) (hx : x < 256) : bits .or .i64 ((a : Int) * 256) (x : Int) = ((a * 256 + x : Nat) : Int) := by
  have e : ((a : Int) * 256) = ((2 ^ 8 * a : Nat) : Int) := by omega
  have hl : 2 ^ 8 * a ||| x < 2 ^ 63 := Nat.or_lt_two_pow (by omega) (by omega)
  rw [e]
  show IntKind.i64.wrap ((BitVec.ofInt 64 ((2 ^ 8 * a : Nat) : Int) ||| BitVec.ofInt 64 (x : Int)).toNat : Int) = _
  rw [BitVec.toNat_or, ofInt_u64 (2 ^ 8 * a) (by omega), ofInt_u64 x (by omega), IntKind.wrap_i64, ← Nat.two_pow_add_eq_or_of_lt (by omega : x < 2 ^ 8)]
  omega

set_option maxHeartbeats 4000000 in
theorem take_any (w : World) (z : Nat) (s : St) (lim : Nat) (H : Cu w z lim s) (k : Nat) (hk : k ≤ 5000) :
    Calls Try.prog 44 #[.pointer (some ⟨z, 0, none⟩), .int .i64 (k : Int)] w fun e w' => (∃ A c, e = .returned (.slice A (stTake s k).1.length c) ∧ Rd w' A (stTake s k).1.length c (stTake s k).1) ∧ Cu w' z lim (stTake s k).2 ∧ Fr (· = z) w w' := by
  obtain ⟨A, n, c, h1, h2, h3, h4⟩ := H
  obtain ⟨l, sh⟩ := s
  simp only at h1 h2
  have hln := h2.len
  have hcap := h2.cap
  obtain ⟨c0, c1, f0, f1⟩ := h1.cells
  have H1 := Lib.hid h1
  have H2 := Lib.hid h2
  have H3 := Lib.hid h3
  have HL := Lib.hid hln
  clear h1 h2 h3 hln
  by_cases hbad : sh = true ∨ n < k
  · have e : stTake (l, sh) k = ([], (l, true)) := by unfold stTake; rw [if_pos (by simpa [HL.out] using hbad)]
    rw [e]
    clear e
    have HE : Hid ((∃ A' c', Ending.returned (Value.slice none 0 0) = .returned (.slice A' ([] : List UInt8).length c') ∧ Rd (w.setCell ⟨z, 1, none⟩ (.bool true)) A' ([] : List UInt8).length c' []) ∧ Cu (w.setCell ⟨z, 1, none⟩ (.bool true)) z lim (l, true) ∧ Fr (· = z) w (w.setCell ⟨z, 1, none⟩ (.bool true))) :=
      have hf : Fr (· = z) w (w.setCell ⟨z, 1, none⟩ (.bool true)) := (Fr.refl (· = z) w).setCell (.inl rfl) _
      ⟨⟨none, 0, rfl, Rd.nil _ _ _⟩, ⟨A, n, c, H1.out.set1, H2.out.fr hf (fun a ha hn => (H3.out a ha hn).1), H3.out, h4⟩, hf⟩
    cases sh with
    | true =>
      clear hbad
      go_enter Try.func44, Try.ntmps44
      go_wp2
      go_ret
      exact HE.out
    | false =>
      have hlt : n < k := by simpa using hbad
      clear hbad
      go_enter Try.func44, Try.ntmps44
      go_wp2
      go_ret
      exact HE.out
  · have hsh : sh = false := by
      cases sh
      · rfl
      · exact absurd (.inl rfl) hbad
    subst hsh
    have hle : k ≤ n := by omega
    have e : stTake (l, false) k = (l.take k, (l.drop k, false)) := by unfold stTake; rw [if_neg (by simpa [HL.out] using hle)]
    rw [e]
    have hlk : (l.take k).length = k := by rw [List.length_take, HL.out]; omega
    rw [hlk]
    clear e hbad
    rcases A with _ | a
    · have hn0 : n = 0 := by
        rcases Nat.eq_zero_or_pos n with h | h
        · exact h
        · obtain ⟨_, _, e, _⟩ := H2.out.cells h
          cases e
      subst hn0
      obtain rfl : k = 0 := by omega
      have HE : Hid ((∃ A' c', Ending.returned (Value.slice none 0 c) = .returned (.slice A' 0 c') ∧ Rd (w.setCell ⟨z, 0, none⟩ (.slice none 0 c)) A' 0 c' (l.take 0)) ∧ Cu (w.setCell ⟨z, 0, none⟩ (.slice none 0 c)) z lim (l.drop 0, false) ∧ Fr (· = z) w (w.setCell ⟨z, 0, none⟩ (.slice none 0 c))) :=
        have hf : Fr (· = z) w (w.setCell ⟨z, 0, none⟩ (.slice none 0 c)) := (Fr.refl (· = z) w).setCell (.inl rfl) _
        have hl0 : l = [] := List.eq_nil_of_length_eq_zero HL.out
        ⟨⟨none, c, rfl, Rd.nil _ _ _⟩, ⟨none, 0, c, H1.out.set0, by subst hl0; exact Rd.nil _ _ _, (fun a ha => by cases ha), h4⟩, hf⟩
      go_enter Try.func44, Try.ntmps44
      go_wp2
      go_ret
      exact HE.out
    · by_cases hn0 : n = 0
      · subst hn0
        obtain rfl : k = 0 := by omega
        have HE : Hid ((∃ A' c', Ending.returned (Value.slice (some a) 0 c) = .returned (.slice A' 0 c') ∧ Rd (w.setCell ⟨z, 0, none⟩ (.slice (some a) 0 c)) A' 0 c' (l.take 0)) ∧ Cu (w.setCell ⟨z, 0, none⟩ (.slice (some a) 0 c)) z lim (l.drop 0, false) ∧ Fr (· = z) w (w.setCell ⟨z, 0, none⟩ (.slice (some a) 0 c))) :=
          have hf : Fr (· = z) w (w.setCell ⟨z, 0, none⟩ (.slice (some a) 0 c)) := (Fr.refl (· = z) w).setCell (.inl rfl) _
          have hl0 : l = [] := List.eq_nil_of_length_eq_zero HL.out
          ⟨⟨some a, c, rfl, Rd.nil _ _ _⟩, ⟨some a, 0, c, H1.out.set0, by subst hl0; exact Rd.nil _ _ _, H3.out, h4⟩, hf⟩
        go_enter Try.func44, Try.ntmps44
        go_wp2
        go_ret
        exact HE.out
      · obtain ⟨g, o, e, hg, hc⟩ := H2.out.cells (by omega)
        injection e with e
        subst e
        have HOK : Hid (∀ (o' : Nat) (c' : Nat), n - k ≤ c' → (0 < n - k → o' = o + k) → (∃ A' c'', Ending.returned (Value.slice (some ⟨g, o, none⟩) k c) = .returned (.slice A' k c'') ∧ Rd (w.setCell ⟨z, 0, none⟩ (.slice (some ⟨g, o', none⟩) (n - k) c')) A' k c'' (l.take k)) ∧ Cu (w.setCell ⟨z, 0, none⟩ (.slice (some ⟨g, o', none⟩) (n - k) c')) z lim (l.drop k, false) ∧ Fr (· = z) w (w.setCell ⟨z, 0, none⟩ (.slice (some ⟨g, o', none⟩) (n - k) c'))) := fun o' c' hc' ho' => by
          have hf : Fr (· = z) w (w.setCell ⟨z, 0, none⟩ (.slice (some ⟨g, o', none⟩) (n - k) c')) := (Fr.refl (· = z) w).setCell (.inl rfl) _
          have hr := H2.out.fr hf (fun a ha hn => (H3.out a ha hn).1)
          refine ⟨⟨_, _, rfl, by simpa using hr.part 0 k c (by omega) (by omega)⟩, ⟨_, _, _, H1.out.set0, ?_, (fun a ha _ => by cases ha; exact H3.out ⟨g, o, none⟩ rfl (by omega)), by omega⟩, hf⟩
          show Rd _ _ _ _ (l.drop k)
          by_cases h0 : 0 < n - k
          · obtain rfl := ho' h0
            have := hr.part k (n - k) c' (by omega) hc'
            rwa [List.take_of_length_le (by rw [List.length_drop, HL.out]; omega)] at this
          · have e1 : n - k = 0 := by omega
            have e2 : l.drop k = [] := List.eq_nil_of_length_eq_zero (by rw [List.length_drop, HL.out]; exact e1)
            rw [e2]
            exact ⟨by rw [e1]; rfl, hc', fun h => absurd h h0⟩
        clear hn0 hc hg
        go_enter Try.func44, Try.ntmps44
        go_wp2
        all_goals go_ret
        · rename_i h
          subst h
          exact HOK.out o 0 (by omega) (by omega)
        · exact HOK.out (o + k) (c - k) (by omega) (fun _ => rfl)

set_option maxHeartbeats 4000000 in
theorem number_any (w : World) (z : Nat) (s : St) (lim : Nat) (H : Cu w z lim s) (size : Nat) (hsz : size ≤ 3) :
    Calls Try.prog 28 #[.pointer (some ⟨z, 0, none⟩), .int .i64 (size : Int)] w fun e w' => e = .returned (.int .i64 ((stNum s size).1 : Int)) ∧ Cu w' z lim (stNum s size).2 ∧ Fr (· = z) w w' := by
  have HT := Lib.hid (take_any w z s lim H size (by omega))
  have HL := Lib.hid (stTake_len s size)
  obtain ⟨R, hR⟩ : ∃ R, (stNum s size).1 = R := ⟨_, rfl⟩
  have HR := Lib.hid (show beN (stTake s size).1 = R from hR)
  rw [hR]
  clear H hR
  go_enter Try.func28, Try.ntmps28
  go_wp2_with fail
  refine HT.out.mono ?_
  rintro e w1 ⟨⟨A, c, rfl, hr⟩, hc, hf⟩
  have HRD := Lib.hid hr
  have HC := Lib.hid hc
  have HFR := Lib.hid hf
  obtain ⟨l, hl⟩ : ∃ l, (stTake s size).1 = l := ⟨_, rfl⟩
  rw [hl] at HRD HR HL ⊢
  obtain ⟨m, hm⟩ : ∃ m, l.length = m := ⟨_, rfl⟩
  rw [hm] at HRD ⊢
  have HM := Lib.hid hm
  have hm3 : m ≤ 3 := by rw [← hm]; exact Nat.le_trans HL.out hsz
  clear hr hc hf hl HT hm
  go_wp2
  go_loop [5, 12] (fun n i => ∃ j : Nat, j ≤ m ∧ i = .int .i64 j ∧ n = .int .i64 (beN (l.take j) : Int)) (fun _ i => m - (intOf i).toNat)
  case atStart => exact ⟨0, Nat.zero_le _, rfl, by simp [beN]⟩
  case round =>
    obtain ⟨j, hj, rfl, rfl⟩ := hrel
    by_cases hlt : j < m
    · obtain ⟨q, o, rfl, hq, hcell⟩ := HRD.out.cells (by omega)
      have e0 := hcell j hlt
      have hs := take_snoc l j (by rw [HM.out]; exact hlt)
      obtain ⟨x, hx⟩ : ∃ x, l.getD j 0 = x := ⟨_, rfl⟩
      rw [hx] at hs e0
      have hb := beN_lt (l.take j)
      have hbl : (l.take j).length = j := by rw [List.length_take, HM.out]; omega
      rw [hbl] at hb
      have hsn : beN (l.take (j + 1)) = beN (l.take j) * 256 + x.toNat := by rw [hs, beN_snoc]
      obtain ⟨a, ha⟩ : ∃ a, beN (l.take j) = a := ⟨_, rfl⟩
      rw [ha] at hb hsn ⊢
      have hb2 : a < 65536 := Nat.lt_of_lt_of_le hb (Nat.le_trans (Nat.pow_le_pow_right (by omega) (show j ≤ 2 by omega)) (by omega))
      have HSN := Lib.hid hsn
      have hx8 := x.toNat_lt
      clear hx hs hcell hb hbl ha hsn
      go_wp2
      go_round
      case rel => exact ⟨j + 1, by omega, by go_num, by rw [HSN.out, or_byte a x.toNat (by omega) (by omega)]⟩
      case measure => simp [intOf]; omega
    · obtain rfl : j = m := by omega
      have hfin : beN (l.take j) = R := by rw [← HR.out, ← HM.out, List.take_length]
      go_wp2
      go_ret
      exact ⟨by rw [← hfin]; rfl, HC.out, HFR.out⟩

set_option maxHeartbeats 4000000 in
theorem text_any (w : World) (z : Nat) (s : St) (lim : Nat) (H : Cu w z lim s) :
    Calls Try.prog 42 #[.pointer (some ⟨z, 0, none⟩)] w fun e w' => e = .returned (.string (stTxt s).1) ∧ Cu w' z lim (stTxt s).2 ∧ Fr (· = z) w w' := by
  have HN := Lib.hid (number_any w z s lim H 1 (by omega))
  have hlt := stNum_lt s 1 (by omega)
  obtain ⟨R, hR⟩ : ∃ R, (stTxt s).1 = R := ⟨_, rfl⟩
  have HR : Hid (⟨(stTake (stNum s 1).2 (stNum s 1).1).1.toArray⟩ = R) := hR
  obtain ⟨s2, hs2⟩ : ∃ s2, (stTxt s).2 = s2 := ⟨_, rfl⟩
  have HS2 : Hid ((stTake (stNum s 1).2 (stNum s 1).1).2 = s2) := hs2
  rw [hR, hs2]
  clear hR hs2 H
  obtain ⟨k, hk⟩ : ∃ k, (stNum s 1).1 = k := ⟨_, rfl⟩
  rw [hk] at HN HR HS2 hlt
  obtain ⟨s1, hs1⟩ : ∃ s1, (stNum s 1).2 = s1 := ⟨_, rfl⟩
  rw [hs1] at HN HR HS2
  clear hk hs1
  go_enter Try.func42, Try.ntmps42
  go_wp2_with fail
  refine HN.out.mono ?_
  rintro e w1 ⟨rfl, hc, hf⟩
  have HT := Lib.hid (take_any w1 z s1 lim hc k (by omega))
  have HF := Lib.hid hf
  clear hc hf HN
  go_wp2_with fail
  refine HT.out.mono ?_
  rintro e w2 ⟨⟨A, c, rfl, hr⟩, hc, hf⟩
  have hcv := string_rd w2 _ _ _ _ hr
  obtain ⟨vb, hvb⟩ : ∃ vb, Value.slice A (stTake s1 k).1.length c = vb := ⟨_, rfl⟩
  rw [hvb] at hcv
  rw [hvb, HR.out] at *
  rw [HS2.out] at hc
  have HC := Lib.hid hc
  have HF2 := Lib.hid (HF.out.trans hf)
  clear hc hf HT hr hvb
  go_wp2
  go_ret
  exact ⟨rfl, HC.out, HF2.out⟩

set_option maxHeartbeats 4000000 in
theorem allNought_any (w : World) (A : Option Addr) (n c : Nat) (l : List UInt8) (H : Rd w A n c l) (hn : n ≤ 5000) :
    Calls Try.prog 29 #[.slice A n c] w fun e w' => e = .returned (.bool (l.all (· == 0))) ∧ w = w' := by
  have HRD := Lib.hid H
  have HM := Lib.hid H.len
  have hcap := H.cap
  obtain ⟨R, hR⟩ : ∃ R, l.all (· == 0) = R := ⟨_, rfl⟩
  have HR := Lib.hid hR
  rw [hR]
  clear hR H
  go_enter Try.func29, Try.ntmps29
  go_wp2
  go_loop [7] (fun i => ∃ j : Nat, j ≤ n ∧ i = .int .i64 j ∧ (∀ t, t < j → l.getD t 0 = 0)) (fun i => n - (intOf i).toNat)
  case atStart => exact ⟨0, Nat.zero_le _, rfl, fun t ht => absurd ht (by omega)⟩
  case round =>
    obtain ⟨j, hj, rfl, hpr⟩ := hrel
    have HPR := Lib.hid hpr
    clear hpr
    by_cases hlt : j < n
    · obtain ⟨q, o, rfl, hq, hcell⟩ := HRD.out.cells (by omega)
      have e0 := hcell j hlt
      obtain ⟨x, hx⟩ : ∃ x, l.getD j 0 = x := ⟨_, rfl⟩
      rw [hx] at e0
      have HX := Lib.hid hx
      clear hcell hx
      by_cases h0 : x = 0
      · subst h0
        go_wp2
        go_round
        case rel =>
          refine ⟨j + 1, by omega, by go_num, fun t ht => ?_⟩
          rcases Nat.lt_or_ge t j with h | h
          · exact HPR.out t h
          · obtain rfl : t = j := by omega
            exact HX.out
        case measure => simp [intOf]; omega
      · have hne : ((x.toNat : Int) != 0) = true := by
          simp only [bne_iff_ne, ne_eq, Int.natCast_eq_zero]
          intro h
          exact h0 (UInt8.toNat_inj.1 h)
        have hF : R = false := by
          rw [← HR.out]
          refine List.all_eq_false.2 ⟨x, ?_, by simpa using h0⟩
          rw [← HX.out, getD_get l j (by rw [HM.out]; exact hlt)]
          exact List.getElem_mem _
        have HF := Lib.hid hF
        have HNE := Lib.hid h0
        clear hF h0
        go_wp2
        go_ret
        exact ⟨by rw [HF.out]; rfl, rfl⟩
    · obtain rfl : j = n := by omega
      have hT : R = true := by
        rw [← HR.out]
        refine List.all_eq_true.2 fun x hx => ?_
        obtain ⟨i, hi, rfl⟩ := List.getElem_of_mem hx
        rw [← getD_get l i hi, HPR.out i (by rw [← HM.out]; exact hi)]
        rfl
      have HT := Lib.hid hT
      clear hT
      go_wp2
      go_ret
      exact ⟨by rw [HT.out]; rfl, rfl⟩
end Go.Proofs.Ytedhcohpcdkgnaa
