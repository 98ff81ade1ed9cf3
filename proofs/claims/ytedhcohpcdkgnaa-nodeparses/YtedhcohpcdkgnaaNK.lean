/- What is laid down is read, and what is read is laid down: plain words. Conditions: none. -/
import Derived.Test.YtedhcohpcdkgnaaNJ
namespace Go.Bs
open Go.RowKit
/-! ahead: what is read lies as it is laid down -/
theorem txt_back (x : UInt8) (l : List UInt8) (h : x.toNat ≤ l.length) : txt ⟨(l.take x.toNat).toArray⟩ = x :: l.take x.toNat := by
  unfold txt
  have hs : (⟨(l.take x.toNat).toArray⟩ : ByteArray).size = x.toNat := by
    show (l.take x.toNat).toArray.size = _
    simp; omega
  rw [hs]
  congr 1
  · apply UInt8.toNat_inj.1
    rw [byteAt_toNat]
    simp
theorem stTxt_back {s : St} (h : (stTxt s).2.2 = false) : s.1 = txt (stTxt s).1 ++ (stTxt s).2.1 := by
  obtain ⟨_, x, l, e1, e2, e3⟩ := stTxt_sh h
  rw [e3, e1, txt_back x l e2]
  simp
theorem byteAt_two (x y : UInt8) : beB (x.toNat * 256 + y.toNat) 2 = [x, y] := by
  have hx := x.toNat_lt
  have hy := y.toNat_lt
  show [byteAt _ 1, byteAt _ 0] = _
  congr 1
  · apply UInt8.toNat_inj.1
    rw [byteAt_toNat]; omega
  · congr 1
    apply UInt8.toNat_inj.1
    rw [byteAt_toNat]; omega
theorem byteAt_three (x y z : UInt8) : beB ((x.toNat * 256 + y.toNat) * 256 + z.toNat) 3 = [x, y, z] := by
  have hx := x.toNat_lt
  have hy := y.toNat_lt
  have hz := z.toNat_lt
  show [byteAt _ 2, byteAt _ 1, byteAt _ 0] = _
  congr 1
  · apply UInt8.toNat_inj.1
    rw [byteAt_toNat]; omega
  · congr 1
    · apply UInt8.toNat_inj.1
      rw [byteAt_toNat]; omega
    · congr 1
      apply UInt8.toNat_inj.1
      rw [byteAt_toNat]; omega
theorem stNum2_back {s : St} (h : (stNum s 2).2.2 = false) : s.2 = false ∧ s.1 = beB (stNum s 2).1 2 ++ (stNum s 2).2.1 := by
  obtain ⟨h1, h2, h3⟩ := stTake_sh (s := s) (k := 2) h
  refine ⟨h1, ?_⟩
  unfold stNum
  rw [h3]
  obtain ⟨b, sh⟩ := s
  match b, h2 with
  | x :: y :: l, _ =>
    simp only [List.take_succ_cons, List.take_zero, List.drop_succ_cons, List.drop_zero]
    rw [show beN [x, y] = x.toNat * 256 + y.toNat by simp [beN], byteAt_two]
    rfl
theorem stNum3_back {s : St} (h : (stNum s 3).2.2 = false) : s.2 = false ∧ s.1 = beB (stNum s 3).1 3 ++ (stNum s 3).2.1 := by
  obtain ⟨h1, h2, h3⟩ := stTake_sh (s := s) (k := 3) h
  refine ⟨h1, ?_⟩
  unfold stNum
  rw [h3]
  obtain ⟨b, sh⟩ := s
  match b, h2 with
  | x :: y :: z :: l, _ =>
    simp only [List.take_succ_cons, List.take_zero, List.drop_succ_cons, List.drop_zero]
    rw [show beN [x, y, z] = (x.toNat * 256 + y.toNat) * 256 + z.toNat by simp [beN], byteAt_three]
    rfl
theorem stNum1_back {s : St} (h : (stNum s 1).2.2 = false) : s.2 = false ∧ ∃ x l, s.1 = x :: l ∧ stNum s 1 = (x.toNat, (l, false)) := by
  obtain ⟨h1, h2, h3⟩ := stTake_sh (s := s) (k := 1) h
  refine ⟨h1, ?_⟩
  obtain ⟨b, sh⟩ := s
  match b, h2 with
  | x :: l, _ =>
    refine ⟨x, l, rfl, ?_⟩
    unfold stNum
    rw [h3]
    simp [beN]
theorem prs_back (s : St) : ∀ j, (prs j s).2.2 = false → s.1 = (prs j s).1.flatMap ptx ++ (prs j s).2.1
  | 0 => fun _ => rfl
  | j + 1 => by
    intro h
    by_cases hb : (prs j s).2.2 = true
    · rw [prs, if_pos hb] at h
      rw [hb] at h; cases h
    · have hb' : (prs j s).2.2 = false := by simpa using hb
      have ih := prs_back s j hb'
      rw [prs_step j s hb'] at h ⊢
      have t1 := stTxt_back h
      have t2 := stTxt_back (stTxt_sh h).1
      rw [ih, t2, t1]
      simp [ptx]
theorem kys_back (s : St) : ∀ j, (kys j s).2.2 = false → s.1 = (kys j s).1.flatMap txt ++ (kys j s).2.1
  | 0 => fun _ => rfl
  | j + 1 => by
    intro h
    by_cases hb : (kys j s).2.2 = true
    · rw [kys, if_pos hb] at h
      rw [hb] at h; cases h
    · have hb' : (kys j s).2.2 = false := by simpa using hb
      have ih := kys_back s j hb'
      rw [kys_step j s hb'] at h ⊢
      have t1 := stTxt_back h
      rw [ih, t1]
      simp
theorem chs_back (s : St) : ∀ j, (chs j s).2.2 = false → s.1 = (chs j s).1.flatMap chB ++ (chs j s).2.1
  | 0 => fun _ => rfl
  | j + 1 => by
    intro h
    by_cases hb : (chs j s).2.2 = true
    · rw [chs, if_pos hb] at h
      rw [hb] at h; cases h
    · have hb' : (chs j s).2.2 = false := by simpa using hb
      have ih := chs_back s j hb'
      rw [chs_step j s hb'] at h ⊢
      have t1 := (stNum3_back h).2
      rw [ih, t1]
      simp [chB]
theorem rdN_back (b : List UInt8) (hk : knd b = 1 ∨ knd b = 2) (h : (rdN b).2.2 = false) : b = (rdN b).1.body ++ (rdN b).2.1 ∧ (rdN b).1.leaf = decide (knd b = 1) := by
  unfold rdN at h ⊢
  split
  · rename_i h1
    rw [if_pos h1] at h
    have u := prs_use _ _ h
    have c1 := prs_back _ _ h
    have c2 := stNum2_back (s := (stNum (b, false) 1).2) u.2.2
    obtain ⟨_, x, l, e1, e2⟩ := stNum1_back c2.1
    have hx : x = 1 := by
      unfold knd at h1
      rw [e2] at h1
      exact UInt8.toNat_inj.1 h1
    subst hx
    refine ⟨?_, by rw [decide_eq_true h1]⟩
    simp only at e1
    have c3 := c2.2
    rw [e2] at c3
    simp only at c3
    have hct : stNum (l, false) 2 = cnt b := by unfold cnt; rw [e2]
    rw [hct] at c3
    show b = leafB (prs (cnt b).1 (cnt b).2).1 ++ _
    unfold leafB
    rw [u.2.1, List.cons_append, List.append_assoc, ← c1]
    exact e1.trans (congrArg _ c3)
  · rename_i h1
    rw [if_neg h1] at h
    have h2 : knd b = 2 := hk.resolve_left h1
    have u := kys_use _ _ h
    have v := chs_use _ _ u.2.2
    have c1 := kys_back _ _ h
    have c1' := chs_back _ _ u.2.2
    have c2 := stNum2_back (s := (stNum (b, false) 1).2) v.2.2
    obtain ⟨_, x, l, e1, e2⟩ := stNum1_back c2.1
    have hx : x = 2 := by
      unfold knd at h2
      rw [e2] at h2
      exact UInt8.toNat_inj.1 h2
    subst hx
    refine ⟨?_, by rw [decide_eq_false h1]⟩
    simp only at e1
    have c3 := c2.2
    rw [e2] at c3
    simp only at c3
    have hct : stNum (l, false) 2 = cnt b := by unfold cnt; rw [e2]
    rw [hct] at c3
    show b = innB (chs ((cnt b).1 + 1) (cnt b).2).1 (kys (cnt b).1 (chs ((cnt b).1 + 1) (cnt b).2).2).1 ++ _
    unfold innB
    rw [u.2.1, List.cons_append, List.append_assoc, List.append_assoc, ← c1, ← c1']
    exact e1.trans (congrArg _ c3)
theorem all_zeros (l : List UInt8) (h : l.all (· == 0) = true) : l = zeros l.length := all_zero l h
/-- the bytes of a node that may be. -/
def okN (b : List UInt8) (N : Nd) : Prop := N.chk (b.length : Int) = 0 ∧ b = N.body ++ zeros (b.length - N.body.length)
theorem okP_sound {b : List UInt8} (h : okP b) : okN b (rdN b).1 := by
  obtain ⟨h1, h2, h3, h4⟩ := h
  refine ⟨h3, ?_⟩
  have hb := (rdN_back b h1 h2).1
  have hz := all_zeros _ h4
  have hl : b.length = (rdN b).1.body.length + (rdN b).2.1.length := by
    have := congrArg List.length hb
    rwa [List.length_append] at this
  rw [show b.length - (rdN b).1.body.length = (rdN b).2.1.length by omega, ← hz]
  exact hb

/-! back: what is laid down is read -/
theorem stTxt_fore (t : ByteArray) (ht : t.size ≤ 255) (r : List UInt8) : stTxt (txt t ++ r, false) = (t, (r, false)) := by
  have hb : (byteAt t.size 0).toNat = t.size := by rw [byteAt_toNat]; omega
  have e1 : stNum (txt t ++ r, false) 1 = (t.size, (t.data.toList ++ r, false)) := by
    unfold stNum stTake txt
    rw [if_neg (by simp)]
    simp [beN, hb]
  unfold stTxt
  rw [e1]
  have hl : t.data.toList.length = t.size := by simp
  have e2 : stTake (t.data.toList ++ r, false) t.size = (t.data.toList, (r, false)) := by
    unfold stTake
    rw [if_neg (by simp)]
    simp only
    rw [← hl, List.take_left' rfl, List.drop_left' rfl]
  rw [e2]
theorem stNum2_fore (n : Nat) (hn : n < 65536) (r : List UInt8) : stNum (beB n 2 ++ r, false) 2 = (n, (r, false)) := by
  have e : beB n 2 = [byteAt n 1, byteAt n 0] := rfl
  unfold stNum stTake
  rw [e, if_neg (by simp)]
  simp [beN, byteAt_toNat]
  omega
theorem stNum3_fore (n : Nat) (hn : n < 16777216) (r : List UInt8) : stNum (beB n 3 ++ r, false) 3 = (n, (r, false)) := by
  have e : beB n 3 = [byteAt n 2, byteAt n 1, byteAt n 0] := rfl
  unfold stNum stTake
  rw [e, if_neg (by simp)]
  simp [beN, byteAt_toNat]
  omega
theorem stNum1_fore (x : UInt8) (r : List UInt8) : stNum (x :: r, false) 1 = (x.toNat, (r, false)) := by
  unfold stNum stTake
  rw [if_neg (by simp)]
  simp [beN]
theorem prs_fore (ps : List Pr) (hs : ∀ p ∈ ps, p.1.size ≤ 255 ∧ p.2.size ≤ 255) (r : List UInt8) : ∀ j, j ≤ ps.length → prs j (ps.flatMap ptx ++ r, false) = (ps.take j, ((ps.drop j).flatMap ptx ++ r, false))
  | 0, _ => by simp [prs]
  | j + 1, hj => by
    have ih := prs_fore ps hs r j (by omega)
    have hm := pAt_mem ps j (by omega)
    have hd : ps.drop j = pAt ps j :: ps.drop (j + 1) := by rw [pAt_get ps j (by omega), List.drop_eq_getElem_cons (by omega)]
    rw [prs_step j _ (by rw [ih]), ih, pTake ps j (by omega)]
    simp only
    rw [hd, List.flatMap_cons, ptx, List.append_assoc, List.append_assoc, stTxt_fore _ (hs _ hm).1]
    simp only
    rw [stTxt_fore _ (hs _ hm).2]
theorem kys_fore (ks : List ByteArray) (hs : ∀ p ∈ ks, p.size ≤ 255) (r : List UInt8) : ∀ j, j ≤ ks.length → kys j (ks.flatMap txt ++ r, false) = (ks.take j, ((ks.drop j).flatMap txt ++ r, false))
  | 0, _ => by simp [kys]
  | j + 1, hj => by
    have ih := kys_fore ks hs r j (by omega)
    have hm := sAt_mem ks j (by omega)
    have hd : ks.drop j = sAt ks j :: ks.drop (j + 1) := by rw [sAt_get ks j (by omega), List.drop_eq_getElem_cons (by omega)]
    rw [kys_step j _ (by rw [ih]), ih, sTake ks j (by omega)]
    simp only
    rw [hd, List.flatMap_cons, List.append_assoc, stTxt_fore _ (hs _ hm)]
theorem chs_fore (cs : List Int) (hs : ∀ p ∈ cs, 0 ≤ p ∧ p < 16777216) (r : List UInt8) : ∀ j, j ≤ cs.length → chs j (cs.flatMap chB ++ r, false) = (cs.take j, ((cs.drop j).flatMap chB ++ r, false))
  | 0, _ => by simp [chs]
  | j + 1, hj => by
    have ih := chs_fore cs hs r j (by omega)
    have hc := hs _ (List.getElem_mem (show j < cs.length by omega))
    have hd : cs.drop j = cs[j] :: cs.drop (j + 1) := List.drop_eq_getElem_cons (by omega)
    rw [chs_step j _ (by rw [ih]), ih, List.take_succ_eq_append_getElem (show j < cs.length by omega)]
    simp only
    rw [hd, List.flatMap_cons, List.append_assoc, chB, stNum3_fore _ (by omega)]
    simp only
    rw [Int.toNat_of_nonneg hc.1]
theorem psum_two : ∀ ps : List Pr, 2 * ps.length ≤ psum ps
  | [] => by simp [psum]
  | a :: l => by
    have ih := psum_two l
    simp only [psum, List.map_cons, List.sum_cons, List.length_cons, psz] at ih ⊢
    omega
theorem okN_read {b : List UInt8} {N : Nd} (h : okN b N) : okP b ∧ (rdN b).1 = N := by
  obtain ⟨h1, h2⟩ := h
  obtain ⟨r1, r2, hfit, hsz⟩ := chk_zero h1
  have hbl := fits_body hfit
  obtain ⟨z, hz⟩ : ∃ z, b.length - N.body.length = z := ⟨_, rfl⟩
  rw [hz] at h2
  obtain ⟨leaf, ps, ks, cs⟩ := N
  have hallz : (zeros z).all (· == 0) = true := by simp [zeros]
  cases leaf with
  | true =>
    have hf := hfit
    rw [Nd.fits] at hf
    simp only [if_true, Bool.and_eq_true, beq_iff_eq] at hf
    obtain ⟨⟨hk0, hc0⟩, hok⟩ := hf
    have hk : ks = [] := List.eq_nil_of_length_eq_zero hk0
    have hc : cs = [] := List.eq_nil_of_length_eq_zero hc0
    subst hk hc
    have hs : ∀ p ∈ ps, p.1.size ≤ 255 ∧ p.2.size ≤ 255 := by
      intro p hp
      obtain ⟨i, hi, rfl⟩ := List.getElem_of_mem hp
      have hb := allOk_at hok i hi
      rw [← pAt_get ps i hi]
      simp only [badP, Bool.or_eq_false_iff, decide_eq_false_iff_not] at hb
      omega
    have hlen : ps.length < 65536 := by
      have := psum_two ps
      simp only [Nd.size, ssum, List.map_nil, List.sum_nil, List.length_nil] at hsz
      omega
    have hb : b = 1 :: (beB ps.length 2 ++ (ps.flatMap ptx ++ zeros z)) := by
      rw [h2]
      show leafB ps ++ zeros z = _
      simp [leafB]
    have e1 : stNum (b, false) 1 = (1, (beB ps.length 2 ++ (ps.flatMap ptx ++ zeros z), false)) := by rw [hb]; exact stNum1_fore 1 _
    have hkd : knd b = 1 := by unfold knd; rw [e1]
    have hct : cnt b = (ps.length, (ps.flatMap ptx ++ zeros z, false)) := by unfold cnt; rw [e1]; exact stNum2_fore _ hlen _
    have hrd : rdN b = (⟨true, ps, [], []⟩, (zeros z, false)) := by
      unfold rdN
      rw [if_pos hkd, hct]
      have := prs_fore ps hs (zeros z) ps.length (Nat.le_refl _)
      simp only
      rw [this]
      simp
    refine ⟨⟨.inl hkd, by rw [hrd], by rw [hrd]; exact h1, by rw [hrd]; exact hallz⟩, by rw [hrd]⟩
  | false =>
    have hf := hfit
    rw [Nd.fits] at hf
    simp only [Bool.false_eq_true, if_false, Bool.and_eq_true, beq_iff_eq] at hf
    obtain ⟨⟨⟨hp0, hok⟩, hcl⟩, hoc⟩ := hf
    have hp : ps = [] := List.eq_nil_of_length_eq_zero hp0
    subst hp
    have hs : ∀ p ∈ ks, p.size ≤ 255 := by
      intro p hp
      obtain ⟨i, hi, rfl⟩ := List.getElem_of_mem hp
      have hb := allOk_at hok i hi
      rw [← sAt_get ks i hi]
      simp only [badS, Bool.or_eq_false_iff, decide_eq_false_iff_not] at hb
      omega
    have hcs : ∀ p ∈ cs, 0 ≤ p ∧ p < 16777216 := by
      intro p hp
      obtain ⟨i, hi, rfl⟩ := List.getElem_of_mem hp
      have hb := allOk_at hoc i hi
      simp only [badC, Bool.or_eq_false_iff, decide_eq_false_iff_not, List.getD, List.getElem?_eq_getElem hi, Option.getD_some] at hb
      omega
    have hlen : ks.length < 65536 := by
      simp only [Nd.size] at hsz
      omega
    have hb : b = 2 :: (beB ks.length 2 ++ (cs.flatMap chB ++ (ks.flatMap txt ++ zeros z))) := by
      rw [h2]
      show innB cs ks ++ zeros z = _
      simp [innB]
    have e1 : stNum (b, false) 1 = (2, (beB ks.length 2 ++ (cs.flatMap chB ++ (ks.flatMap txt ++ zeros z)), false)) := by rw [hb]; exact stNum1_fore 2 _
    have hkd : knd b = 2 := by unfold knd; rw [e1]
    have hct : cnt b = (ks.length, (cs.flatMap chB ++ (ks.flatMap txt ++ zeros z), false)) := by unfold cnt; rw [e1]; exact stNum2_fore _ hlen _
    have hrd : rdN b = (⟨false, [], ks, cs⟩, (zeros z, false)) := by
      unfold rdN
      rw [if_neg (by omega), hct]
      have t1 := chs_fore cs hcs (ks.flatMap txt ++ zeros z) cs.length (Nat.le_refl _)
      have t2 := kys_fore ks hs (zeros z) ks.length (Nat.le_refl _)
      simp only
      rw [← hcl, t1]
      simp only [List.drop_length, List.flatMap_nil, List.nil_append, List.take_length]
      rw [t2]
      simp
    refine ⟨⟨.inr hkd, by rw [hrd], by rw [hrd]; exact h1, by rw [hrd]; exact hallz⟩, by rw [hrd]⟩
theorem okN_iff (b : List UInt8) (N : Nd) : okN b N ↔ okP b ∧ (rdN b).1 = N :=
  ⟨okN_read, fun ⟨h, e⟩ => e ▸ okP_sound h⟩
end Go.Bs
