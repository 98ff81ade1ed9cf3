/- read: the only key that could have these bytes. Conditions: none. -/
import Derived.Test.YtlnghdldecnmgaaKD
set_option maxRecDepth 8000
set_option linter.unusedSimpArgs false
set_option linter.unusedVariables false
namespace Go.Kx
open Go.RowKit Go.Bs
def numOf : Fld → Option Bool
  | .num ism _ _ _ => some ism
  | _ => none
def Apart (fs : List Fld) : Prop := fs.Pairwise fun f f' => numOf f = none ∨ numOf f ≠ numOf f'
instance (fs : List Fld) : Decidable (Apart fs) := by unfold Apart; infer_instance
theorem fields_apart (kind : Int) : Apart (fields kind) := by
  unfold fields
  split <;> decide
def Unr (fs : List Fld) (k : Ky) : Prop := ∀ f ∈ fs, ∀ ism, numOf f = some ism → k.num ism = 0
theorem Unr.step {f : Fld} {fs : List Fld} {k : Ky} (h : Unr (f :: fs) k) (ha : Apart (f :: fs)) (l : List UInt8) : Unr fs (readK k l f).1 := by
  intro f' hf' ism' hi'
  have h0 := h f' (List.mem_cons_of_mem _ hf') ism' hi'
  have ha' := (List.pairwise_cons.1 ha).1 f' hf'
  cases f with
  | num ism least most size =>
    rcases ha' with e | e
    · cases e
    · have hne : ism ≠ ism' := fun e' => e (by rw [hi', e']; rfl)
      cases ism <;> cases ism' <;> simp_all [readK, Ky.setN, Ky.num]
  | nam isb => cases isb <;> cases ism' <;> simp_all [readK, Ky.setT, Ky.num]
  | end_ => cases ism' <;> simp_all [readK, Ky.setT, Ky.num]
theorem Unr.none (fs : List Fld) (kind : Int) : Unr fs (noneK kind) := by
  intro f _ ism _
  cases ism <;> rfl
theorem readK_len (k : Ky) (l : List UInt8) (f : Fld) : (readK k l f).2.length ≤ l.length := by
  cases f with
  | num ism least most size => simp [readK]
  | nam isb => simp [readK]
  | end_ =>
    simp only [readK, List.length_drop]
    have h : (l.dropWhile (· != 0)).length ≤ l.length := (List.dropWhile_sublist _).length_le
    omega
theorem readK_bd {k : Ky} {l : List UInt8} {f : Fld} (h : Bd k) (hl : l.length ≤ 1000) (ho : OkF f) : Bd (readK k l f).1 := by
  cases f with
  | num ism least most size =>
    have h1 := beN_lt (l.take size)
    have h2 : 256 ^ (l.take size).length ≤ 256 ^ 3 := Nat.pow_le_pow_right (by omega) (by have := ho.2; simp; omega)
    have h3 : beN (l.take size) < 16777216 := by omega
    cases ism
    · exact ⟨h.a, h.b, by simp only [readK, Ky.setN, Bool.false_eq_true, if_false]; omega, h.m⟩
    · exact ⟨h.a, h.b, h.n, by simp only [readK, Ky.setN, if_true]; omega⟩
  | nam isb =>
    cases isb
    · exact ⟨hl, h.b, h.n, h.m⟩
    · exact ⟨h.a, hl, h.n, h.m⟩
  | end_ =>
    refine ⟨?_, h.b, h.n, h.m⟩
    have h1 : (l.takeWhile (· != 0)).length ≤ l.length := (List.takeWhile_sublist _).length_le
    simp only [readK, Ky.setT, Bool.false_eq_true, if_false]
    omega
theorem reads_bd : ∀ (fs : List Fld) (k : Ky) (l : List UInt8), Bd k → l.length ≤ 1000 → (∀ f ∈ fs, OkF f) → Bd (readsK fs k l)
  | [], k, l, h, _, _ => h
  | f :: fs, k, l, h, hl, ho => reads_bd fs _ _ (readK_bd h hl (ho f (List.mem_cons_self ..))) (Nat.le_trans (readK_len k l f) hl) (fun f' hf' => ho f' (List.mem_cons_of_mem _ hf'))
theorem Bd.none (kind : Int) : Bd (noneK kind) := ⟨by simp [noneK], by simp [noneK], by simp [noneK], by simp [noneK]⟩
theorem readF_bd (l : List UInt8) (hl : l.length ≤ 1000) : Bd (readF l) := by
  cases l with
  | nil => exact Bd.none 0
  | cons x l => exact reads_bd _ _ _ (Bd.none _) (by simp at hl; omega) (fields_ok _).1
theorem ix_bd (l : List UInt8) (c : UInt8) : -1 ≤ ix l c ∧ ix l c < l.length ∨ ix l c = -1 := by
  rcases ix_cases c l with ⟨h, _⟩ | ⟨k, hk, h, _⟩
  · exact .inr h
  · exact .inl ⟨by omega, by omega⟩
theorem FAt.v1 {w : World} {base : Nat} {v1 v2 : Value} {f : Fld} (h : FAt w base v1 v2 f) : ∃ F cap, v1 = .func (.func F) #[] cap := by
  cases f with
  | num ism least most size => obtain ⟨q, _, e, _⟩ := h; exact ⟨_, _, e⟩
  | nam isb => obtain ⟨q, _, e, _⟩ := h; exact ⟨_, _, e⟩
  | end_ => obtain ⟨q, q', _, _, e, _⟩ := h; exact ⟨_, _, e⟩
theorem KyAt.set5 {w : World} {z : Nat} {k : Ky} (h : KyAt w z k) (k' : Ky) : KyAt (((((w.setCell ⟨z, 0, none⟩ (.int .i64 k'.kind)).setCell ⟨z, 1, none⟩ (st k'.a)).setCell ⟨z, 2, none⟩ (st k'.b)).setCell ⟨z, 3, none⟩ (.int .i64 k'.n)).setCell ⟨z, 4, none⟩ (.int .i64 k'.m)) z k' := by
  have := row_setT (i := 4) (row_setT (i := 3) (row_setT (i := 2) (row_setT (i := 1) (row_setT (i := 0) h (.int .i64 k'.kind)) (st k'.a)) (st k'.b)) (.int .i64 k'.n)) (.int .i64 k'.m)
  simpa [KyAt, Ky.cells] using this
/-- a row of fields, as a slice. -/
theorem FsAt.row {w : World} {base : Nat} {v : Value} {fs : List Fld} (h : FsAt w base v fs) : ∃ A n c, v = .slice A n c ∧ n = fs.length ∧ ∀ W D, Fr D w W → (∀ i, D i → i < base) → ∀ j, j < n → ∃ q v1 v2, A = some ⟨q, 0, none⟩ ∧ W.cell? ⟨q, j * 2, none⟩ = some v1 ∧ W.cell? ⟨q, j * 2 + 1, none⟩ = some v2 ∧ FAt W base v1 v2 (fs.getD j .end_) := by
  rcases h with ⟨rfl, rfl⟩ | ⟨q, c, rfl, hq, hc, h⟩
  · exact ⟨none, 0, 0, rfl, rfl, fun W D hf hD j hj => absurd hj (by omega)⟩
  · refine ⟨_, _, c, rfl, rfl, fun W D hf hD j hj => ?_⟩
    obtain ⟨v1, v2, c1, c2, hfa⟩ := h j hj
    have hn : ¬ D q := fun hd => by have := hD q hd; omega
    exact ⟨q, v1, v2, rfl, hf.cell c1 hn, hf.cell c2 hn, hfa.fr hf hD⟩
end Go.Kx
namespace Go.Proofs.Ytlnghdldecnmgaa
open Go.RowKit Go.Bs Go.Kx

set_option maxHeartbeats 4000000 in
theorem read_yes (x : UInt8) (l : List UInt8) (w : World) (hl : l.length ≤ 1000) : Calls Try.prog 26 #[st (x :: l)] w fun e w' => e = .returned (readF (x :: l)).val ∧ Below w.heap.size w w' := by
  have HI := Lib.hid (fun W => Index_any ⟨letters.toArray⟩ x W)
  obtain ⟨y, hy⟩ : ∃ y, ix letters x = y := ⟨_, rfl⟩
  have hy' : Lib.indexByte (⟨letters.toArray⟩ : ByteArray).data.toList x = y := hy
  rw [hy'] at HI
  have hyb := ix_bd letters x
  rw [hy] at hyb
  have hyb2 : -1 ≤ y ∧ y ≤ 9 := by have : letters.length = 10 := rfl; omega
  have hRF : readF (x :: l) = readsK (fields (y + 1)) (noneK (y + 1)) l := by simp only [readF, hy]
  obtain ⟨R, hR⟩ : ∃ R, readsK (fields (y + 1)) (noneK (y + 1)) l = R := ⟨_, rfl⟩
  rw [hRF, hR]
  obtain ⟨g, hg⟩ : ∃ g, w.heap.size = g := ⟨_, rfl⟩
  rw [hg]
  obtain ⟨W2, hW2⟩ : ∃ W2, (w.alloc (.cells (noneK 0).cells 23)).alloc (.cells (noneK (y + 1)).cells 23) = W2 := ⟨_, rfl⟩
  have hk0 : KyAt W2 g (noneK 0) := by
    rw [← hW2, ← hg]
    exact (KyAt.new w _).keep ((Below.refl _ _).alloc (Nat.le_refl _) _)
  have hk1 : KyAt W2 (g + 1) (noneK (y + 1)) := by
    have := KyAt.new (w.alloc (.cells (noneK 0).cells 23)) (noneK (y + 1))
    rw [hW2] at this
    simpa [hg] using this
  have hs2 : W2.heap.size = g + 2 := by rw [← hW2]; simp [hg]
  have hb2 : Below g w W2 := by
    rw [← hW2, ← hg]
    exact ((Below.refl _ _).alloc (Nat.le_refl _) _).alloc (by simp) _
  have HFO := Lib.hid (fieldsOf_any W2 (y + 1))
  have HK0 := Lib.hid hk0
  have HK1 := Lib.hid hk1
  have HS2 := Lib.hid hs2
  have HB2 := Lib.hid hb2
  have HG := Lib.hid hg
  obtain ⟨c0, _⟩ := hk1.at
  have HR := Lib.hid hR
  have HFK := Lib.hid (fields_ok (y + 1))
  have HFA := Lib.hid (fields_apart (y + 1))
  obtain ⟨fs, hfs⟩ : ∃ fs, fields (y + 1) = fs := ⟨_, rfl⟩
  rw [hfs] at HFO HR HFK HFA
  have hsl : ∀ W, (Instr.slice 9 (.string ⟨(x :: l).toArray⟩) (some (.int .i64 (1 : Int))) none none).run Try.prog W = .ok (st l) W := slice_from (x :: l) 1 (by simp)
  have hix : ∀ W, (Instr.index 9 (.string ⟨(x :: l).toArray⟩) (.int .i64 (0 : Int))).run Try.prog W = .ok (B x) W := idx_st (x :: l) 0 x (by simp) rfl
  have hsz : (⟨(x :: l).toArray⟩ : ByteArray).size = l.length + 1 := by rw [size_list]; simp
  have hne : (([] : List UInt8) == x :: l) = false := rfl
  clear hy hy' hyb hRF hR hk0 hk1 hs2 hb2 hfs
  have hW2' : (w.alloc (.cells #[.int .i64 0, .string ⟨#[]⟩, .string ⟨#[]⟩, .int .i64 0, .int .i64 0] 23)).alloc (.cells #[.int .i64 (y + 1), .string ⟨#[]⟩, .string ⟨#[]⟩, .int .i64 0, .int .i64 0] 23) = W2 := hW2
  have HW2 := Lib.hid hW2'
  clear hW2 hW2'
  show Calls Try.prog 26 #[.string ⟨(x :: l).toArray⟩] _ _
  go_enter Try.func26, Try.ntmps26
  go_wp2_with fail
  refine (HI.out _).mono ?_
  rintro e w' ⟨rfl, rfl⟩
  have hwy : IntKind.i64.wrap (y + 1) = y + 1 := IntWalk.i64_in _ (by omega)
  go_wp2_with fail
  rw [HW2.out]
  refine HFO.out.mono ?_
  rintro e w1 ⟨v, rfl, hfs, hb1⟩
  rw [HS2.out] at hfs hb1
  obtain ⟨A, n, c, rfl, hn, hrow⟩ := hfs.row
  have HROW := Lib.hid hrow
  have HN := Lib.hid hn
  have HK1' := Lib.hid (HK1.out.keep (HS2.out.symm ▸ hb1))
  have HB1 : Hid (Fr (fun i => i = g + 1) w1 w1 ∧ Below g w w1 ∧ g + 2 ≤ w1.heap.size ∧ KyAt w1 g (noneK 0)) :=
    ⟨Fr.refl _ _, HB2.out.trans (hb1.mono (by omega)), by have := hb1.size; rw [HS2.out] at this; exact this, HK0.out.keep (HS2.out.symm ▸ hb1)⟩
  have hn2 : n ≤ 2 := by rw [hn]; exact HFK.out.2
  clear hb1 hfs hrow hn c0
  go_wp2
  go_loopw [4, 21] (fun rv i wr => ∃ (j : Nat) (kj : Ky) (r : List UInt8), j ≤ n ∧ i = .int .i64 j ∧ rv = st r ∧ r.length ≤ 1000 ∧ KyAt wr (g + 1) kj ∧ Unr (fs.drop j) kj ∧ Fr (fun i => i = g + 1) w1 wr ∧ readsK (fs.drop j) kj r = R) (fun _ i _ => n - (intOf i).toNat)
  case atStart => exact ⟨0, _, l, Nat.zero_le _, rfl, rfl, hl, HK1'.out, Unr.none _ _, HB1.out.1, HR.out⟩
  case round =>
    obtain ⟨j, kj, r, hj, rfl, rfl, hrl, hkj, hun, hfr, hrd⟩ := hrel
    by_cases hlt : j < n
    · obtain ⟨q, v1, v2, rfl, d1, d2, hfa⟩ := HROW.out wr _ hfr (fun i e => by have : i = g + 1 := e; omega) j hlt
      obtain ⟨f, hff⟩ : ∃ f, fs.getD j .end_ = f := ⟨_, rfl⟩
      have hdr := drop_get fs j (by rw [← HN.out]; exact hlt)
      rw [hdr, hff] at hrd hun
      rw [hff] at hfa
      have hof : OkF f := HFK.out.1 f (by
        rw [← hff, List.getD_eq_getElem?_getD, List.getElem?_eq_getElem (by rw [← HN.out]; exact hlt)]
        exact List.getElem_mem _)
      have hap : Apart (f :: fs.drop (j + 1)) := by
        have := List.Pairwise.drop (i := j) HFA.out
        rw [hdr, hff] at this
        exact this
      obtain ⟨F1, cap1, rfl⟩ := hfa.v1
      have hb1 : ∀ v2, Below wr.heap.size wr (wr.alloc (.cells #[.func (.func F1) #[] cap1, v2] 56)) := fun v2 => (Below.refl _ _).alloc (Nat.le_refl _) _
      obtain ⟨F, cap, rfl, hent, hT⟩ := read_any (wr.alloc (.cells #[.func (.func F1) #[] cap1, v2] 56)) (g + 1) (g + 2) kj f _ v2 r (hkj.keep (hb1 _)) (by omega) hof (hfa.keep (hb1 _)) (by omega) (fun ism a b c e => hun f (List.mem_cons_self ..) ism (by rw [e]; rfl))
      obtain ⟨W1, hW1⟩ : ∃ W1, wr.alloc (.cells #[.func (.func F1) #[] cap1, .func (.func F) #[] cap] 56) = W1 := ⟨_, rfl⟩
      have HT := Lib.hid hT
      have HF1 : Hid (Fr (fun i => i = g + 1) w1 W1) := by rw [← hW1]; exact hfr.alloc _
      have HUN := Lib.hid (hun.step hap r)
      have HRD := Lib.hid hrd
      have hrl2 := Nat.le_trans (readK_len kj r f) hrl
      have HW1 := Lib.hid hW1
      clear hT hfr hun hrd hof hap hW1 hfa hkj hb1 hff hdr
      go_wp2_with fail
      refine HT.out.mono ?_
      rintro e w2 ⟨rfl, hk2, hf2⟩
      have HK2 := Lib.hid hk2
      have HF2 : Hid (Fr (fun i => i = g + 1) w1 w2) := by
        rw [HW1.out] at hf2
        exact HF1.out.trans hf2
      clear hk2 hf2
      obtain ⟨kj2, hkj2⟩ : ∃ k2, (readK kj r f).1 = k2 := ⟨_, rfl⟩
      obtain ⟨r2, hr2⟩ : ∃ r2, (readK kj r f).2 = r2 := ⟨_, rfl⟩
      rw [hkj2] at HK2 HUN
      rw [hr2] at hrl2 ⊢
      have HRD2 : Hid (readsK (fs.drop (j + 1)) kj2 r2 = R) := by rw [← hkj2, ← hr2]; exact HRD.out
      clear hkj2 hr2 HT HRD
      go_wp2
      exact ⟨⟨j + 1, kj2, r2, by omega, by go_num, rfl, hrl2, HK2.out, HUN.out, HF2.out, HRD2.out⟩, by simp [intOf]; omega⟩
    · obtain rfl : j = n := by omega
      have hR2 : kj = R := by
        rw [HN.out, List.drop_length] at hrd
        exact hrd
      subst hR2
      have hk0 := HB1.out.2.2.2.fr hfr (by show ¬ g = g + 1; omega)
      obtain ⟨l0, l1, l2, l3, l4, _⟩ := hkj.at
      have HB3 : Hid (Below g w wr) := HB1.out.2.1.trans (hfr.below (fun i e => by have : i = g + 1 := e; omega) (by have := HB1.out.2.2.1; omega))
      obtain ⟨z0, z1, z2, z3, z4, zf⟩ := hk0.at
      have zf0 := zf 0
      have zf1 := zf 1
      have zf2 := zf 2
      have zf3 := zf 3
      have zf4 := zf 4
      have hgs := hk0.lt
      have HK0' := Lib.hid hk0
      clear hk0 hkj hun hfr hrd zf
      have HE : Hid (Below g w (((((wr.setCell ⟨g, 0, none⟩ (.int .i64 kj.kind)).setCell ⟨g, 1, none⟩ (st kj.a)).setCell ⟨g, 2, none⟩ (st kj.b)).setCell ⟨g, 3, none⟩ (.int .i64 kj.n)).setCell ⟨g, 4, none⟩ (.int .i64 kj.m))) :=
        ((((HB3.out.setCell (Nat.le_refl _) _).setCell (Nat.le_refl _) _).setCell (Nat.le_refl _) _).setCell (Nat.le_refl _) _).setCell (Nat.le_refl _) _
      unfold st at l1 l2 z1 z2
      go_wp2
      exact bodyPost_ret (results_cell_row (P := Try.prog) (fn := Try.f26) rfl _ _ g 23 _ (0, 0) _ rfl (HK0'.out.set5 kj) Try.underlying23 rfl (by kernel_rfl)) rfl ⟨rfl, HE.out⟩
theorem read_no (w : World) : Calls Try.prog 26 #[st []] w fun e w' => e = .returned (readF []).val ∧ Below w.heap.size w w' := by
  have HROW : Hid (KyAt (w.alloc (.cells (noneK 0).cells 23)) w.heap.size (noneK 0)) := KyAt.new w _
  have HB : Hid (Below w.heap.size w (w.alloc (.cells (noneK 0).cells 23))) := (Below.refl _ _).alloc (Nat.le_refl _) _
  show Calls Try.prog 26 #[.string ⟨#[]⟩] w _
  go_enter Try.func26, Try.ntmps26
  go_wp2
  exact bodyPost_ret (results_cell_row (P := Try.prog) (fn := Try.f26) rfl _ _ _ 23 _ (0, 0) _ rfl HROW.out Try.underlying23 rfl (by kernel_rfl)) rfl ⟨rfl, HB.out⟩
theorem readF_any (l : List UInt8) (w : World) (hl : l.length ≤ 1000) : Calls Try.prog 26 #[st l] w fun e w' => e = .returned (readF l).val ∧ Below w.heap.size w w' := by
  cases l with
  | nil => exact read_no w
  | cons x l => exact read_yes x l w (by simp at hl; omega)
end Go.Proofs.Ytlnghdldecnmgaa
