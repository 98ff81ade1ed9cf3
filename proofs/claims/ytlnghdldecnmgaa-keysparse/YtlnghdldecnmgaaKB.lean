/- lay. Conditions: none. -/
import Derived.Test.YtlnghdldecnmgaaKA
set_option maxRecDepth 8000
set_option linter.unusedSimpArgs false
set_option linter.unusedVariables false
namespace Go.Bs
open Go.RowKit
theorem Own.one (w : World) (x : UInt8) : Own (w.alloc (.cells #[B x] 5)) w.heap.size 5 (.slice (some ⟨w.heap.size, 0, none⟩) 1 1) [x] :=
  ⟨by simp, .inr ⟨w.heap.size, 1, #[B x], rfl, Nat.le_refl _, heap_alloc_new w _, by simp, by simp [maxLen], by simp, by simp⟩⟩
end Go.Bs
namespace Go.Kx
open Go.RowKit Go.Bs
theorem _root_.Go.Kx.FAt.v2 {w : World} {base : Nat} {v1 v2 : Value} {f : Fld} (h : FAt w base v1 v2 f) : ∃ F cap, v2 = .func (.func F) #[] cap := by
  cases f with
  | num ism least most size => obtain ⟨q, _, _, e, _⟩ := h; exact ⟨_, _, e⟩
  | nam isb => obtain ⟨q, _, _, e, _⟩ := h; exact ⟨_, _, e⟩
  | end_ => obtain ⟨q, q', _, _, _, e, _⟩ := h; exact ⟨_, _, e⟩
theorem _root_.Go.Kx.own_keepB1 {w w' : World} {base e : Nat} {v : Value} {bs : List UInt8} (h : Own w base e v bs) (hk : ∀ k, v.ownBlock = some k → w'.heap[k]? = w.heap[k]?) : Own w' base e v bs := by
  rcases h with ⟨h1, h2 | ⟨g, cap, cur, rfl, h3, h4, h5⟩⟩
  · exact ⟨h1, .inl h2⟩
  · exact ⟨h1, .inr ⟨g, cap, cur, rfl, h3, (hk g rfl).trans h4, h5⟩⟩
open Go.RowKit Go.Bs
/-- what lay tells. -/
def LayE (w : World) (z : Nat) (r : Option (Ky × List UInt8)) (e : Ending) (w' : World) : Prop :=
  Fr (· = z) w w' ∧ match r with
    | some (k', s) => e = .returned (.tuple #[st s, .int .i64 0]) ∧ KyAt w' z k'
    | none => e = .returned (.tuple #[st [], .int .i64 1])
theorem drop_get (fs : List Fld) (j : Nat) (h : j < fs.length) : fs.drop j = fs.getD j .end_ :: fs.drop (j + 1) := by
  rw [List.getD_eq_getElem?_getD, List.getElem?_eq_getElem h]
  exact List.drop_eq_getElem_cons h
end Go.Kx
namespace Go.Proofs.Ytlnghdldecnmgaa
open Go.RowKit Go.Bs Go.Kx
theorem u8_info : (Try.prog.info? 5).map (fun i => (i.zero, i.size, i.bytes)) = some (some (.int .u8 0), 1, 1) := by kernel_rfl

set_option maxHeartbeats 4000000 in
theorem lay_any (w : World) (z base : Nat) (k : Ky) (fs : List Fld) (v : Value) (hk : KyAt w z k) (hf : FsAt w base v fs) (hz : z < base) (hb : base ≤ w.heap.size) (hbd : Bd k) (hok : ∀ f ∈ fs, OkF f) (hfl : fs.length ≤ 2) :
    Calls Try.prog 20 #[.pointer (some ⟨z, 0, none⟩), v] w (LayE w z (lay fs k)) := by
  obtain ⟨c0, c1, c2, c3, c4, fz⟩ := hk.at
  by_cases hkind : 1 ≤ k.kind ∧ k.kind ≤ 10
  rotate_left
  · have hl : lay fs k = none := by unfold lay; rw [if_neg hkind]
    rw [hl]
    obtain ⟨kk, hkk⟩ : ∃ kk, k.kind = kk := ⟨_, rfl⟩
    rw [hkk] at c0 hkind
    clear hk hf c1 c2 c3 c4 fz hbd hl hkk
    by_cases h1 : kk < 1
    · go_enter Try.func20, Try.ntmps20
      go_wp2
      go_ret2
      exact ⟨Fr.refl _ _, rfl⟩
    · have h2 : 10 < kk := by omega
      go_enter Try.func20, Try.ntmps20
      go_wp2
      go_ret2
      exact ⟨Fr.refl _ _, rfl⟩
  · have hl : lay fs k = layF fs k [letterOf k.kind] := by unfold lay; rw [if_pos hkind]
    rw [hl]
    obtain ⟨x, hx⟩ : ∃ x, letterOf k.kind = x := ⟨_, rfl⟩
    rw [hx]
    obtain ⟨i, hi⟩ : ∃ i : Nat, k.kind = (i : Int) + 1 := ⟨(k.kind - 1).toNat, by omega⟩
    have hi9 : i ≤ 9 := by omega
    have hidx : ∀ W, (Instr.index 9 (.string ⟨#[110, 105, 99, 100, 112, 114, 117, 102, 103, 116]⟩) (.int .i64 (i : Int))).run Try.prog W = .ok (B x) W := fun W => idx_st letters i x (by simp [letters]; omega) (by rw [← hx, letterOf, hi]; congr 1; omega) W
    rw [hi] at c0
    have hw1 : IntKind.i64.wrap ((i : Int) + 1 - 1) = (i : Int) := by rw [IntWalk.i64_in _ (by omega)]; omega
    have HK := Lib.hid hk
    have HF := Lib.hid hf
    have HBD := Lib.hid hbd
    have HI := Lib.hid hi
    obtain ⟨g, hg⟩ : ∃ g, w.heap.size = g := ⟨_, rfl⟩
    have HG := Lib.hid hg
    clear hk hf c1 c2 c3 c4 fz hbd hl hi hg
    obtain ⟨A, n, c, rfl, hn, hrow⟩ : ∃ A n c, v = .slice A n c ∧ n = fs.length ∧ ∀ W D, Fr D w W → (∀ i, D i → i < base) → ∀ j, j < n → ∃ q v1 v2, A = some ⟨q, 0, none⟩ ∧ W.cell? ⟨q, j * 2, none⟩ = some v1 ∧ W.cell? ⟨q, j * 2 + 1, none⟩ = some v2 ∧ FAt W base v1 v2 (fs.getD j .end_) := by
      rcases HF.out with ⟨rfl, rfl⟩ | ⟨q, c, rfl, hq, hc, h⟩
      · exact ⟨none, 0, 0, rfl, rfl, fun W D hf hD j hj => absurd hj (by omega)⟩
      · refine ⟨_, _, c, rfl, rfl, fun W D hf hD j hj => ?_⟩
        obtain ⟨v1, v2, c1, c2, hfa⟩ := h j hj
        have hn : ¬ D q := fun hd => by have := hD q hd; omega
        exact ⟨q, v1, v2, rfl, hf.cell c1 hn, hf.cell c2 hn, hfa.fr hf hD⟩
    have HN := Lib.hid hn
    have HROW := Lib.hid hrow
    have hn2 : n ≤ 2 := by omega
    obtain ⟨W0, hW0⟩ : ∃ W0, w.alloc (.cells #[B x] 5) = W0 := ⟨_, rfl⟩
    have HST : Hid (KyAt W0 z k ∧ Own W0 g 5 (.slice (some ⟨g, 0, none⟩) 1 1) [x] ∧ Fr (· = z) w W0) := by
      rw [← hW0, ← HG.out]
      exact ⟨HK.out.keep ((Below.refl _ _).alloc (Nat.le_refl _) _), Own.one w x, Fr.of ((Below.refl _ _).alloc (Nat.le_refl _) _)⟩
    have HW0 := Lib.hid hW0
    obtain ⟨R, hR⟩ : ∃ R, layF fs k [x] = R := ⟨_, rfl⟩
    rw [hR]
    have HRR := Lib.hid hR
    clear hn hrow HF hW0 hR
    go_enter Try.func20, Try.ntmps20
    go_wp2
    rw [HW0.out, HG.out]
    go_loopw [6, 32] (fun bv i wr => ∃ (j : Nat) (kj : Ky) (bs : List UInt8), j ≤ n ∧ i = .int .i64 j ∧ KyAt wr z kj ∧ Bd kj ∧ Own wr g 5 bv bs ∧ 0 < bs.length ∧ bs.length ≤ 1 + 65 * j ∧ Fr (· = z) w wr ∧ layF (fs.drop j) kj bs = R) (fun _ i _ => n - (intOf i).toNat)
    case atStart => exact ⟨0, k, [x], Nat.zero_le _, rfl, HST.out.1, HBD.out, HST.out.2.1, by simp, by simp, HST.out.2.2, HRR.out⟩
    case round =>
      obtain ⟨j, kj, bs, hj, rfl, hkj, hbj, hown, hl0, hl1, hfr, hlay⟩ := hrel
      have hsg : g ≤ wr.heap.size := by rw [← HG.out]; exact hfr.size
      by_cases hlt : j < n
      · obtain ⟨q, v1, v2, rfl, d1, d2, hfa⟩ := HROW.out wr _ hfr (fun i e => by have : i = z := e; omega) j hlt
        obtain ⟨f, hff⟩ : ∃ f, fs.getD j .end_ = f := ⟨_, rfl⟩
        rw [drop_get fs j (by rw [← HN.out]; exact hlt), hff] at hlay
        rw [hff] at hfa
        have hof : OkF f := hok f (by
          rw [← hff, List.getD_eq_getElem?_getD, List.getElem?_eq_getElem (by rw [← HN.out]; exact hlt)]
          exact List.getElem_mem _)
        obtain ⟨F2, cap2, rfl⟩ := hfa.v2
        have hb1 : Below wr.heap.size wr (wr.alloc (.cells #[v1, .func (.func F2) #[] cap2] 56)) := (Below.refl _ _).alloc (Nat.le_refl _) _
        obtain ⟨F, cap, rfl, hent, hT⟩ := take_any _ z base kj f v1 _ (hkj.keep hb1) hz hbj hof (hfa.keep hb1)
        obtain ⟨W1, hW1⟩ : ∃ W1, wr.alloc (.cells #[.func (.func F) #[] cap, .func (.func F2) #[] cap2] 56) = W1 := ⟨_, rfl⟩
        have HT := Lib.hid hT
        have HO1 : Hid (Own W1 g 5 u6 bs ∧ Fr (· = z) w W1 ∧ g ≤ W1.heap.size) := by
          rw [← hW1]
          exact ⟨hown.keep hb1, hfr.alloc _, by simp; omega⟩
        have HLAY := Lib.hid hlay
        have HBJ := Lib.hid hbj
        have HOF := Lib.hid hof
        have HW1 := Lib.hid hW1
        clear hT hown hfr hlay hbj hof hW1 hfa hkj hb1 hff hsg
        go_wp2_with fail
        refine HT.out.mono ?_
        rintro e w2 ⟨s, ok, rfl, hyes, hno, hk2, hf2⟩
        have HK2 := Lib.hid hk2
        have HF2 : Hid (Fr (· = z) w w2 ∧ g ≤ w2.heap.size) := by
          rw [HW1.out] at hf2
          exact ⟨HO1.out.2.1.trans hf2, Nat.le_trans HO1.out.2.2 hf2.size⟩
        have HO2 : Hid (Own w2 g 5 u6 bs) := by
          rw [HW1.out] at hf2
          exact own_keepB1 HO1.out.1 (fun k hk => hf2.block k (HO1.out.1.block k hk) (by have := HO1.out.1.base k hk; show ¬ k = z; rw [← HG.out] at this; omega))
        clear hk2 hf2
        cases ok with
        | false =>
          have HR : Hid (R = none) := by
            show R = none
            rw [← HLAY.out]
            simp only [layF, hno rfl]
          clear hyes hno
          go_wp2
          go_ret2
          rw [HR.out]
          exact ⟨HF2.out.1, rfl⟩
        | true =>
          have HR := Lib.hid (hyes rfl)
          clear hyes hno
          have hsl : s.length ≤ 65 := takeF_len HOF.out HR.out
          have hss : (⟨s.toArray⟩ : ByteArray).size = s.length := size_list s
          unfold st
          go_wp2_with (at_builtin; refine wpList_strG _ rfl (.tmp 45) (.tmp 46) 49 9 rfl g 5 Try.underlying49 Try.underlying9 u8_info u6 bs rfl HO2.out hl0 ⟨s.toArray⟩ rfl (by omega) HF2.out.2 ?_; intro v3 w3 ho3 hg3)
          refine ⟨⟨j + 1, clearF kj f, bs ++ s, by omega, by go_num, ?_, HBJ.out.clear f, by simpa using ho3, by simp; omega, by simp; omega, ?_, ?_⟩, by simp [intOf]; omega⟩
          · have h1 := HK2.out
            refine (hg3.block z h1.lt (fun e => ?_)).trans h1
            have := HO2.out.base z e
            have := HG.out
            omega
          · exact HF2.out.1.grown hg3.1 (fun k hk => .inr (by have := HO2.out.base k hk; have := HG.out; omega))
          · show layF (fs.drop (j + 1)) (clearF kj f) (bs ++ s) = R
            rw [← HLAY.out]
            simp only [layF, HR.out]
      · obtain rfl : j = n := by omega
        have hR2 : R = some (kj, bs) := by
          rw [← hlay, HN.out, List.drop_length]
          rfl
        obtain ⟨A2, c2, rfl, hrd⟩ := hown.slice bs.length rfl
        have hst := string_rd wr _ _ c2 _ hrd
        have HE := Lib.hid (And.intro hfr hkj)
        have HR2 := Lib.hid hR2
        clear hfr hkj hbj hlay hrd hown hR2
        go_wp2
        go_ret2
        rw [HR2.out]
        exact ⟨HE.out.1, rfl, HE.out.2⟩
end Go.Proofs.Ytlnghdldecnmgaa
