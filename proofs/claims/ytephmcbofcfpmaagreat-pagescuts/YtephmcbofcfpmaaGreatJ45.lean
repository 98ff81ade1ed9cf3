/- What the law of cuts asks beside. Conditions: none. -/
import Derived.Test.YtephmcbofcfpmaaGreatJ35
import Derived.Test.YtephmcbofcfpmaaGreatJ44
set_option maxRecDepth 8000
set_option linter.unusedVariables false
set_option linter.unusedSimpArgs false
namespace Go.Proofs.YtephmcbofcfpmaaGreat
open Go.RowKit Go.Bs Go.Dk Rp
theorem lk_ne (N Bz M : Nat) (T : TX) (k : Nat) : (⟨(lkTo N Bz M T k).toArray⟩ : ByteArray).toList.isEmpty = false := by
  rw [ByteArray.toList_eq]
  show (lkTo N Bz M T k).toArray.toList.isEmpty = false
  have h2 : ∀ k, 2 ≤ (lkTo N Bz M T k).length := by
    intro k
    induction k with
    | zero => simp [lkTo]
    | succ k ih => simp only [lkTo, List.length_append]; omega
  have := h2 k
  rw [List.toList_toArray]
  cases h : lkTo N Bz M T k with
  | nil => rw [h] at this; simp at this
  | cons x l => rfl
theorem ba_ext {a b : ByteArray} (h : a.toList = b.toList) : a = b := by
  rw [ByteArray.toList_eq, ByteArray.toList_eq] at h
  cases a; cases b
  congr
  exact Array.toList_inj.1 h
theorem commit_cases {N Bz M log : Nat} {L : Nat → List UInt8} {T : TX} (hL : Dm N Bz M L) (hT : Dm N Bz M T.L) (hd : T.done = false) (hsame : ∀ k, k < N → usedP N Bz M T.L (k : Int) = true → T.W k = false → T.L k = L k) (hroot : T.root = true ∨ T.L M = L M) :
    (T.commit N Bz M log L).2.2 = 8 ∧ (T.commit N Bz M log L).1 = L ∨ (T.commit N Bz M log L).2.2 = 0 ∧ (⟨(lkTo N Bz M (TX.new (T.commit N Bz M log L).1) N).toArray⟩ : ByteArray) = ⟨(lkTo N Bz M T N).toArray⟩ := by
  have h := lk_commit hL hT hd hsame hroot N (Nat.le_refl _)
  unfold TX.commit
  rw [hd]
  simp only [Bool.false_eq_true, if_false]
  split
  · exact .inl ⟨rfl, rfl⟩
  · right
    refine ⟨rfl, ?_⟩
    show (⟨(lkTo N Bz M (TX.new (outK N Bz M L T.end_ N)) N).toArray⟩ : ByteArray) = _
    rw [h]
theorem bWriteC {w0 a : World} {pp t q g : Nat} {s : S} {log N Bz M : Nat} {L : Nat → List UInt8} {T : TX} (h : SyB w0 a pp t q g s log N Bz M L T) (p : Int) (A : Option Addr) (n c : Nat) (bs : List UInt8) (hr : Rd w0 A n c bs) (hn : n ≤ 100000) : Calls Tryz.prog 25 #[.pointer (some ⟨t, 0, none⟩), .int .i64 p, .slice A n c] a fun e b => e = .returned (.int .i64 (T.write N Bz M p bs).2) ∧ SyB w0 b pp t q g s log N Bz M L (T.write N Bz M p bs).1 := by
  obtain ⟨D, h1, h2, h3⟩ := h
  refine (sWrite a pp t q g s log N Bz M L T D h1 p A n c bs (hr.keep h3) (fun h0 x hx hd => ?_) hn).mono ?_
  · obtain ⟨g', o', e, hg, _⟩ := hr.cells h0
    rw [hx] at e
    cases e
    have := h2 _ hd
    simp only at this
    omega
  · rintro e b ⟨rfl, hp⟩
    exact ⟨rfl, SyB.step h2 h3 hp⟩
end Go.Proofs.YtephmcbofcfpmaaGreat

