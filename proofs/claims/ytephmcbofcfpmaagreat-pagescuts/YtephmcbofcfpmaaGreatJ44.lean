/- The pages and the document's, side by side. Conditions: none. Rows of one's own that are overwritten. Conditions: none. -/
import Derived.Test.YtephmcbofcfpmaaGreatJ31
import Derived.Test.YtephmcbofcfpmaaGreatJ36
import Derived.Test.YtephmcbofcfpmaaGreatJ40
import Derived.Test.YtephmcbofcfpmaaGreatJ41
import Derived.Test.YtephmcbofcfpmaaGreatJ43
set_option maxRecDepth 8000
set_option linter.unusedVariables false
set_option linter.unusedSimpArgs false
namespace Go.Proofs.YtephmcbofcfpmaaGreat
open Go.RowKit Go.Bs Go.Dk Rp

def Kp (K : Nat → Prop) (a b : World) : Prop := a.heap.size ≤ b.heap.size ∧ ∀ k, K k → b.heap[k]? = a.heap[k]?
theorem Kp.refl (K : Nat → Prop) (a : World) : Kp K a a := ⟨Nat.le_refl _, fun _ _ => rfl⟩
theorem Kp.trans {K : Nat → Prop} {a b c : World} (h : Kp K a b) (h' : Kp K b c) : Kp K a c := ⟨Nat.le_trans h.1 h'.1, fun k hk => (h'.2 k hk).trans (h.2 k hk)⟩
/-- the pages and the document's, both in new memory and apart; the blocks of K are others. -/
def Twp (w a : World) (pp t q g : Nat) (s : S) (r u log N Bz M : Nat) (L : Nat → List UInt8) (T : TX) (L' : Nat → List UInt8) (T' : TX) (K : Nat → Prop) : Prop :=
  ∃ D D', Sy a pp t q g s log N Bz M L T D ∧ PTAt a r u N Bz M log L' T' D' ∧ (∀ k, D k → w.heap.size ≤ k) ∧ (∀ k, D' k → w.heap.size ≤ k) ∧ (∀ k, D k → ¬ D' k) ∧ Below w.heap.size w a ∧ ∀ k, K k → k < a.heap.size ∧ ¬ D k ∧ ¬ D' k
section
variable {w a b : World} {pp t q g : Nat} {s : S} {r u log N Bz M : Nat} {L : Nat → List UInt8} {T : TX} {L' : Nat → List UInt8} {T' : TX} {K K' : Nat → Prop}
theorem Twp.bel (h : Twp w a pp t q g s r u log N Bz M L T L' T' K) : Below w.heap.size w a := by
  obtain ⟨D, D', _, _, _, _, _, h, _⟩ := h
  exact h
theorem Twp.less (h : Twp w a pp t q g s r u log N Bz M L T L' T' K) (hk : ∀ k, K' k → K k) : Twp w a pp t q g s r u log N Bz M L T L' T' K' := by
  obtain ⟨D, D', h1, h2, h3, h4, h5, h6, h7⟩ := h
  exact ⟨D, D', h1, h2, h3, h4, h5, h6, fun k h => h7 k (hk k h)⟩
theorem Twp.moreK (h : Twp w a pp t q g s r u log N Bz M L T L' T' K) (hb : Below a.heap.size a b) (hK : ∀ k, K' k → K k ∨ (a.heap.size ≤ k ∧ k < b.heap.size)) : Twp w b pp t q g s r u log N Bz M L T L' T' K' := by
  obtain ⟨D, D', h1, h2, h3, h4, h5, h6, h7⟩ := h
  refine ⟨D, D', h1.below hb, h2.below hb, h3, h4, h5, h6.trans (hb.mono h6.size), fun k hk => ?_⟩
  rcases hK k hk with hk | ⟨e1, e2⟩
  · exact ⟨Nat.lt_of_lt_of_le (h7 k hk).1 hb.size, (h7 k hk).2⟩
  · exact ⟨e2, fun hd => (by have := h1.lt _ hd; omega), fun hd => (by have := h2.blw _ hd; omega)⟩
theorem Twp.grow (h : Twp w a pp t q g s r u log N Bz M L T L' T' K) (hb : Below a.heap.size a b) : Twp w b pp t q g s r u log N Bz M L T L' T' K ∧ Kp K a b :=
  ⟨h.moreK hb fun k hk => .inl hk, hb.size, fun k hk => hb.block k (by obtain ⟨D, D', _, _, _, _, _, _, h7⟩ := h; exact (h7 k hk).1)⟩
theorem Twp.frK (h : Twp w a pp t q g s r u log N Bz M L T L' T' K) (hf : Fr K a b) (hK : ∀ k, K k → w.heap.size ≤ k) : Twp w b pp t q g s r u log N Bz M L T L' T' K := by
  obtain ⟨D, D', h1, h2, h3, h4, h5, h6, h7⟩ := h
  exact ⟨D, D', h1.keep hf.size (fun k hd => hf.block k (h1.lt k hd) (fun e => (h7 k e).2.1 hd)), h2.keep hf.size (fun k hd => hf.block k (h2.blw k hd) (fun e => (h7 k e).2.2 hd)), h3, h4, h5, h6.trans (hf.below hK h6.size), fun k hk => ⟨Nat.lt_of_lt_of_le (h7 k hk).1 hf.size, (h7 k hk).2⟩⟩
theorem Twp.did {t1 : Nat} {s1 : S} {L1 : Nat → List UInt8} {T1 : TX} {D D' : Nat → Prop} (h1 : Sy a pp t q g s log N Bz M L T D) (h2 : PTAt a r u N Bz M log L' T' D') (h3 : ∀ k, D k → w.heap.size ≤ k) (h4 : ∀ k, D' k → w.heap.size ≤ k) (h5 : ∀ k, D k → ¬ D' k) (h6 : Below w.heap.size w a) (h7 : ∀ k, K k → k < a.heap.size ∧ ¬ D k ∧ ¬ D' k)
    (h : SyD D pp t1 q g s1 log N Bz M L1 T1 a b) : Twp w b pp t1 q g s1 r u log N Bz M L1 T1 L' T' K ∧ Kp K a b := by
  obtain ⟨D2, e1, e2, e3⟩ := h
  have hs := h6.size
  have hs2 := e3.size
  refine ⟨⟨D2, D', e1, h2.keep e3.size (fun k hd => e3.block k (h2.blw k hd) (fun hd' => h5 k hd' hd)), fun k hd => ?_, h4, fun k hd hd' => ?_, h6.trans (e3.below h3 hs), fun k hk => ⟨Nat.lt_of_lt_of_le (h7 k hk).1 hs2, fun hd => ?_, (h7 k hk).2.2⟩⟩, hs2, fun k hk => e3.block k (h7 k hk).1 (h7 k hk).2.1⟩
  · rcases e2 k hd with h | h
    · exact h3 k h
    · omega
  · rcases e2 k hd with h | h
    · exact h5 k h hd'
    · have := h2.blw k hd'; omega
  · rcases e2 k hd with h | h
    · exact (h7 k hk).2.1 h
    · have := (h7 k hk).1; omega
theorem Twp.rdid {u1 : Nat} {L1 : Nat → List UInt8} {T1 : TX} {D D' : Nat → Prop} (h1 : Sy a pp t q g s log N Bz M L T D) (h2 : PTAt a r u N Bz M log L' T' D') (h3 : ∀ k, D k → w.heap.size ≤ k) (h4 : ∀ k, D' k → w.heap.size ≤ k) (h5 : ∀ k, D k → ¬ D' k) (h6 : Below w.heap.size w a) (h7 : ∀ k, K k → k < a.heap.size ∧ ¬ D k ∧ ¬ D' k)
    (h : PDid D' r u1 N Bz M log L1 T1 a b) : Twp w b pp t q g s r u1 log N Bz M L T L1 T1 K ∧ Kp K a b := by
  obtain ⟨D2, e1, e2, e3⟩ := h
  have hs := h6.size
  have hs2 := e3.size
  refine ⟨⟨D, D2, h1.keep e3.size (fun k hd => e3.block k (h1.lt k hd) (fun hd' => h5 k hd hd')), e1, h3, fun k hd => ?_, fun k hd hd' => ?_, h6.trans (e3.below h4 hs), fun k hk => ⟨Nat.lt_of_lt_of_le (h7 k hk).1 hs2, (h7 k hk).2.1, fun hd => ?_⟩⟩, hs2, fun k hk => e3.block k (h7 k hk).1 (h7 k hk).2.2⟩
  · rcases e2 k hd with h | h
    · exact h4 k h
    · omega
  · rcases e2 k hd' with h | h
    · exact h5 k hd h
    · have := h1.lt k hd; omega
  · rcases e2 k hd with h | h
    · exact (h7 k hk).2.2 h
    · have := (h7 k hk).1; omega
theorem Twp.take (h : Twp w a pp t q g s r u log N Bz M L T L' T' K) : Calls Tryz.prog 19 #[.pointer (some ⟨t, 0, none⟩)] a fun e b => e = .returned (.tuple #[.int .i64 (T.take N Bz M).2.1, .int .i64 (T.take N Bz M).2.2]) ∧ Twp w b pp t q g s r u log N Bz M L (T.take N Bz M).1 L' T' K ∧ Kp K a b := by
  obtain ⟨D, D', h1, h2, h3, h4, h5, h6, h7⟩ := h
  exact (sTake a pp t q g s log N Bz M L T D h1).mono fun e b ⟨he, hb⟩ => ⟨he, Twp.did h1 h2 h3 h4 h5 h6 h7 hb⟩
theorem Twp.rtake (h : Twp w a pp t q g s r u log N Bz M L T L' T' K) : Calls Tryz.prog 20 #[.pointer (some ⟨u, 0, none⟩)] a fun e b => e = .returned (.tuple #[.int .i64 (T'.take N Bz M).2.1, .int .i64 (T'.take N Bz M).2.2]) ∧ Twp w b pp t q g s r u log N Bz M L T L' (T'.take N Bz M).1 K ∧ Kp K a b := by
  obtain ⟨D, D', h1, h2, h3, h4, h5, h6, h7⟩ := h
  exact (Rp.Take_any a r u N Bz M log L' T' D' h2).mono fun e b ⟨he, hb⟩ => ⟨he, Twp.rdid h1 h2 h3 h4 h5 h6 h7 hb⟩
theorem Twp.give (h : Twp w a pp t q g s r u log N Bz M L T L' T' K) (p : Int) : Calls Tryz.prog 21 #[.pointer (some ⟨t, 0, none⟩), .int .i64 p] a fun e b => e = .returned (.int .i64 (T.give N Bz M p).2) ∧ Twp w b pp t q g s r u log N Bz M L (T.give N Bz M p).1 L' T' K ∧ Kp K a b := by
  obtain ⟨D, D', h1, h2, h3, h4, h5, h6, h7⟩ := h
  exact (sGive a pp t q g s log N Bz M L T D h1 p).mono fun e b ⟨he, hb⟩ => ⟨he, Twp.did h1 h2 h3 h4 h5 h6 h7 hb⟩
theorem Twp.rgive (h : Twp w a pp t q g s r u log N Bz M L T L' T' K) (p : Int) : Calls Tryz.prog 22 #[.pointer (some ⟨u, 0, none⟩), .int .i64 p] a fun e b => e = .returned (.int .i64 (T'.give N Bz M p).2) ∧ Twp w b pp t q g s r u log N Bz M L T L' (T'.give N Bz M p).1 K ∧ Kp K a b := by
  obtain ⟨D, D', h1, h2, h3, h4, h5, h6, h7⟩ := h
  exact (Rp.Give_any a r u N Bz M log L' T' D' h2 p).mono fun e b ⟨he, hb⟩ => ⟨he, Twp.rdid h1 h2 h3 h4 h5 h6 h7 hb⟩
theorem Twp.setRoot (h : Twp w a pp t q g s r u log N Bz M L T L' T' K) (p : Int) : Calls Tryz.prog 27 #[.pointer (some ⟨t, 0, none⟩), .int .i64 p] a fun e b => e = .returned (.int .i64 (T.setRoot N Bz M p).2) ∧ Twp w b pp t q g s r u log N Bz M L (T.setRoot N Bz M p).1 L' T' K ∧ Kp K a b := by
  obtain ⟨D, D', h1, h2, h3, h4, h5, h6, h7⟩ := h
  exact (sSetRoot a pp t q g s log N Bz M L T D h1 p).mono fun e b ⟨he, hb⟩ => ⟨he, Twp.did h1 h2 h3 h4 h5 h6 h7 hb⟩
theorem Twp.rsetRoot (h : Twp w a pp t q g s r u log N Bz M L T L' T' K) (p : Int) : Calls Tryz.prog 28 #[.pointer (some ⟨u, 0, none⟩), .int .i64 p] a fun e b => e = .returned (.int .i64 (T'.setRoot N Bz M p).2) ∧ Twp w b pp t q g s r u log N Bz M L T L' (T'.setRoot N Bz M p).1 K ∧ Kp K a b := by
  obtain ⟨D, D', h1, h2, h3, h4, h5, h6, h7⟩ := h
  exact (Rp.SetRoot_any a r u N Bz M log L' T' D' h2 p).mono fun e b ⟨he, hb⟩ => ⟨he, Twp.rdid h1 h2 h3 h4 h5 h6 h7 hb⟩
theorem Twp.read (h : Twp w a pp t q g s r u log N Bz M L T L' T' K) (p : Int) : Calls Tryz.prog 23 #[.pointer (some ⟨t, 0, none⟩), .int .i64 p] a fun e b => ∃ v, e = .returned (.tuple #[v, .int .i64 (T.read N Bz M p).2]) ∧ RdW a b v (T.read N Bz M p).1 ∧ Twp w b pp t q g s r u log N Bz M L T L' T' K ∧ Kp K a b := by
  obtain ⟨D, D', h1, h2, h3, h4, h5, h6, h7⟩ := h
  exact (sRead a pp t q g s log N Bz M L T D h1 p).mono fun e b ⟨v, he, hr, hb⟩ => ⟨v, he, hr, Twp.did h1 h2 h3 h4 h5 h6 h7 hb⟩
theorem Twp.rread (h : Twp w a pp t q g s r u log N Bz M L T L' T' K) (p : Int) : Calls Tryz.prog 24 #[.pointer (some ⟨u, 0, none⟩), .int .i64 p] a fun e b => e = .returned (.tuple #[.string ⟨(T'.read N Bz M p).1.toArray⟩, .int .i64 (T'.read N Bz M p).2]) ∧ ∃ k, b = a.drewN k := by
  obtain ⟨D, D', h1, h2, h3, h4, h5, h6, h7⟩ := h
  exact Rp.Read_any a r u N Bz M log L' T' D' h2 p
theorem Twp.write (h : Twp w a pp t q g s r u log N Bz M L T L' T' K) (p : Int) (A : Option Addr) (n c : Nat) (bs : List UInt8) (hr : Rd a A n c bs) (hA : 0 < n → ∀ x, A = some x → K x.block) (hn : n ≤ 100000) : Calls Tryz.prog 25 #[.pointer (some ⟨t, 0, none⟩), .int .i64 p, .slice A n c] a fun e b => e = .returned (.int .i64 (T.write N Bz M p bs).2) ∧ Twp w b pp t q g s r u log N Bz M L (T.write N Bz M p bs).1 L' T' K ∧ Kp K a b := by
  obtain ⟨D, D', h1, h2, h3, h4, h5, h6, h7⟩ := h
  exact (sWrite a pp t q g s log N Bz M L T D h1 p A n c bs hr (fun e x hx => (h7 _ (hA e x hx)).2.1) hn).mono fun e b ⟨he, hb⟩ => ⟨he, Twp.did h1 h2 h3 h4 h5 h6 h7 hb⟩
theorem Twp.rwrite (h : Twp w a pp t q g s r u log N Bz M L T L' T' K) (p : Int) (A : Option Addr) (n c : Nat) (bs : List UInt8) (hr : Rd a A n c bs) : Calls Tryz.prog 26 #[.pointer (some ⟨u, 0, none⟩), .int .i64 p, .slice A n c] a fun e b => e = .returned (.int .i64 (T'.write N Bz M p bs).2) ∧ Twp w b pp t q g s r u log N Bz M L T L' (T'.write N Bz M p bs).1 K ∧ Kp K a b := by
  obtain ⟨D, D', h1, h2, h3, h4, h5, h6, h7⟩ := h
  exact (Rp.Write_any a r u N Bz M log L' T' D' h2 p A n c bs hr).mono fun e b ⟨he, hb⟩ => ⟨he, Twp.rdid h1 h2 h3 h4 h5 h6 h7 hb⟩
theorem Twp.commit (h : Twp w a pp t q g s r u log N Bz M L T L' T' K) (hl0 : s.left = 0) (hdeeds : s.deeds + 8 * (log + 1) < 900000) : Calls Tryz.prog 29 #[.pointer (some ⟨t, 0, none⟩)] a fun e b => e = .returned (.int .i64 (T.commit N Bz M log L).2.2) ∧ ∃ s', (Twp w b pp t q g s' r u log N Bz M (T.commit N Bz M log L).1 (T.commit N Bz M log L).2.1 L' T' K ∧ Kp K a b) ∧ s'.left = 0 ∧ s'.deeds ≤ s.deeds + 8 * (log + 1) := by
  obtain ⟨D, D', h1, h2, h3, h4, h5, h6, h7⟩ := h
  exact (sCommit a pp t q g s log N Bz M L T D h1 hl0 hdeeds).mono fun e b ⟨he, s', hb, hx⟩ => ⟨he, s', Twp.did h1 h2 h3 h4 h5 h6 h7 hb, hx⟩
theorem Twp.rcommit (h : Twp w a pp t q g s r u log N Bz M L T L' T' K) : Calls Tryz.prog 30 #[.pointer (some ⟨u, 0, none⟩)] a fun e b => e = .returned (.int .i64 (T'.commit N Bz M log L').2.2) ∧ Twp w b pp t q g s r u log N Bz M L T (T'.commit N Bz M log L').1 (T'.commit N Bz M log L').2.1 K ∧ Kp K a b := by
  obtain ⟨D, D', h1, h2, h3, h4, h5, h6, h7⟩ := h
  exact (Rp.Commit_any a r u N Bz M log L' T' D' h2).mono fun e b ⟨he, hb⟩ => ⟨he, Twp.rdid h1 h2 h3 h4 h5 h6 h7 hb⟩
theorem Twp.root (h : Twp w a pp t q g s r u log N Bz M L T L' T' K) : Calls Tryz.prog 18 #[.pointer (some ⟨t, 0, none⟩)] a fun e b => e = .returned (.tuple #[.int .i64 (rootV M T).1, .int .i64 (rootV M T).2]) ∧ Twp w b pp t q g s r u log N Bz M L T L' T' K ∧ Kp K a b := by
  obtain ⟨D, D', h1, h2, h3, h4, h5, h6, h7⟩ := h
  exact (sRoot a pp t q g s log N Bz M L T D h1).mono fun e b ⟨he, hb⟩ => ⟨he, Twp.did h1 h2 h3 h4 h5 h6 h7 hb⟩
theorem Twp.free (h : Twp w a pp t q g s r u log N Bz M L T L' T' K) : Calls Tryz.prog 31 #[.pointer (some ⟨pp, 0, none⟩)] a fun e b => e = .returned (.tuple #[.int .i64 (freeN N Bz M L N : Int), .int .i64 0]) ∧ Twp w b pp t q g s r u log N Bz M L T L' T' K ∧ Kp K a b := by
  obtain ⟨D, D', h1, h2, h3, h4, h5, h6, h7⟩ := h
  exact (sFree a pp q g s log N Bz M L D h1.sp).mono fun e b ⟨he, _, hf, hy⟩ => ⟨he, Twp.did h1 h2 h3 h4 h5 h6 h7 ⟨D, hy t T h1, fun k hk => .inl hk, hf⟩⟩
theorem Twp.size (h : Twp w a pp t q g s r u log N Bz M L T L' T' K) : Calls Tryz.prog 32 #[.pointer (some ⟨pp, 0, none⟩)] a fun e b => e = .returned (.tuple #[.int .i64 ((N : Int) - (M + 1 : Nat)), .int .i64 (Bz : Int)]) ∧ ∃ k, b = a.drewN k := by
  obtain ⟨D, D', h1, h2, h3, h4, h5, h6, h7⟩ := h
  exact sSize a pp q g s log N Bz M L D h1.sp
theorem Twp.bytes (h : Twp w a pp t q g s r u log N Bz M L T L' T' K) : Calls Tryz.prog 35 #[.pointer (some ⟨t, 0, none⟩)] a fun e b => e = .returned (.int .i64 (Bz : Int)) ∧ ∃ k, b = a.drewN k := by
  obtain ⟨D, D', h1, h2, h3, h4, h5, h6, h7⟩ := h
  exact sBytes a pp t q g s log N Bz M L T D h1
theorem Twp.at_ (h : Twp w a pp t q g s r u log N Bz M L T L' T' K) : Calls Tryz.prog 33 #[.pointer (some ⟨u, 0, none⟩)] a fun e b => e = .returned (.int .i64 (Rp.le32 (T'.L M) : Int)) ∧ ∃ k, b = a.drewN k := by
  obtain ⟨D, D', h1, h2, h3, h4, h5, h6, h7⟩ := h
  exact Rp.At_any a r u N Bz M log L' T' D' h2
theorem Twp.rfree (h : Twp w a pp t q g s r u log N Bz M L T L' T' K) : Calls Tryz.prog 34 #[.pointer (some ⟨r, 0, none⟩)] a fun e b => e = .returned (.int .i64 (freeN N Bz M L' N : Int)) ∧ ∃ k, b = a.drewN k := by
  obtain ⟨D, D', h1, h2, h3, h4, h5, h6, h7⟩ := h
  exact Rp.Free_any a r u N Bz M log L' T' D' h2
theorem Twp.cells (h : Twp w a pp t q g s r u log N Bz M L T L' T' K) : a.cell? ⟨r, 2, none⟩ = some (.int .i64 (M : Int)) ∧ a.cell? ⟨u, 4, none⟩ = some (.bool T'.done) := by
  obtain ⟨D, D', h1, ⟨lb, cap, lt, capt, wb, capw, h⟩, _⟩ := h
  exact ⟨(pc_cells h.rowP).2.2.1, (tc_cells h.rowT).2.2.2.2.1⟩
/-- begun anew; the old transaction's block stays. -/
theorem Twp.begin_ (h : Twp w a pp t q g s r u log N Bz M L T L' T' K) : Calls Tryz.prog 16 #[.pointer (some ⟨pp, 0, none⟩)] a fun e b => ∃ t', e = .returned (.pointer (some ⟨t', 0, none⟩)) ∧ t' ≠ t ∧ t < b.heap.size ∧ b.cell? ⟨t, 0, none⟩ = some (.pointer (some ⟨pp, 0, none⟩)) ∧ (∃ ca, b.heap[t]? = some (.cells ca 104 (0, 0))) ∧ Twp w b pp t' q g s r u log N Bz M L (TX.new L) L' T' K ∧ Kp K a b := by
  obtain ⟨D, D', h1, h2, h3, h4, h5, h6, h7⟩ := h
  obtain ⟨o1, o2, o3, ca, o4⟩ := h1.old
  refine (sBegin a pp q g s log N Bz M L D h1.sp).mono ?_
  rintro e b ⟨t', rfl, ht, hb, hf⟩
  have hk := hf.block t o1 o2
  exact ⟨t', rfl, by omega, Nat.lt_of_lt_of_le o1 hf.size, (World.cell?_of_block (a := ⟨t, 0, none⟩) hk).trans o3, ⟨ca, hk.trans o4⟩, Twp.did h1 h2 h3 h4 h5 h6 h7 hb⟩
theorem Twp.rbegin (h : Twp w a pp t q g s r u log N Bz M L T L' T' K) : Calls Tryz.prog 17 #[.pointer (some ⟨r, 0, none⟩)] a fun e b => ∃ u', e = .returned (.pointer (some ⟨u', 0, none⟩)) ∧ Below a.heap.size a b ∧ Twp w b pp t q g s r u' log N Bz M L T L' (TX.new L') K ∧ Kp K a b := by
  obtain ⟨D, D', h1, h2, h3, h4, h5, h6, h7⟩ := h
  have hp := h2
  obtain ⟨lb, cap, lt, capt, wb, capw, hp⟩ := hp
  refine (Rp.Begin_any a r N Bz M log L' D' lb cap hp.pg).mono ?_
  rintro e b ⟨u', D2, rfl, hb, hD, hbl⟩
  exact ⟨u', rfl, hbl, Twp.rdid h1 h2 h3 h4 h5 h6 h7 ⟨D2, hb, hD, Fr.of hbl⟩⟩
theorem Twp.oldroot (h : Twp w a pp t q g s r u log N Bz M L T L' T' K) (hd : T.done = false) (v : Nat) (h0 : a.cell? ⟨v, 0, none⟩ = some (.pointer (some ⟨pp, 0, none⟩))) (ca : Array Value) (ht : a.heap[v]? = some (.cells ca 104 (0, 0))) (hne : t ≠ v) : Calls Tryz.prog 18 #[.pointer (some ⟨v, 0, none⟩)] a fun e b => e = .returned (.tuple #[.int .i64 0, .int .i64 1]) ∧ a = b := by
  obtain ⟨D, D', h1, h2, h3, h4, h5, h6, h7⟩ := h
  exact Root_old a pp v t q g s log N Bz M L T D h1 hd h0 ca ht hne
end
/-- few calls, with few bytes. -/
def few (w : World) (a : Option Addr) (len : Nat) : Prop := len ≤ 80 ∧ ∀ i, i < len → ∀ g o c, a = some ⟨g, o, none⟩ → ClAt w g (o + i * 4) c → c.bl ≤ 60 ∧ c.kl ≤ 60
set_option maxHeartbeats 2000000 in
theorem few_any (w : World) (a : Option Addr) (len cap : Nat) (h : IsO w a len cap) : Calls Tryz.prog 11 #[.slice a len cap] w fun e w' => (e = .returned (.bool false) ∨ (e = .returned (.bool true) ∧ few w a len)) ∧ w = w' := by
  have HO := Lib.hid h
  have hm := h.m
  unfold maxLen at hm
  have hle := h.le
  clear h
  by_cases h1 : len ≤ 80
  · go_enter Tryz.func11, Tryz.ntmps11
    go_wp2
    go_loop [3] (fun i => ∃ k : Nat, k ≤ len ∧ i = .int .i64 k ∧ ∀ j, j < k → ∀ g o c, a = some ⟨g, o, none⟩ → ClAt w g (o + j * 4) c → c.bl ≤ 60 ∧ c.kl ≤ 60) (fun i => len - (RowKit.intOf i).toNat)
    case atStart => exact ⟨0, Nat.zero_le _, rfl, fun j hj => absurd hj (by omega)⟩
    case round =>
      obtain ⟨k, hk, rfl, hrel⟩ := hrel
      have HP := Lib.hid hrel
      clear hrel
      by_cases hlt : k < len
      · obtain ⟨g, o, c, rfl, hg, hc⟩ := HO.out.at_ k hlt
        have c2 := hc.c2
        have c3 := hc.c3
        have m3 := hc.m3
        have m4 := hc.m4
        unfold maxLen at m3 m4
        have HC := Lib.hid hc
        clear hc
        by_cases hb : c.bl ≤ 60
        · by_cases hq : c.kl ≤ 60
          · go_wp2
            go_round
            case rel =>
              refine ⟨k + 1, by omega, by go_num, fun j hj g' o' c' e hc' => ?_⟩
              by_cases hjk : j < k
              · exact HP.out j hjk g' o' c' e hc'
              · obtain rfl : j = k := by omega
                cases e
                have e3 := hc'.c2.symm.trans HC.out.c2
                have e4 := hc'.c3.symm.trans HC.out.c3
                simp at e3 e4
                omega
            case measure => simp [RowKit.intOf]; omega
          · go_wp2
            go_ret
            exact ⟨.inl rfl, rfl⟩
        · go_wp2
          go_ret
          exact ⟨.inl rfl, rfl⟩
      · obtain rfl : k = len := by omega
        go_wp2
        go_ret
        exact ⟨.inr ⟨rfl, h1, HP.out⟩, rfl⟩
  · go_enter Tryz.func11, Tryz.ntmps11
    go_wp2
    go_ret
    exact ⟨.inl rfl, rfl⟩
end Go.Proofs.YtephmcbofcfpmaaGreat

set_option maxRecDepth 8000
set_option linter.unusedSimpArgs false
set_option linter.unusedVariables false
namespace Go.Proofs.YtephmcbofcfpmaaGreat
open Go.RowKit Go.Bs Go.Dk

/-- a row of cells that may be stored into. -/
def Row (w : World) (z ty n : Nat) (P : Value → Prop) : Prop := ∃ cur, w.heap[z]? = some (.cells cur ty (0, 0)) ∧ ∀ j, j < n → ∃ v, cur[j]? = some v ∧ P v
theorem Row.cell {w : World} {z ty n : Nat} {P : Value → Prop} (h : Row w z ty n P) (j : Nat) (hj : j < n) : (∃ v, w.cell? ⟨z, j, none⟩ = some v ∧ P v) ∧ w.frozen? ⟨z, j, none⟩ = false := by
  obtain ⟨cur, h1, h2⟩ := h
  obtain ⟨v, h3, h4⟩ := h2 j hj
  exact ⟨⟨v, (cell_of_row w z j cur ty (0, 0) h1).trans h3, h4⟩, by simp [World.frozen?, h1]⟩
theorem Row.set {w : World} {z ty n : Nat} {P : Value → Prop} (h : Row w z ty n P) (j : Nat) (v : Value) (hv : P v) : Row (w.setCell ⟨z, j, none⟩ v) z ty n P := by
  obtain ⟨cur, h1, h2⟩ := h
  refine ⟨cur.setIfInBounds j v, by rw [setCell_eq_setRow w z j _ ty (0, 0) v h1, setRow_heap w z _ _ ty _ h1], fun i hi => ?_⟩
  obtain ⟨u, h3, h4⟩ := h2 i hi
  have hlt : i < cur.size := (Array.getElem?_eq_some_iff.1 h3).1
  rw [Array.getElem?_setIfInBounds]
  by_cases e : j = i
  · subst e
    rw [if_pos rfl, if_pos hlt]
    exact ⟨v, rfl, hv⟩
  · rw [if_neg e]
    exact ⟨u, h3, h4⟩
theorem Row.keep {w w' : World} {z ty n : Nat} {P : Value → Prop} (h : Row w z ty n P) (e : w'.heap[z]? = w.heap[z]?) : Row w' z ty n P := by
  obtain ⟨cur, h1, h2⟩ := h
  exact ⟨cur, e.trans h1, h2⟩
theorem row_own {w : World} {base e n : Nat} {v : Value} {xs : List Value} (P : Value → Prop) (h : w.ownsRow base e 1 v n xs) (hP : ∀ x ∈ xs, P x) (hn : 0 < n) : ∃ z c, v = .slice (some ⟨z, 0, none⟩) n c ∧ base ≤ z ∧ Row w z e n P := by
  have hl := h.1
  rcases h.2 with ⟨_, h0⟩ | ⟨z, cap, cur, rfl, hb, hg, hnc, _, hsz, htk⟩
  · omega
  · refine ⟨z, cap, rfl, hb, cur, hg, fun j hj => ?_⟩
    have hj1 : j < xs.length := by omega
    have : cur[j]? = some xs[j] := by
      have h2 : (cur.toList.take (n * 1))[j]? = xs[j]? := by rw [htk]
      rw [List.getElem?_take, if_pos (by omega), Array.getElem?_toList, List.getElem?_eq_getElem hj1] at h2
      exact h2
    exact ⟨_, this, hP _ (List.getElem_mem hj1)⟩
/-- what append gave of one's own, bytes. -/
theorem own_formB {w : World} {base : Nat} {v : Value} {bs : List UInt8} (h : Go.Bs.Own w base 5 v bs) (n : Nat) (hn : bs.length = n) : ∃ A c z, v = .slice A n c ∧ Rd w A n c bs ∧ (0 < n → A = some ⟨z, 0, none⟩ ∧ base ≤ z ∧ Row w z 5 n (fun _ => True)) ∧ (∀ x, A = some x → base ≤ x.block ∧ x.block < w.heap.size) := by
  subst hn
  obtain ⟨A, c, rfl, hr⟩ := h.rd
  have h3 : ∀ x, A = some x → base ≤ x.block ∧ x.block < w.heap.size := by
    intro x hx
    rcases h.2 with ⟨e, _⟩ | ⟨g, cap, cur, e, hb, hg, _⟩
    · injection e with e1 e2 e3; rw [e1] at hx; cases hx
    · injection e with e1 e2 e3; rw [e1] at hx; cases hx
      exact ⟨hb, (Array.getElem?_eq_some_iff.1 hg).1⟩
  by_cases h0 : 0 < bs.length
  · obtain ⟨z, c', e, hb, hrow⟩ := row_own (fun _ => True) h (fun _ _ => trivial) h0
    cases e
    exact ⟨_, _, z, rfl, hr, fun _ => ⟨rfl, hb, hrow⟩, h3⟩
  · exact ⟨A, c, 0, rfl, hr, fun h => absurd h h0, h3⟩
theorem wpList_run_app {P : Program} (w : World) {ops : Array Oper} {rest : List Oper} {o : Oper} {a : Act} {Q : Exit → Act → World → Prop} (hgd : o.guard = none) (s x : Operand) (t : TypeId)
    (ho : o.op = .call { callee := .builtin .append, args := #[s, x], argTypes := #[t, t] }) (v1 v2 v' : Value) (w' : World) (hs : a.eval s = v1) (hx : a.eval x = v2) (hrun : ∀ ty, (Builtin.append_ #[t, t] ty #[v1, v2]).run P w = .ok v' w') (h : wpList P ops Q rest (a.put o.dst v') w') :
    wpList P ops Q (o :: rest) a w := by
  refine wpList_plain hgd fun K hK => ?_
  unfold Oper.wp execOp
  simp only [ho, resolve, invoke, builtin, Sem.run_bind, Sem.run_pure, Result.andThen_ok, List.map_toArray, List.map_cons, List.map_nil, hs, hx, hrun]
  exact hK _ _ h
end Go.Proofs.YtephmcbofcfpmaaGreat

