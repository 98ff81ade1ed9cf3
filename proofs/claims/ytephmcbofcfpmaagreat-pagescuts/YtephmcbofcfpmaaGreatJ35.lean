/- A Commit, armed or not; a disk that is opened anew. Conditions: none. The pages over a disk that may be armed: armed, crashed, on, opened, committed. Conditions: none. -/
import Derived.Test.YtephmcbofcfpmaaGreatJ34
import Derived.Test.YtephmcbofcfpmaaGreatJ21
set_option maxRecDepth 8000
set_option linter.unusedVariables false
set_option linter.unusedSimpArgs false
namespace Go.Proofs.YtephmcbofcfpmaaGreat
open Go.RowKit Go.Bs Go.Dk Rp

/-- what is seen behind a Commit is what the transaction saw. -/
theorem lk_commit {N Bz M : Nat} {L : Nat → List UInt8} {T : TX} (hL : Dm N Bz M L) (hT : Dm N Bz M T.L) (hd : T.done = false) (hsame : ∀ k, k < N → usedP N Bz M T.L (k : Int) = true → T.W k = false → T.L k = L k) (hroot : T.root = true ∨ T.L M = L M) :
    ∀ n, n ≤ N → lkTo N Bz M (TX.new (outK N Bz M L T.end_ N)) n = lkTo N Bz M T n := by
  have hmn := hL.mn
  have e1 : ∀ k, k < M → outK N Bz M L T.end_ N k = T.L k := fun k hk => by
    unfold outK
    split
    · rfl
    · rename_i h
      simp only [Bool.and_eq_true, not_and, decide_eq_true_eq] at h
      have h2 := h (by omega)
      unfold chgAt chg1 at h2
      have h3 : ¬ (T.end_.L k ≠ L k) := fun hn => h2 (by simp [hk, hn])
      exact (Decidable.not_not.1 h3).symm
  have e2 : outK N Bz M L T.end_ N M = T.L M := by
    unfold outK
    split
    · rfl
    · rename_i h
      simp only [Bool.and_eq_true, not_and, decide_eq_true_eq] at h
      have h2 := h (by omega)
      unfold chgAt at h2
      rcases hroot with hr | hr
      · exact absurd (by simp [show T.end_.root = true from hr]) h2
      · exact hr.symm
  have hu : ∀ p, usedP N Bz M (outK N Bz M L T.end_ N) p = usedP N Bz M T.L p := fun p => usedP_congr hT (fun k hk => e1 k hk) p
  intro n
  induction n with
  | zero =>
    intro _
    show [UInt8.ofNat (Rp.le32 (outK N Bz M L T.end_ N M) % 256), 0] = _
    rw [e2]; rfl
  | succ n ih =>
    intro hn
    have hr : (TX.new (outK N Bz M L T.end_ N)).read N Bz M (n : Int) = T.read N Bz M (n : Int) := by
      unfold TX.read
      show (if (false || !usedP N Bz M (outK N Bz M L T.end_ N) (n : Int)) = true then _ else _) = _
      rw [hu, hd]
      by_cases h : usedP N Bz M T.L (n : Int) = true
      · simp only [h, Bool.not_true, Bool.or_false, Bool.false_eq_true, if_false]
        congr 1
        show outK N Bz M L T.end_ N (n : Int).toNat = T.L (n : Int).toNat
        rw [show (n : Int).toNat = n by omega]
        unfold outK
        split
        · rfl
        · rename_i hc
          simp only [Bool.and_eq_true, not_and, decide_eq_true_eq] at hc
          have h2 := hc (by omega)
          unfold chgAt at h2
          have hu2 : usedP N Bz M T.end_.L (n : Int) = true := h
          have h3 : T.W n = false := by
            cases hw : T.W n
            · rfl
            · exact absurd (by simp [hu2, show T.end_.W n = true from hw]) h2
          exact (hsame n (by omega) h h3).symm
      · have h' : usedP N Bz M T.L (n : Int) = false := by simpa using h
        simp [h']
    show (lkTo N Bz M _ n ++ [UInt8.ofNat ((TX.new (outK N Bz M L T.end_ N)).read N Bz M (n : Int)).2.toNat]) ++ ((TX.new (outK N Bz M L T.end_ N)).read N Bz M (n : Int)).1 = _
    rw [hr, ih (by omega)]
    rfl
/-- without power; opened anew, the blocks are these. -/
def Rev (t : S) (log N Bz : Nat) (Lx : Nat → List UInt8) : Prop :=
  t.up = false ∧ t.c = [] ∧ may t (log : Int) = true ∧ ∃ s', t.on.redo log = (s', 0) ∧ s'.up = true ∧ s'.c = [] ∧ unset s'.L ∧ nbl s' log = N ∧ s'.bytes = Bz ∧ (∀ k, k < N → Lx k = wl s' log k) ∧ s'.deeds ≤ t.deeds + 4 * (log + 1)
theorem rev_crash {s : S} {log N Bz : Nat} {L : Nat → List UInt8} (hmay : may s (log : Int) = true) (hu : s.up = true) (hc : s.c = []) (hun : unset s.L) (hN : nbl s log = N) (hB : s.bytes = Bz) (hL : ∀ k, k < N → L k = wl s log k) (ks : List Bool) : Rev (s.crash ks) log N Bz L := by
  have e : s.crash ks = { s with L := s.L, c := [], up := false } := by
    unfold S.crash
    rw [if_pos hu, hc]
    have : kept ks [] = [] := by unfold kept; simp
    rw [this]; rfl
  rw [e]
  refine ⟨rfl, rfl, hmay, ({ s with L := s.L, c := [], up := false } : S).on, ?_, rfl, rfl, hun, hN, hB, fun k hk => ?_, Nat.le_add_right _ _⟩
  · unfold S.redo
    rw [if_neg (by simp [S.on]), if_pos]
    show (cur s.L [] 0).getD 0 0 ≠ 1
    exact hun
  · rw [hL k hk]
    unfold wl
    rw [hc]
    rfl
theorem finL_all (log : Nat) (l : List Ch) (h : l.length ≤ log) (s : S) : (S.all (Go.Proofs.YtephmcbofcfpmaaGreat.finL log l) s).1.deeds ≤ s.deeds + 4 * (log + 1) := by
  have := all_good (M := log + 1) (Go.Proofs.YtephmcbofcfpmaaGreat.finL log l) (fun f hf => by
    obtain ⟨i, hi, rfl⟩ := List.mem_iff_getElem.1 hf
    have h4 : i < 4 := hi
    have := finL_good log l (log + 1) (by omega) i h4
    unfold dAt at this
    rw [List.getD, List.getElem?_eq_getElem hi] at this
    exact this) s
  exact this
theorem redo_deeds (t : S) (log : Nat) : (t.redo log).1.deeds ≤ t.deeds + 4 * (log + 1) := by
  unfold S.redo
  split
  · exact Nat.le_add_right _ _
  · split
    · exact Nat.le_add_right _ _
    · refine finL_all log _ ?_ t
      unfold chs
      exact Nat.le_trans (chsTo_len _ _ _ _) (Nat.min_le_right _ _)
/-- a Commit whose deed may be cut. -/
theorem commit_or {s : S} {log N Bz M : Nat} {L : Nat → List UInt8} {T : TX} (hmay : may s (log : Int) = true) (hok : s.Ok) (l1 : log + 1 < s.sectors) (l2 : 3 + 3 * log ≤ s.bytes) (hu : s.up = true) (hc : s.c = []) (hun : unset s.L) (hN : nbl s log = N) (hB : s.bytes = Bz) (hL : ∀ k, k < N → L k = wl s log k) (hdT : Dm N Bz M T.L) (hd : T.done = false) :
    ((s.commit log false (chgL N Bz M L T)).2 = (T.commit N Bz M log L).2.2 ∧ (s.commit log false (chgL N Bz M L T)).2 ≠ 50 ∧ (s.commit log false (chgL N Bz M L T)).1.up = true ∧ (s.commit log false (chgL N Bz M L T)).1.c = [] ∧ unset (s.commit log false (chgL N Bz M L T)).1.L ∧
      (s.commit log false (chgL N Bz M L T)).1.sectors = s.sectors ∧ (s.commit log false (chgL N Bz M L T)).1.bytes = s.bytes ∧ (∀ k, k < N → (T.commit N Bz M log L).1 k = wl (s.commit log false (chgL N Bz M L T)).1 log k)) ∨
    ((s.commit log false (chgL N Bz M L T)).2 = 50 ∧ (T.commit N Bz M log L).2.2 = 0 ∧ (Rev (s.commit log false (chgL N Bz M L T)).1 log N Bz L ∨ Rev (s.commit log false (chgL N Bz M L T)).1 log N Bz (T.commit N Bz M log L).1)) := by
  have hend : ∀ k, chgAt N Bz M L T.end_ k = chgAt N Bz M L T k := fun k => rfl
  have hcn : chgN N Bz M L T.end_ N = chgN N Bz M L T N := rfl
  have hck := chgL_chk (L := L) hdT log
  have hnb : s.sectors - 1 - log = N := hN
  unfold S.commit TX.commit
  rw [if_neg (by simp), hd, hnb, hB, hck, hcn]
  simp only [Bool.false_eq_true, if_false]
  by_cases hlt : log < chgN N Bz M L T N
  · rw [if_pos hlt, if_pos (by decide), if_pos hlt]
    exact .inl ⟨rfl, by simp, hu, hc, hun, rfl, hB, hL⟩
  · rw [if_neg hlt, if_neg (by decide), if_neg hlt]
    by_cases h0 : (chgL N Bz M L T).length = 0
    · rw [if_pos h0]
      refine .inl ⟨rfl, by simp, hu, hc, hun, rfl, hB, fun k hk => ?_⟩
      have hnil : chgs N Bz M L T = [] := by
        unfold chgL at h0
        rw [List.length_map] at h0
        exact List.eq_nil_of_length_eq_zero h0
      show outK N Bz M L T N k = _
      rw [outK_at k hk, hnil, if_neg (by simp)]
      exact hL k hk
    · rw [if_neg h0]
      have hF : Fit s log (chgL N Bz M L T) := Fit.of l1 l2 hok.s1 (by rw [hnb, hB, hck, if_neg hlt])
      obtain ⟨LF, hO, hnew⟩ := commit_cut s log (chgL N Bz M L T) hok.b0 hu hc hun hF
      have hcw : ∀ k, k < N → cur s.L (wB log (chgL N Bz M L T)) (1 + log + k) = outK N Bz M L T N k := fun k hk => by
        rw [outK_at k hk]
        unfold chgL
        rw [cur_wB]
        congr 1
        rw [hL k hk]
        unfold wl
        rw [hc]
        rfl
      rcases hO with ⟨k0, dd, ll, k1, k2⟩ | ⟨k0, k1, k2, k3, k4, k5, k6⟩
      · left
        rw [k0, k1]
        refine ⟨rfl, by simp, hu, rfl, hnew.1, rfl, hB, fun k hk => ?_⟩
        show outK N Bz M L T N k = cur LF [] (1 + log + k)
        have e1 : cur LF [] (1 + log + k) = LF (1 + log + k) := rfl
        rw [e1, hnew.2 (1 + log + k) (by omega), hcw k hk]
      · right
        refine ⟨k0, rfl, ?_⟩
        obtain ⟨X, hX⟩ : ∃ X, (S.all (Go.Proofs.YtephmcbofcfpmaaGreat.comL log (chgL N Bz M L T)) s).1 = X := ⟨_, rfl⟩
        rw [hX] at k2 k3 k4 k5 k6 ⊢
        have hF2 : Fit X.on log (chgL N Bz M L T) := ⟨by show log + 1 < X.sectors; omega, by show 3 + 3 * log ≤ X.bytes; omega, by show X.sectors ≤ 65536; rw [k5]; exact hok.s1, hF.n, fun j hj => by
          have := hF.v j hj
          show (0 ≤ _ ∧ _ < ((X.sectors - 1 - log : Nat) : Int)) ∧ _ = X.bytes
          rw [k5, k6]; exact this⟩
        obtain ⟨L', dd, e1, e2, e3⟩ := redo_cut X.on log (chgL N Bz M L T) s.L (by show 16 ≤ X.bytes; rw [k6]; exact hok.b0) rfl k3 rfl hF2 (by show Cut log X.bytes s.L _ X.L; rw [k6]; exact k4)
        have hdd : dd ≤ X.deeds + 4 * (log + 1) := by
          have := redo_deeds X.on log
          rw [e1] at this
          exact this
        have hnX : nbl X log = N := by unfold nbl; rw [k5]; exact hnb
        have hmX : may X (log : Int) = true := by unfold may at hmay ⊢; rw [k5, k6]; exact hmay
        rcases e3 with e3 | e3
        · left
          refine ⟨k2, k3, hmX, _, e1, rfl, k3, e2, hnX, by show X.bytes = Bz; rw [k6]; exact hB, fun k hk => ?_, hdd⟩
          show L k = cur L' X.c (1 + log + k)
          rw [k3, hL k hk]
          show wl s log k = L' (1 + log + k)
          rw [e3 (1 + log + k) (by omega)]
          unfold wl
          rw [hc]; rfl
        · right
          refine ⟨k2, k3, hmX, _, e1, rfl, k3, e2, hnX, by show X.bytes = Bz; rw [k6]; exact hB, fun k hk => ?_, hdd⟩
          show outK N Bz M L T N k = cur L' X.c (1 + log + k)
          rw [k3]
          show _ = L' (1 + log + k)
          rw [e3 (1 + log + k) (by omega), hcw k hk]
end Go.Proofs.YtephmcbofcfpmaaGreat

set_option maxRecDepth 8000
set_option linter.unusedVariables false
set_option linter.unusedSimpArgs false
namespace Go.Proofs.YtephmcbofcfpmaaGreat
open Go.RowKit Go.Bs Go.Dk Rp

def DkB (w0 a : World) (g : Nat) (s : S) : Prop := ∃ D, DiskAt a g s D ∧ (∀ k, D k → w0.heap.size ≤ k) ∧ Below w0.heap.size w0 a
def Good (N Bz M : Nat) (Lx : Nat → List UInt8) : Prop := Dm N Bz M Lx ∧ ∃ r, r ≤ 100000 ∧ Lx M = encR Bz r
section
variable {w0 a : World} {pp t q g : Nat} {s : S} {log N Bz M : Nat} {L : Nat → List UInt8} {T : TX}
theorem Pg.may (h : ∃ Dw K, Pg a pp t q g s log N Bz M L T Dw K false) : Go.Proofs.YtephmcbofcfpmaaGreat.may s (log : Int) = true := by
  obtain ⟨Dw, K, h⟩ := h
  have h1 := h.wal.l0
  have h2 := h.wal.l1
  have h3 := h.wal.l2
  unfold Go.Proofs.YtephmcbofcfpmaaGreat.may
  simp
  omega
theorem SyB.pg (h : SyB w0 a pp t q g s log N Bz M L T) : ∃ Dw K, Pg a pp t q g s log N Bz M L T Dw K false := by
  obtain ⟨D, ⟨Dw, K, h1, _⟩, _⟩ := h
  exact ⟨Dw, K, h1⟩
theorem SyB.bel (h : SyB w0 a pp t q g s log N Bz M L T) : Below w0.heap.size w0 a := by
  obtain ⟨D, _, _, h⟩ := h
  exact h
theorem SyB.good (h : SyB w0 a pp t q g s log N Bz M L T) : Good N Bz M L := by
  obtain ⟨Dw, K, h⟩ := h.pg
  exact ⟨h.dL, h.rootL⟩
theorem SyB.hM (h : SyB w0 a pp t q g s log N Bz M L T) : mapN N Bz = M := by
  obtain ⟨Dw, K, h⟩ := h.pg
  exact h.hM
theorem SyB.inv (h : SyB w0 a pp t q g s log N Bz M L T) (hd : T.done = false) : (∀ k, k < N → usedP N Bz M T.L (k : Int) = true → T.W k = false → T.L k = L k) ∧ (T.root = true ∨ T.L M = L M) := by
  obtain ⟨Dw, K, h⟩ := h.pg
  obtain ⟨KV, bv, mb, ro, F, ht⟩ := h.tx hd
  exact ⟨ht.same, ht.root.imp (fun x => x.1) (fun x => x.2)⟩
theorem bUp (h : SyB w0 a pp t q g s log N Bz M L T) : Calls Tryz.prog 41 #[.pointer (some ⟨g, 0, none⟩)] a fun e b => e = .returned (.bool true) ∧ a = b := by
  obtain ⟨Dw, K, h⟩ := h.pg
  have := Up_any a g s Dw h.wal.disk
  rw [h.up] at this
  exact this
theorem kUp (h : DkB w0 a g s) (hu : s.up = false) : Calls Tryz.prog 41 #[.pointer (some ⟨g, 0, none⟩)] a fun e b => e = .returned (.bool false) ∧ a = b := by
  obtain ⟨D, h, _⟩ := h
  have := Up_any a g s D h
  rw [hu] at this
  exact this
theorem kOn (h : DkB w0 a g s) : Calls Tryz.prog 38 #[.pointer (some ⟨g, 0, none⟩)] a fun e b => (∃ v, e = .returned v) ∧ DkB w0 b g s.on := by
  obtain ⟨D, h1, h2, h3⟩ := h
  refine (On_any a g s D h1).mono ?_
  rintro e b ⟨he, D2, e1, e2, e3⟩
  have hs := h3.size
  exact ⟨he, D2, e1, fun k hk => (e2 k hk).elim (h2 k) (fun x => by omega), h3.trans (e3.below h2 hs)⟩
theorem kOpen (h : DkB w0 a g s.on) {Lx : Nat → List UInt8} (hr : Rev s log N Bz Lx) (hg : Good N Bz M Lx) (hM : mapN N Bz = M) (hMN : M + 2 ≤ N) (hd : s.deeds + 4 * (log + 1) < 900000) :
    Calls Tryz.prog 13 #[.pointer (some ⟨g, 0, none⟩), .int .i64 (log : Int)] a fun e b => ∃ pp q s', e = .returned (.pointer (some ⟨pp, 0, none⟩)) ∧ SpB w0 b pp q g s' log N Bz M Lx ∧ s'.deeds ≤ s.deeds + 4 * (log + 1) := by
  obtain ⟨D, h1, h2, h3⟩ := h
  obtain ⟨r1, r2, r3, s', r4, r5, r6, r7, r8, r9, r10, r11⟩ := hr
  refine (lopen_any a g s.on s' D h1 (by show s.c.length ≤ s.deeds; rw [r2]; exact Nat.zero_le _) log N Bz M Lx r3 hd r4 r5 r6 r7 r8 r9 hM r10 (fun _ => hg.1) (fun _ => hg.2)).mono ?_
  rintro e b ⟨hh, hf⟩
  rw [if_pos hMN] at hh
  obtain ⟨pp, q, D', he, hsp, hD'⟩ := hh
  have hs := h3.size
  exact ⟨pp, q, s', he, ⟨D', hsp, fun k hk => (hD' k hk).elim (h2 k) (fun x => by omega), h3.trans (hf.below h2 hs)⟩, r11⟩
theorem bCrash (h : SyB w0 a pp t q g s log N Bz M L T) (hd : s.deeds < 900000) (A : Option Addr) (n c : Nat) (ks : List Bool) (hq : RdQ a A n c ks) : Calls Tryz.prog 40 #[.pointer (some ⟨g, 0, none⟩), .slice A n c] a fun e b => (∃ v, e = .returned v) ∧ DkB w0 b g (s.crash ks) ∧ Rev (s.crash ks) log N Bz L ∧ (s.crash ks).deeds = s.deeds := by
  have hmay := Pg.may h.pg
  obtain ⟨D, ⟨Dw, K, h1, h2, h3⟩, h4, h5⟩ := h
  refine (Crash_any a g s Dw h1.wal.disk (by omega) A n c ks hq).mono ?_
  rintro e b ⟨he, D2, e1, e2, e3⟩
  have hs := h5.size
  have hb : ∀ k, Dw k → w0.heap.size ≤ k := fun k hk => h4 k (h2 k (.inl hk))
  exact ⟨he, ⟨D2, e1, fun k hk => (e2 k hk).elim (hb k) (fun x => by omega), h5.trans (e3.below hb hs)⟩, rev_crash hmay h1.up h1.cc h1.un h1.hN h1.hB h1.hL ks, by unfold S.crash; split <;> rfl⟩
theorem bArm (h : SyB w0 a pp t q g s log N Bz M L T) (i : Int) (hi : i ≤ 9223372036854775807) (A : Option Addr) (n c : Nat) (ks : List Bool) (hr : RdQ a A n c ks) (hn : n ≤ 17592186044416) : Calls Tryz.prog 39 #[.pointer (some ⟨g, 0, none⟩), .int .i64 i, .slice A n c] a fun e b => (∃ v, e = .returned v) ∧ SyB w0 b pp t q g (s.arm i ks) log N Bz M L T := by
  obtain ⟨D, ⟨Dw, K, h1, h2, h3⟩, h4, h5⟩ := h
  refine (Arm_any a g s Dw h1.wal.disk i hi A n c ks hr hn).mono ?_
  rintro e b ⟨he, D2, e1, e2, e3⟩
  have hs := h5.size
  have hs3 := e3.size
  have hb : ∀ k, Dw k → w0.heap.size ≤ k := fun k hk => h4 k (h2 k (.inl hk))
  have hql := (Array.getElem?_eq_some_iff.1 h1.wal.row).1
  have hk : ∀ k, K k → b.heap[k]? = a.heap[k]? := fun k hk => e3.block k (h1.KD k hk).2.2 (h1.KD k hk).1
  have hW : WalAt b q g (s.arm i ks) log false D2 := ⟨(e3.block q hql h1.wal.pD).trans h1.wal.row, e1, fun hd => (e2 q hd).elim h1.wal.pD (fun x => by omega), h1.wal.l0, h1.wal.l1, h1.wal.l2⟩
  have hP : Pg b pp t q g (s.arm i ks) log N Bz M L T D2 K false := by
    refine ⟨hW, h1.up, h1.cc, h1.un, h1.hN, h1.hB, h1.hM, h1.hL, (hk pp h1.inK.1).trans h1.rowP, fun k hK => ⟨fun hd => (e2 k hd).elim (h1.KD k hK).1 (fun x => by have := (h1.KD k hK).2.2; omega), (h1.KD k hK).2.1, Nat.lt_of_lt_of_le (h1.KD k hK).2.2 hs3⟩, h1.inK, h1.dL, h1.dT, h1.rootL, (World.cell?_of_block (a := ⟨t, 0, none⟩) (hk t h1.inK.2)).trans h1.own, (by obtain ⟨ca, hc⟩ := h1.rowT; exact ⟨ca, (hk t h1.inK.2).trans hc⟩), fun hd => ?_⟩
    obtain ⟨KV, bv, mb, ro, F, ht⟩ := h1.tx hd
    exact ⟨KV, bv, mb, ro, F, ht.keep h1.inK.2 hs3 hk fun _ x => x⟩
  refine ⟨he, fun k => D k ∨ D2 k, ⟨D2, K, hP, fun k hk => ?_, fun k hk => ?_⟩, fun k hk => ?_, h5.trans (e3.below hb hs)⟩
  · rcases hk with hk | hk | hk
    · exact .inr hk
    · exact .inl (h2 k (.inr (.inl hk)))
    · exact .inl (h2 k (.inr (.inr hk)))
  · rcases hk with hk | hk
    · exact Nat.lt_of_lt_of_le (h3 k hk) hs3
    · exact e1.lt k hk
  · rcases hk with hk | hk
    · exact h4 k hk
    · exact (e2 k hk).elim (hb k) (fun x => by omega)
/-- a Commit; its deed may be cut. -/
theorem bCommitA (h : SyB w0 a pp t q g s log N Bz M L T) (hdeeds : s.deeds + 8 * (log + 1) < 900000) :
    Calls Tryz.prog 29 #[.pointer (some ⟨t, 0, none⟩)] a fun e b => (e = .returned (.int .i64 (T.commit N Bz M log L).2.2) ∧ ∃ s', SyB w0 b pp t q g s' log N Bz M (T.commit N Bz M log L).1 (T.commit N Bz M log L).2.1 ∧ s'.deeds ≤ s.deeds + 8 * (log + 1)) ∨
      (e = .returned (.int .i64 50) ∧ T.done = false ∧ (T.commit N Bz M log L).2.2 = 0 ∧ ∃ t1, DkB w0 b g t1 ∧ t1.deeds ≤ s.deeds + 8 * (log + 1) ∧ ((Rev t1 log N Bz L ∧ Good N Bz M L) ∨ (Rev t1 log N Bz (T.commit N Bz M log L).1 ∧ Good N Bz M (T.commit N Bz M log L).1))) := by
  have hmay := Pg.may h.pg
  have hgood := h.good
  obtain ⟨D, ⟨Dw, K, h1, h2, h3⟩, h4, h5⟩ := h
  have hs0 := h5.size
  cases hd : T.done
  · obtain ⟨KV, bv, mb, ro, F, ht⟩ := h1.tx hd
    have hW := commit_or (T := T) (L := L) (M := M) hmay h1.wal.disk.ok h1.wal.l1 h1.wal.l2 h1.up h1.cc h1.un h1.hN h1.hB h1.hL h1.dT hd
    have hde := commit_deeds s log (chgL N Bz M L T)
    refine (tCommit_live a pp t q g s log N Bz M L T Dw K KV false bv mb ro F h1 hd ht hdeeds).mono ?_
    rw [allTo_chg ht h1.dL]
    obtain ⟨R, hR⟩ : ∃ R, s.commit log false (chgL N Bz M L T) = R := ⟨_, rfl⟩
    rw [hR] at hW hde ⊢
    rintro e b ⟨rfl, Dw', hw, hDw, hrow, hcl, hrwT, hf⟩
    have hsz := hf.size
    have hppl := h1.KD pp h1.inK.1
    have htl := h1.KD t h1.inK.2
    have hql := (Array.getElem?_eq_some_iff.1 h1.wal.row).1
    have hbD : ∀ k, Dw k → w0.heap.size ≤ k := fun k hk => h4 k (h2 k (.inl hk))
    have hbel : Below w0.heap.size w0 b := h5.trans (hf.below (fun k hk => by
      rcases hk with hk | hk | hk
      · exact h4 k (h2 k (.inr (.inl hk)))
      · exact h4 k (h2 k (.inr (.inr hk)))
      · exact hbD k hk) hs0)
    have hbD' : ∀ k, Dw' k → w0.heap.size ≤ k := fun k hk => (hDw k hk).elim (hbD k) (fun x => by omega)
    have hnot : ∀ k, ¬ Dw k → k < a.heap.size → ¬ Dw' k := fun k hn hl hd' => by
      rcases hDw k hd' with e | e
      · exact hn e
      · omega
    have hTe : (T.commit N Bz M log L).2.1 = T.end_ := by
      unfold TX.commit
      rw [hd]
      simp only [Bool.false_eq_true, if_false]
      split <;> rfl
    have hdo : Dm N Bz M (T.commit N Bz M log L).1 := by
      unfold TX.commit
      rw [hd]
      simp only [Bool.false_eq_true, if_false]
      split
      · exact h1.dL
      · exact outK_dm h1.dL h1.dT N
    have hrt : ∃ r, r ≤ 100000 ∧ (T.commit N Bz M log L).1 M = encR Bz r := by
      have hM : M < N := by have := h1.dL.mn; omega
      unfold TX.commit
      rw [hd]
      simp only [Bool.false_eq_true, if_false]
      split
      · exact h1.rootL
      · show ∃ r, r ≤ 100000 ∧ outK N Bz M L T N M = encR Bz r
        rw [outK_at M hM]
        split
        · obtain ⟨r, hr1, hr2, _, _⟩ := h1.le32 ht
          exact ⟨r, hr1, hr2⟩
        · exact h1.rootL
    rcases hW with ⟨c1, c9, c2, c3, c4, c6, c7, c8⟩ | ⟨c1, c2, c3⟩
    · left
      have hb50 : (R.2 == 50) = false := by simp [c9]
      rw [hb50] at hw
      refine ⟨by rw [c1], R.1, ⟨fun k => Dw' k ∨ k = pp ∨ k = t ∨ k = q, ⟨Dw', fun k => k = pp ∨ k = t, ?_, fun k hk => ?_, fun k hk => ?_⟩, fun k hk => ?_, hbel⟩, hde⟩
      · rw [hTe]
        have hdn : (T.end_).done = true := rfl
        refine ⟨hw, c2, c3, c4, by unfold nbl; rw [c6]; exact h1.hN, c7.trans h1.hB, h1.hM, c8, by unfold nowV; rw [hdn]; exact hrow, fun k hk => ?_, ⟨.inl rfl, .inr rfl⟩, hdo, h1.dT, hrt, hcl, hrwT, fun hx => ?_⟩
        · rcases hk with rfl | rfl
          · exact ⟨hnot k hppl.1 hppl.2.2, hppl.2.1, by omega⟩
          · exact ⟨hnot k htl.1 htl.2.2, htl.2.1, by omega⟩
        · rw [hdn] at hx; cases hx
      · rcases hk with hk | hk | hk
        · exact .inl hk
        · rcases hk with hk | hk
          · exact .inr (.inl hk)
          · exact .inr (.inr (.inl hk))
        · exact .inr (.inr (.inr hk))
      · rcases hk with hk | hk | hk | hk
        · exact hw.disk.lt k hk
        · have := hppl.2.2; omega
        · have := htl.2.2; omega
        · omega
      · rcases hk with hk | hk | hk | hk
        · exact hbD' k hk
        · subst hk; exact h4 k (h2 k (.inr (.inl h1.inK.1)))
        · subst hk; exact h4 k (h2 k (.inr (.inl h1.inK.2)))
        · exact h4 k (h2 k (.inr (.inr hk)))
    · right
      exact ⟨by rw [c1], rfl, c2, R.1, ⟨Dw', hw.disk, hbD', hbel⟩, hde, c3.imp (fun x => ⟨x, hgood⟩) (fun x => ⟨x, hdo, hrt⟩)⟩
  · refine (tCommit_done a pp t q g s log N Bz M L T Dw K false h1 hd).mono ?_
    rintro e w' ⟨rfl, rfl⟩
    have hc : T.commit N Bz M log L = (L, T, 1) := by unfold TX.commit; rw [hd]; rfl
    rw [hc]
    exact .inl ⟨rfl, s, ⟨D, ⟨Dw, K, h1, h2, h3⟩, h4, h5⟩, Nat.le_add_right _ _⟩
end
end Go.Proofs.YtephmcbofcfpmaaGreat

