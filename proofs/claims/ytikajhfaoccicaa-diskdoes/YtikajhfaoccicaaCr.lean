/- Writes out of rows of numbers, as plain functions; a disk beside a row of bytes. Conditions: none. -/
import Derived.Test.YtikajhfaoccicaaArg
namespace Go.Proofs.Ytikajhfaoccicaa
open Go.RowKit Go.Bs Go.Dk

/-- the number's sector. -/
def secOf (m : Nat) (zs : List Int) (i : Nat) : Nat := (zs.getD i 0).toNat % m
def byN (n : Nat) : List UInt8 := by16 (UInt8.ofNat n)
/-- the first k writes, the i-th of the byte i + off. -/
def wrs (m off : Nat) (zs : List Int) (k : Nat) : List Wr := (List.range k).map fun i => (secOf m zs i, byN (i + off))
theorem wrs_succ (m off : Nat) (zs : List Int) (k : Nat) : wrs m off zs (k + 1) = wrs m off zs k ++ [(secOf m zs k, byN (k + off))] := by simp [wrs, List.range_succ]
theorem wrs_length (m off : Nat) (zs : List Int) (k : Nat) : (wrs m off zs k).length = k := by simp [wrs]
theorem wrs_get (m off : Nat) (zs : List Int) (k i : Nat) (h : i < (wrs m off zs k).length) : (wrs m off zs k)[i] = (secOf m zs i, byN (i + off)) := by simp [wrs]
theorem byN_length (n : Nat) : (byN n).length = 16 := rfl
theorem secOf_lt (m : Nat) (zs : List Int) (i : Nat) (h : 0 < m) : secOf m zs i < m := Nat.mod_lt _ h
theorem sec_mod (m : Nat) (zs : List Int) (i : Nat) (h : 0 ≤ zs.getD i 0) : Int.tmod (zs.getD i 0) (m : Int) = ((secOf m zs i : Nat) : Int) := by
  obtain ⟨k, hk⟩ := Int.eq_ofNat_of_zero_le h
  unfold secOf
  rw [hk]
  rfl

/-- a disk of m sectors of 16 bytes, with power, that is not armed. -/
def stW (m : Nat) (L : Nat → List UInt8) (c : List Wr) (d : Nat) : S := ⟨m, 16, L, c, true, d, 0, []⟩
theorem stW_write (m : Nat) (L : Nat → List UInt8) (c : List Wr) (d i : Nat) (hi : i < m) (bs : List UInt8) (hb : bs.length = 16) : (stW m L c d).write (i : Int) bs = (stW m L (c ++ [(i, bs)]) (d + 1), 0) := by
  have h1 : (stW m L c d).has (i : Int) = true := by simp [S.has, stW]; omega
  unfold S.write
  rw [if_neg (by simp [stW]), if_neg (by
    rintro (h | h)
    · rw [h1] at h; cases h
    · exact h hb)]
  rfl
theorem stW_flush (m : Nat) (L : Nat → List UInt8) (c : List Wr) (d : Nat) : (stW m L c d).flush = (stW m (cur L c) [] (d + 1), 0) := rfl
theorem stW_crash (m : Nat) (L : Nat → List UInt8) (c : List Wr) (d : Nat) (ks : List Bool) : ((stW m L c d).crash ks).on = stW m (cur L (kept ks c)) [] d := rfl
theorem stW_read (m : Nat) (L : Nat → List UInt8) (c : List Wr) (d i : Nat) (hi : i < m) : (stW m L c d).read (i : Int) = (cur L c i, 0) := by
  have h1 : (stW m L c d).has (i : Int) = true := by simp [S.has, stW]; omega
  unfold S.read
  rw [if_neg (by simp [stW]), if_neg (by rw [h1]; simp)]
  rfl
theorem stW_fine (m : Nat) (L : Nat → List UInt8) (c : List Wr) (d : Nat) (h : c.length ≤ d) : (stW m L c d).Fine := h

/-- what was written last, as one byte a sector. -/
def wasL (m off : Nat) (zs : List Int) : Nat → List UInt8
  | 0 => zeros m
  | k + 1 => (wasL m off zs k).set (secOf m zs k) (UInt8.ofNat (k + off))
theorem wasL_length (m off : Nat) (zs : List Int) (k : Nat) : (wasL m off zs k).length = m := by
  induction k with
  | zero => exact zeros_length m
  | succ k ih => rw [wasL, List.length_set, ih]
theorem wasL_cur (m off : Nat) (zs : List Int) (k s : Nat) (hs : s < m) : cur (fun _ => zeros 16) (wrs m off zs k) s = by16 ((wasL m off zs k).getD s 0) := by
  induction k with
  | zero => simp [wrs, cur, wasL, zeros, List.getD, hs]; decide
  | succ k ih =>
    rw [wrs_succ, cur_snoc, wasL]
    have hl := wasL_length m off zs k
    by_cases h : s = secOf m zs k
    · subst h
      rw [upd_same]
      simp [List.getD, hl, hs, byN]
    · rw [upd_other _ _ _ _ h, ih]
      simp [List.getD, List.getElem?_set_ne (Ne.symm h)]
/-- a sector has what it had, or one of the writes. -/
theorem cur_one (L : Nat → List UInt8) (c : List Wr) (s : Nat) : cur L c s = L s ∨ ∃ p ∈ c, p.1 = s ∧ cur L c s = p.2 := by
  induction c generalizing L with
  | nil => exact .inl rfl
  | cons p c ih =>
    show cur (upd L p.1 p.2) c s = L s ∨ _
    rcases ih (upd L p.1 p.2) with h | ⟨q, hq, h1, h2⟩
    · by_cases hp : s = p.1
      · subst hp
        rw [upd_same] at h
        exact .inr ⟨p, List.mem_cons_self, rfl, h⟩
      · rw [upd_other _ _ _ _ hp] at h
        exact .inl h
    · exact .inr ⟨q, List.mem_cons_of_mem _ hq, h1, h2⟩
theorem kept_at {ks : List Bool} {c : List Wr} {p : Wr} (h : p ∈ kept ks c) : ∃ i, ∃ h1 : i < ks.length, ∃ h2 : i < c.length, ks[i] = true ∧ c[i] = p := by
  unfold kept at h
  obtain ⟨q, hq, rfl⟩ := List.mem_map.1 h
  obtain ⟨hq1, hq2⟩ := List.mem_filter.1 hq
  obtain ⟨i, hi, rfl⟩ := List.getElem_of_mem hq1
  have hi' : i < ks.length ∧ i < c.length := by simp at hi; omega
  refine ⟨i, hi'.1, hi'.2, ?_, ?_⟩
  · simpa using hq2
  · simp

theorem u8_of (n : Nat) (h : n < 256) : (UInt8.ofNat n).toNat = n := by simp; omega

/-! ### a disk beside a row of bytes -/
def DZ (w w' : World) (g : Nat) (s : S) (z : Nat) (bs : List UInt8) : Prop := ∃ D, DiskAt w' g s D ∧ (∀ k, D k → w.heap.size ≤ k ∧ k ≠ z) ∧ Blk w' z 5 bs ∧ w.heap.size ≤ z ∧ Below w.heap.size w w'
theorem DZ.below {w a b : World} {g : Nat} {s : S} {z : Nat} {bs : List UInt8} (h : DZ w a g s z bs) (hb : Below a.heap.size a b) : DZ w b g s z bs := by
  obtain ⟨D, h1, h2, h3, h4, h5⟩ := h
  exact ⟨D, h1.below hb, h2, h3.keep hb h3.lt, h4, bstep h5 hb⟩
theorem DZ.bel {w a : World} {g : Nat} {s : S} {z : Nat} {bs : List UInt8} (h : DZ w a g s z bs) : Below w.heap.size w a := by obtain ⟨D, h1, h2, h3, h4, h5⟩ := h; exact h5
theorem DZ.blk {w a : World} {g : Nat} {s : S} {z : Nat} {bs : List UInt8} (h : DZ w a g s z bs) : Blk a z 5 bs := by obtain ⟨D, h1, h2, h3, h4, h5⟩ := h; exact h3
theorem DZ.step {w a b : World} {g : Nat} {s : S} {z : Nat} {bs : List UInt8} {D : Nat → Prop} (h2 : ∀ k, D k → w.heap.size ≤ k ∧ k ≠ z) (h3 : Blk a z 5 bs) (h4 : w.heap.size ≤ z) (h5 : Below w.heap.size w a) (hd : Did D g s a b) : DZ w b g s z bs := by
  obtain ⟨D', h6, h7, h8⟩ := hd
  refine ⟨D', h6, fun k hk => ?_, (h8.block z h3.lt (fun hd => (h2 z hd).2 rfl)).trans h3, h4, h5.trans (h8.below (fun k hk => (h2 k hk).1) h5.size)⟩
  rcases h7 k hk with h | h
  · exact h2 k h
  · have := h5.size
    have := h3.lt
    omega
theorem DZ.set {w a : World} {g : Nat} {s : S} {z : Nat} {bs : List UInt8} (h : DZ w a g s z bs) (i : Nat) (x : UInt8) : DZ w (a.setCell ⟨z, i, none⟩ (B x)) g s z (bs.set i x) := by
  obtain ⟨D, h1, h2, h3, h4, h5⟩ := h
  exact ⟨D, h1.keep (by simp [World.setCell]) (fun k hk => setCell_other _ _ _ _ _ (h2 k hk).2), h2, h3.set i x, h4, h5.setCell (p := ⟨z, i, none⟩) h4 _⟩
theorem Write_dz {w a : World} {g : Nat} {s : S} {z : Nat} {zb : List UInt8} (h : DZ w a g s z zb) (hf : s.Fine) (hd : s.deeds < 900000) (i : Int) (A : Option Addr) (n c : Nat) (bs : List UInt8) (hr : Rd a A n c bs) (hn : n ≤ 17592186044416) (s' : S) (r : Int) (e : s.write i bs = (s', r)) :
    Calls Try.prog 13 #[.pointer (some ⟨g, 0, none⟩), .int .i64 i, .slice A n c] a fun e b => e = .returned (.int .i64 r) ∧ DZ w b g s' z zb := by
  obtain ⟨D, h1, h2, h3, h4, h5⟩ := h
  refine (Write_any a g s D h1 hf hd i A n c bs hr hn).mono ?_
  rw [e]
  exact fun e b ⟨he, hd⟩ => ⟨he, DZ.step h2 h3 h4 h5 hd⟩
theorem Flush_dz {w a : World} {g : Nat} {s : S} {z : Nat} {zb : List UInt8} (h : DZ w a g s z zb) (hd : s.deeds < 900000) (s' : S) (r : Int) (e : s.flush = (s', r)) :
    Calls Try.prog 15 #[.pointer (some ⟨g, 0, none⟩)] a fun e b => e = .returned (.int .i64 r) ∧ DZ w b g s' z zb := by
  obtain ⟨D, h1, h2, h3, h4, h5⟩ := h
  refine (Flush_any a g s D h1 hd).mono ?_
  rw [e]
  exact fun e b ⟨he, hd⟩ => ⟨he, DZ.step h2 h3 h4 h5 hd⟩
theorem Crash_dz {w a : World} {g : Nat} {s : S} {z : Nat} {zb : List UInt8} (h : DZ w a g s z zb) (hd : s.deeds < 900000) (A : Option Addr) (n c : Nat) (ks : List Bool) (hr : RdQ a A n c ks) :
    Calls Try.prog 19 #[.pointer (some ⟨g, 0, none⟩), .slice A n c] a fun e b => (∃ v, e = .returned v) ∧ DZ w b g (s.crash ks) z zb := by
  obtain ⟨D, h1, h2, h3, h4, h5⟩ := h
  exact (Crash_any a g s D h1 (by omega) A n c ks hr).mono fun e b ⟨he, hd⟩ => ⟨he, DZ.step h2 h3 h4 h5 hd⟩
theorem On_dz {w a : World} {g : Nat} {s : S} {z : Nat} {zb : List UInt8} (h : DZ w a g s z zb) : Calls Try.prog 21 #[.pointer (some ⟨g, 0, none⟩)] a fun e b => (∃ v, e = .returned v) ∧ DZ w b g s.on z zb := by
  obtain ⟨D, h1, h2, h3, h4, h5⟩ := h
  exact (On_any a g s D h1).mono fun e b ⟨he, hd⟩ => ⟨he, DZ.step h2 h3 h4 h5 hd⟩
theorem Read_dz {w a : World} {g : Nat} {s : S} {z : Nat} {zb : List UInt8} (h : DZ w a g s z zb) (i : Int) (bs : List UInt8) (r : Int) (e : s.read i = (bs, r)) :
    Calls Try.prog 23 #[.pointer (some ⟨g, 0, none⟩), .int .i64 i] a fun e b => ∃ v, e = .returned (.tuple #[v, .int .i64 r]) ∧ ReadV a b v bs ∧ DZ w b g s z zb ∧ Below a.heap.size a b := by
  have h' := h
  obtain ⟨D, h1, h2, h3, h4, h5⟩ := h
  refine (Read_any a g s D h1 i).mono ?_
  rw [e]
  exact fun e b ⟨v, he, hv, hb⟩ => ⟨v, he, hv, h'.below hb, hb⟩
end Go.Proofs.Ytikajhfaoccicaa
