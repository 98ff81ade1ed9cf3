/- Several disks, each by itself. Conditions: none. -/
import Derived.Test.YtikajhfaoccicaaCr
namespace Go.Proofs.Ytikajhfaoccicaa
open Go.RowKit Go.Bs Go.Dk

structure KDs (w wr : World) (Z : Nat → Prop) (n : Nat) (G : Nat → Nat) (st : Nat → S) (Ds : Nat → Nat → Prop) : Prop where
  dk : ∀ i, i < n → DiskAt wr (G i) (st i) (Ds i)
  base : ∀ i, i < n → ∀ k, Ds i k → w.heap.size ≤ k ∧ ¬ Z k
  apart : ∀ i j, i < n → j < n → i ≠ j → ∀ k, Ds i k → ¬ Ds j k
  zlt : ∀ k, Z k → w.heap.size ≤ k ∧ k < wr.heap.size
  bel : Below w.heap.size w wr
/-- n disks, the i-th at block G i with the state st i; no block of Z is theirs. -/
def KD (w wr : World) (Z : Nat → Prop) (n : Nat) (G : Nat → Nat) (st : Nat → S) : Prop := ∃ Ds, KDs w wr Z n G st Ds
/-- the blocks of Z stay. -/
def Stay (Z : Nat → Prop) (a b : World) : Prop := ∀ k, Z k → b.heap[k]? = a.heap[k]?

theorem KD.bel {w a : World} {Z : Nat → Prop} {n : Nat} {G : Nat → Nat} {st : Nat → S} (h : KD w a Z n G st) : Below w.heap.size w a := by obtain ⟨_, h⟩ := h; exact h.bel
theorem KD.zlt {w a : World} {Z : Nat → Prop} {n : Nat} {G : Nat → Nat} {st : Nat → S} (h : KD w a Z n G st) : ∀ k, Z k → w.heap.size ≤ k ∧ k < a.heap.size := by obtain ⟨_, h⟩ := h; exact h.zlt
theorem KD.start (w : World) (G : Nat → Nat) (st : Nat → S) : KD w w (fun _ => False) 0 G st :=
  ⟨fun _ _ => False, fun i hi => absurd hi (by omega), fun i hi => absurd hi (by omega), fun i _ hi => absurd hi (by omega), fun k hk => hk.elim, Below.refl _ _⟩
theorem KD.below {w a b : World} {Z : Nat → Prop} {n : Nat} {G : Nat → Nat} {st : Nat → S} (h : KD w a Z n G st) (hb : Below a.heap.size a b) : KD w b Z n G st := by
  obtain ⟨Ds, h⟩ := h
  exact ⟨Ds, fun i hi => (h.dk i hi).below hb, h.base, h.apart, fun k hk => ⟨(h.zlt k hk).1, Nat.lt_of_lt_of_le (h.zlt k hk).2 hb.size⟩, bstep h.bel hb⟩
theorem KD.stay {w a b : World} {Z : Nat → Prop} {n : Nat} {G : Nat → Nat} {st : Nat → S} (h : KD w a Z n G st) (hb : Below a.heap.size a b) : Stay Z a b := fun k hk => hb.block k (h.zlt k hk).2
theorem KDs.step {w a b : World} {Z : Nat → Prop} {n : Nat} {G : Nat → Nat} {st : Nat → S} {Ds : Nat → Nat → Prop} (h : KDs w a Z n G st Ds) (i : Nat) (hi : i < n) {s' : S} (hd : Did (Ds i) (G i) s' a b) : KD w b Z n G (upd st i s') ∧ Stay Z a b := by
  obtain ⟨D', h1, h2, h3⟩ := hd
  refine ⟨⟨upd Ds i D', fun j hj => ?_, fun j hj k hk => ?_, fun p q hp hq hne k hk hk2 => ?_, fun k hk => ⟨(h.zlt k hk).1, Nat.lt_of_lt_of_le (h.zlt k hk).2 h3.size⟩, h.bel.trans (h3.below (fun k hk => (h.base i hi k hk).1) h.bel.size)⟩, fun k hk => h3.block k (h.zlt k hk).2 (fun hd => (h.base i hi k hd).2 hk)⟩
  · by_cases hji : j = i
    · subst hji
      rw [upd_same, upd_same]
      exact h1
    · rw [upd_other _ _ _ _ hji, upd_other _ _ _ _ hji]
      exact (h.dk j hj).fr h3 (h.apart j i hj hi hji)
  · by_cases hji : j = i
    · subst hji
      rw [upd_same] at hk
      rcases h2 k hk with h4 | h4
      · exact h.base j hj k h4
      · exact ⟨Nat.le_trans h.bel.size h4, fun hz => by have := (h.zlt k hz).2; omega⟩
    · rw [upd_other _ _ _ _ hji] at hk
      exact h.base j hj k hk
  · by_cases hpi : p = i
    · subst hpi
      rw [upd_same] at hk
      rw [upd_other _ _ _ _ (Ne.symm hne)] at hk2
      rcases h2 k hk with h4 | h4
      · exact h.apart p q hp hq hne k h4 hk2
      · have := (h.dk q hq).lt k hk2; omega
    · rw [upd_other _ _ _ _ hpi] at hk
      by_cases hqi : q = i
      · subst hqi
        rw [upd_same] at hk2
        rcases h2 k hk2 with h4 | h4
        · exact h.apart p q hp hq hne k hk h4
        · have := (h.dk p hp).lt k hk; omega
      · rw [upd_other _ _ _ _ hqi] at hk2
        exact h.apart p q hp hq hne k hk hk2
theorem KD.set {w a : World} {Z : Nat → Prop} {n : Nat} {G : Nat → Nat} {st : Nat → S} (h : KD w a Z n G st) {z i : Nat} (hz : Z z) (v : Value) : KD w (a.setCell ⟨z, i, none⟩ v) Z n G st := by
  obtain ⟨Ds, h⟩ := h
  refine ⟨Ds, fun j hj => (h.dk j hj).keep (by rw [setCell_size]; exact Nat.le_refl _) (fun k hk => setCell_other _ _ _ _ _ (fun e => (h.base j hj k hk).2 (by rw [e]; exact hz))), h.base, h.apart, fun k hk => ⟨(h.zlt k hk).1, by rw [setCell_size]; exact (h.zlt k hk).2⟩, h.bel.setCell (p := ⟨z, i, none⟩) (h.zlt z hz).1 v⟩
theorem KD.addZ {w a : World} {Z : Nat → Prop} {n : Nat} {G : Nat → Nat} {st : Nat → S} (h : KD w a Z n G st) (o : Obj) : KD w (a.alloc o) (fun k => Z k ∨ k = a.heap.size) n G st := by
  have hb : Below a.heap.size a (a.alloc o) := (Below.refl _ _).alloc (Nat.le_refl _) o
  obtain ⟨Ds, h⟩ := h
  refine ⟨Ds, fun i hi => (h.dk i hi).below hb, fun i hi k hk => ⟨(h.base i hi k hk).1, ?_⟩, h.apart, fun k hk => ?_, bstep h.bel hb⟩
  · rintro (h1 | h1)
    · exact (h.base i hi k hk).2 h1
    · have := (h.dk i hi).lt k hk; omega
  · rw [World.size_alloc]
    rcases hk with h1 | h1
    · have := h.zlt k h1; omega
    · have := h.bel.size; omega
theorem KD.add {w a b : World} {Z : Nat → Prop} {n : Nat} {G : Nat → Nat} {st : Nat → S} (h : KD w a Z n G st) {g : Nat} {s : S} {D : Nat → Prop} (h1 : DiskAt b g s D) (h2 : ∀ k, D k → a.heap.size ≤ k) (hb : Below a.heap.size a b) : KD w b Z (n + 1) (upd G n g) (upd st n s) := by
  obtain ⟨Ds, h⟩ := h
  refine ⟨upd Ds n D, fun i hi => ?_, fun i hi k hk => ?_, fun p q hp hq hne k hk hk2 => ?_, fun k hk => ⟨(h.zlt k hk).1, Nat.lt_of_lt_of_le (h.zlt k hk).2 hb.size⟩, bstep h.bel hb⟩
  · by_cases e : i = n
    · subst e; rw [upd_same, upd_same, upd_same]; exact h1
    · rw [upd_other _ _ _ _ e, upd_other _ _ _ _ e, upd_other _ _ _ _ e]; exact (h.dk i (by omega)).below hb
  · by_cases e : i = n
    · subst e
      rw [upd_same] at hk
      have := h2 k hk
      exact ⟨Nat.le_trans h.bel.size this, fun hz => by have := (h.zlt k hz).2; omega⟩
    · rw [upd_other _ _ _ _ e] at hk; exact h.base i (by omega) k hk
  · by_cases e : p = n
    · subst e
      rw [upd_same] at hk
      rw [upd_other _ _ _ _ (Ne.symm hne)] at hk2
      have := h2 k hk
      have := (h.dk q (by omega)).lt k hk2
      omega
    · rw [upd_other _ _ _ _ e] at hk
      by_cases e2 : q = n
      · subst e2
        rw [upd_same] at hk2
        have := h2 k hk2
        have := (h.dk p (by omega)).lt k hk
        omega
      · rw [upd_other _ _ _ _ e2] at hk2
        exact h.apart p q (by omega) (by omega) hne k hk hk2

section
variable {w a : World} {Z : Nat → Prop} {nd : Nat} {G : Nat → Nat} {st : Nat → S}
theorem Write_kd (h : KD w a Z nd G st) (x : Nat) (hx : x < nd) (g : Nat) (hg : G x = g) (s : S) (hs : st x = s) (hf : s.Fine) (hd : s.deeds < 900000) (i : Int) (A : Option Addr) (n c : Nat) (bs : List UInt8) (hr : Rd a A n c bs) (hn : n ≤ 17592186044416) (s' : S) (r : Int) (e : s.write i bs = (s', r)) :
    Calls Try.prog 13 #[.pointer (some ⟨g, 0, none⟩), .int .i64 i, .slice A n c] a fun e b => e = .returned (.int .i64 r) ∧ KD w b Z nd G (upd st x s') ∧ Stay Z a b := by
  obtain ⟨Ds, h⟩ := h
  subst hg hs
  refine (Write_any a (G x) (st x) (Ds x) (h.dk x hx) hf hd i A n c bs hr hn).mono ?_
  rw [e]
  exact fun e b ⟨he, hd⟩ => ⟨he, h.step x hx hd⟩
theorem Flush_kd (h : KD w a Z nd G st) (x : Nat) (hx : x < nd) (g : Nat) (hg : G x = g) (s : S) (hs : st x = s) (hd : s.deeds < 900000) (s' : S) (r : Int) (e : s.flush = (s', r)) :
    Calls Try.prog 15 #[.pointer (some ⟨g, 0, none⟩)] a fun e b => e = .returned (.int .i64 r) ∧ KD w b Z nd G (upd st x s') ∧ Stay Z a b := by
  obtain ⟨Ds, h⟩ := h
  subst hg hs
  refine (Flush_any a (G x) (st x) (Ds x) (h.dk x hx) hd).mono ?_
  rw [e]
  exact fun e b ⟨he, hd⟩ => ⟨he, h.step x hx hd⟩
theorem Crash_kd (h : KD w a Z nd G st) (x : Nat) (hx : x < nd) (g : Nat) (hg : G x = g) (s : S) (hs : st x = s) (hd : s.deeds < 900000) (A : Option Addr) (n c : Nat) (ks : List Bool) (hr : RdQ a A n c ks) :
    Calls Try.prog 19 #[.pointer (some ⟨g, 0, none⟩), .slice A n c] a fun e b => (∃ v, e = .returned v) ∧ KD w b Z nd G (upd st x (s.crash ks)) ∧ Stay Z a b := by
  obtain ⟨Ds, h⟩ := h
  subst hg hs
  exact (Crash_any a (G x) (st x) (Ds x) (h.dk x hx) (by omega) A n c ks hr).mono fun e b ⟨he, hd⟩ => ⟨he, h.step x hx hd⟩
theorem On_kd (h : KD w a Z nd G st) (x : Nat) (hx : x < nd) (g : Nat) (hg : G x = g) (s : S) (hs : st x = s) :
    Calls Try.prog 21 #[.pointer (some ⟨g, 0, none⟩)] a fun e b => (∃ v, e = .returned v) ∧ KD w b Z nd G (upd st x s.on) ∧ Stay Z a b := by
  obtain ⟨Ds, h⟩ := h
  subst hg hs
  exact (On_any a (G x) (st x) (Ds x) (h.dk x hx)).mono fun e b ⟨he, hd⟩ => ⟨he, h.step x hx hd⟩
theorem Read_kd (h : KD w a Z nd G st) (x : Nat) (hx : x < nd) (g : Nat) (hg : G x = g) (s : S) (hs : st x = s) (i : Int) (bs : List UInt8) (r : Int) (e : s.read i = (bs, r)) :
    Calls Try.prog 23 #[.pointer (some ⟨g, 0, none⟩), .int .i64 i] a fun e b => ∃ v, e = .returned (.tuple #[v, .int .i64 r]) ∧ ReadV a b v bs ∧ Below a.heap.size a b := by
  obtain ⟨Ds, h⟩ := h
  subst hg hs
  refine (Read_any a (G x) (st x) (Ds x) (h.dk x hx) i).mono ?_
  rw [e]
  exact fun e b ⟨v, he, hv, hb⟩ => ⟨v, he, hv, hb⟩
end
theorem upd_upd {α : Type} (M : Nat → α) (s : Nat) (a b : α) : upd (upd M s a) s b = upd M s b := upd_twice M s a b

/-- a block of bools. -/
def BlkQ (w : World) (g : Nat) (ks : List Bool) : Prop := w.heap[g]? = some (.cells (ks.map Value.bool).toArray 4 (0, 0))
theorem BlkQ.cell {w : World} {g : Nat} {ks : List Bool} (h : BlkQ w g ks) (i : Nat) (hi : i < ks.length) : w.cell? ⟨g, i, none⟩ = some (.bool (ks.getD i false)) := by
  rw [cell_of_row w g i _ 4 (0, 0) h]
  simp [List.getElem?_eq_getElem hi]
theorem BlkQ.frozen {w : World} {g : Nat} {ks : List Bool} (h : BlkQ w g ks) (i : Nat) : w.frozen? ⟨g, i, none⟩ = false := by
  unfold BlkQ at h
  simp [World.frozen?, h]
theorem BlkQ.set {w : World} {g : Nat} {ks : List Bool} (h : BlkQ w g ks) (i : Nat) (x : Bool) : BlkQ (w.setCell ⟨g, i, none⟩ (.bool x)) g (ks.set i x) := by
  unfold BlkQ at h ⊢
  simp [World.setCell, Array.getElem?_modify, h, List.map_set]
theorem BlkQ.rd {w : World} {g : Nat} {ks : List Bool} (h : BlkQ w g ks) (n : Nat) (hn : ks.length = n) : RdQ w (some ⟨g, 0, none⟩) n n ks := by
  subst hn
  exact ⟨rfl, Nat.le_refl _, fun h0 => ⟨g, 0, rfl, (Array.getElem?_eq_some_iff.1 h).1, fun j hj => by rw [Nat.zero_add]; exact h.cell j hj⟩⟩
theorem madeCells_false (n : Nat) : madeCells #[.bool false] n = ((List.replicate n false).map Value.bool).toArray := by
  apply Array.ext
  · simp [madeCells]
  · intro i h1 h2
    simp [madeCells, Nat.mod_one]
theorem make_false (n : Nat) (hn : n ≤ 281474976710656) (w : World) :
    (Instr.makeSlice 33 (.int .i64 (n : Int)) (.int .i64 (n : Int))).run Try.prog w = .ok (.slice (some ⟨w.heap.size, 0, none⟩) n n) (w.alloc (.cells ((List.replicate n false).map Value.bool).toArray 4 (0, 0))) := by
  rw [run_make_row' (P := Try.prog) 33 4 (.bool false) 1 Try.underlying33 bool_info rfl .i64 .i64 n (by omega) (by omega) w, madeCells_false]
theorem kept_all (c : List Wr) : ∀ n, c.length = n → kept (List.replicate n true) c = c := by
  induction c with
  | nil => intro n h; subst h; rfl
  | cons p c ih =>
    intro n h
    subst h
    have := ih c.length rfl
    unfold kept at this ⊢
    simp [List.replicate_succ] at this ⊢
    exact this
end Go.Proofs.Ytikajhfaoccicaa
