/- The document's example of a wal. Conditions: none. -/
import Derived.Test.YtabffjahelogkaaW15
namespace Go.Proofs.Ytabffjahelogkaa
open Go.RowKit Go.Bs Go.Dk

def by16 (x : UInt8) : List UInt8 := (zeros 16).set 3 x
theorem bytes_any (x : UInt8) (w : World) : Calls Try.prog 23 #[.int .u8 (x.toNat : Int)] w fun e w' => e = .returned (.slice (some ⟨w.heap.size, 0, none⟩) 16 16) ∧ Blk w' w.heap.size 5 (by16 x) ∧ Below w.heap.size w w' := by
  have hmk := make_zeros 16 (by omega) w
  obtain ⟨W, hW⟩ : ∃ W, w.alloc (rowObj 5 (zeros 16)) = W := ⟨_, rfl⟩
  obtain ⟨z, hz⟩ : ∃ z, w.heap.size = z := ⟨_, rfl⟩
  have hblk : Blk W z 5 (zeros 16) := by rw [← hW, ← hz]; exact Blk.new w 5 (zeros 16)
  have hB : Below z w W := by rw [← hW, ← hz]; exact (Below.refl _ _).alloc (Nat.le_refl _) _
  have hc := hblk.cell 3 (by decide)
  have hf := hblk.frozen 3
  rw [hW, hz] at hmk
  rw [hz]
  have HK := Lib.hid (hblk.set 3 x)
  have HB := Lib.hid (hB.setCell (p := ⟨z, 3, none⟩) (Nat.le_refl _) (B x))
  clear hblk hB hW
  have hmk' : (Instr.makeSlice 24 (.int .i64 16) (.int .i64 16)).run Try.prog w = .ok (.slice (some ⟨z, 0, none⟩) 16 16) W := hmk
  clear hmk
  go_enter Try.func23, Try.ntmps23
  go_wp2
  go_ret
  exact ⟨rfl, HK.out, HB.out⟩

/-- a wal of the call's own, and bytes beside it. -/
def WF (w a : World) (p g : Nat) (s : S) (log : Nat) (down : Bool) (X : List (Nat × List UInt8)) : Prop :=
  ∃ D, WalAt a p g s log down D ∧ (∀ k, D k → w.heap.size ≤ k) ∧ w.heap.size ≤ p ∧ Below w.heap.size w a ∧ ∀ t ∈ X, Blk a t.1 5 t.2 ∧ ¬ D t.1 ∧ t.1 ≠ p
theorem WF.below {w a b : World} {p g : Nat} {s : S} {log : Nat} {down : Bool} {X : List (Nat × List UInt8)} (h : WF w a p g s log down X) (hb : Below a.heap.size a b) : WF w b p g s log down X := by
  obtain ⟨D, h1, h2, h3, h4, h5⟩ := h
  exact ⟨D, h1.below hb, h2, h3, bstep h4 hb, fun t ht => ⟨(h5 t ht).1.keep hb (h5 t ht).1.lt, (h5 t ht).2⟩⟩
theorem WF.bel {w a : World} {p g : Nat} {s : S} {log : Nat} {down : Bool} {X : List (Nat × List UInt8)} (h : WF w a p g s log down X) : Below w.heap.size w a := by obtain ⟨D, h1, h2, h3, h4, h5⟩ := h; exact h4
theorem WF.blk {w a : World} {p g : Nat} {s : S} {log : Nat} {down : Bool} {X : List (Nat × List UInt8)} (h : WF w a p g s log down X) : ∀ t ∈ X, Blk a t.1 5 t.2 := by obtain ⟨D, h1, h2, h3, h4, h5⟩ := h; exact fun t ht => (h5 t ht).1
theorem WF.row {w a : World} {p g : Nat} {s : S} {log : Nat} {down : Bool} {X : List (Nat × List UInt8)} (h : WF w a p g s log down X) : a.heap[p]? = some (.cells (wc g log down) 43 (0, 0)) := by obtain ⟨D, h1, h2, h3, h4, h5⟩ := h; exact h1.row
theorem Commit_wf {w a0 a : World} {p g : Nat} {s : S} {log : Nat} {X : List (Nat × List UInt8)} (h : WF w a0 p g s log false X) (hb : Below a0.heap.size a0 a) (hf : s.Fine) (hd : s.deeds + 8 * (log + 1) < 900000) (A : Option Addr) (n c : Nat) (l : List Ch) (K : Nat → Prop) (hl : Chs a A n c l K) (hK : ∀ k, K k → a0.heap.size ≤ k) (hn : n ≤ 1000000) (s' : S) (r : Int) (e : s.commit log false l = (s', r)) :
    Calls Try.prog 11 #[.pointer (some ⟨p, 0, none⟩), .slice A n c] a fun e b => e = .returned (.int .i64 r) ∧ WF w b p g s' log (r == 50) X := by
  obtain ⟨D, h1, h2, h3, h4, h5⟩ := h
  refine (Commit_any a p g s log false D (h1.below hb) hf A n c l K hl (fun k hk hd => by have := h1.disk.lt k hd; have := hK k hk; omega) hn hd).mono ?_
  rw [e]
  rintro e b ⟨rfl, D', k1, k2, k3⟩
  have h4a := bstep h4 hb
  refine ⟨rfl, D', k1, fun k hk => ?_, h3, h4a.trans (k3.below (fun k hk => ?_) h4a.size), fun t ht => ?_⟩
  · rcases k2 k hk with h | h
    · exact h2 k h
    · exact Nat.le_trans h4a.size h
  · rcases hk with h | h
    · exact h2 k h
    · omega
  · obtain ⟨t1, t2, t3⟩ := h5 t ht
    have t1' := t1.keep hb t1.lt
    refine ⟨(k3.block t.1 t1'.lt (fun h => h.elim t2 t3)).trans t1', fun hd => ?_, t3⟩
    rcases k2 _ hd with h | h
    · exact t2 h
    · have := t1'.lt; omega
theorem Read_wf {w a : World} {p g : Nat} {s : S} {log : Nat} {X : List (Nat × List UInt8)} (h : WF w a p g s log false X) (i : Int) (bs : List UInt8) (r : Int) (e : s.rdB log false i = (bs, r)) (hbs : 0 < bs.length) :
    Calls Try.prog 4 #[.pointer (some ⟨p, 0, none⟩), .int .i64 i] a fun e b => ∃ q, e = .returned (.tuple #[.slice (some ⟨q, 0, none⟩) bs.length bs.length, .int .i64 r]) ∧ WF w b p g s log (r == 50) ((q, bs) :: X) := by
  obtain ⟨D, h1, h2, h3, h4, h5⟩ := h
  refine (wRead_any a p g s log false D h1 i).mono ?_
  rw [e]
  rintro e b ⟨v, rfl, hv, k1, k3⟩
  rcases hv with ⟨_, hv⟩ | ⟨q, rfl, hk, hq⟩
  · have : bs = [] := hv
    subst this
    simp at hbs
  · have hpl := (Array.getElem?_eq_some_iff.1 h1.row).1
    refine ⟨q, rfl, D, k1, h2, h3, h4.trans (k3.below (fun k hk => by omega) h4.size), fun t ht => ?_⟩
    rcases List.mem_cons.1 ht with rfl | ht
    · exact ⟨hk, fun hd => by have := h1.disk.lt _ hd; omega, by show q ≠ p; omega⟩
    · obtain ⟨t1, t2, t3⟩ := h5 t ht
      exact ⟨(k3.block t.1 t1.lt t3).trans t1, t2, t3⟩

theorem fm0 {α β : Type} (f g : α → β) : ∀ (L : List α) (j : Nat), (L.flatMap fun t => [f t, g t])[j * 2]? = L[j]?.map f
  | [], j => by simp
  | x :: L, 0 => by simp
  | x :: L, j + 1 => by
    have := fm0 f g L j
    rw [List.flatMap_cons, show (j + 1) * 2 = j * 2 + 1 + 1 by omega]
    simpa using this
theorem fm1 {α β : Type} (f g : α → β) : ∀ (L : List α) (j : Nat), (L.flatMap fun t => [f t, g t])[j * 2 + 1]? = L[j]?.map g
  | [], j => by simp
  | x :: L, 0 => by simp
  | x :: L, j + 1 => by
    have := fm1 f g L j
    rw [List.flatMap_cons, show (j + 1) * 2 + 1 = (j * 2 + 1) + 1 + 1 by omega]
    simpa using this
theorem chs_row (X : World) (q : Nat) (L : List (Int × Nat × List UInt8)) (hrow : X.heap[q]? = some (.cells (L.flatMap fun t => [Value.int .i64 t.1, .slice (some ⟨t.2.1, 0, none⟩) t.2.2.length t.2.2.length]).toArray 59 (0, 0))) (hblk : ∀ t ∈ L, Blk X t.2.1 5 t.2.2)
    (hint : ∀ t ∈ L, -9223372036854775808 ≤ t.1 ∧ t.1 ≤ 9223372036854775807) (N : Nat) (hq : N ≤ q) (hN : ∀ t ∈ L, N ≤ t.2.1) : Chs X (some ⟨q, 0, none⟩) L.length L.length (L.map fun t => (t.1, t.2.2)) (fun k => N ≤ k ∧ k < X.heap.size) := by
  refine ⟨by simp, Nat.le_refl _, fun k hk => hk.2, fun j hj => ?_⟩
  have hm : L[j] ∈ L := List.getElem_mem hj
  have hc : chAt (L.map fun t => (t.1, t.2.2)) j = (L[j].1, L[j].2.2) := by simp [chAt, List.getD, List.getElem?_eq_getElem hj]
  have hql : q < X.heap.size := (Array.getElem?_eq_some_iff.1 hrow).1
  refine ⟨q, 0, some ⟨L[j].2.1, 0, none⟩, L[j].2.2.length, L[j].2.2.length, rfl, ⟨hq, hql⟩, ?_, ?_, ?_, ?_, ?_⟩
  · rw [cell_of_row X q _ _ 59 (0, 0) hrow, hc, Nat.zero_add, List.getElem?_toArray, fm0, List.getElem?_eq_getElem hj]; rfl
  · rw [cell_of_row X q _ _ 59 (0, 0) hrow, Nat.zero_add, List.getElem?_toArray, fm1, List.getElem?_eq_getElem hj]; rfl
  · rw [hc]; exact hint _ hm
  · intro _ a e
    cases e
    exact ⟨hN _ hm, (hblk _ hm).lt⟩
  · rw [hc]; exact (hblk _ hm).all _ (Nat.le_refl _)

def w0 : S := S.new 8 16
def l1 : List Ch := [(0, by16 1), (4, by16 2)]
def l2 : List Ch := [(0, by16 1), (1, by16 1), (2, by16 1)]
def l3 : List Ch := [(5, by16 1)]
def w1S : S := ⟨8, 16, cur (cur (cur (cur (fun _ => zeros 16) [(1, by16 1), (2, by16 2)]) [(0, cmt 16 l1)]) [(3, by16 1), (7, by16 2)]) [(0, zeros 16)], [], true, 10, 0, []⟩
theorem w1_eq : w0.commit 2 false l1 = (w1S, 0) := rfl
theorem w2_eq : w1S.commit 2 false l2 = (w1S, 8) := rfl
theorem w3_eq : w1S.commit 2 false l3 = (w1S, 1) := rfl
theorem r0_eq : w1S.rdB 2 false 0 = (by16 1, 0) := rfl
theorem r4_eq : w1S.rdB 2 false 4 = (by16 2, 0) := rfl
theorem fineW0 : w0.Fine := Nat.zero_le _
theorem fineW1 : w1S.Fine := Nat.zero_le _
theorem commit_at {w a b c d : World} {p g za zb zc : Nat} {X : List (Nat × List UInt8)} (h : WF w a p g w0 2 false X) (hb1 : Below a.heap.size a b) (hb2 : Below b.heap.size b c) (k1 : Blk b a.heap.size 5 (by16 1)) (k2 : Blk c b.heap.size 5 (by16 2)) (ea : a.heap.size = za) (eb : b.heap.size = zb) (ec : c.heap.size = zc)
    (hd : c.alloc (.cells #[.int .i64 0, .slice (some ⟨za, 0, none⟩) 16 16, .int .i64 4, .slice (some ⟨zb, 0, none⟩) 16 16] 59) = d) :
    Calls Try.prog 11 #[.pointer (some ⟨p, 0, none⟩), .slice (some ⟨zc, 0, none⟩) 2 2] d fun e b => e = .returned (.int .i64 0) ∧ WF w b p g w1S 2 false X := by
  have hb3 : Below c.heap.size c d := by rw [← hd]; exact (Below.refl _ _).alloc (Nat.le_refl _) _
  have hs1 := hb1.size
  have hs2 := hb2.size
  have k1' := (k1.keep hb2 k1.lt).keep hb3 (by have := k1.lt; omega)
  have k2' := k2.keep hb3 k2.lt
  rw [ea] at k1'
  rw [eb] at k2'
  have hrow : d.heap[zc]? = some (.cells #[.int .i64 0, .slice (some ⟨za, 0, none⟩) 16 16, .int .i64 4, .slice (some ⟨zb, 0, none⟩) 16 16] 59 (0, 0)) := by rw [← hd, ← ec]; exact heap_alloc_new c _
  refine Commit_wf h (bstep (bstep hb1 hb2) hb3) fineW0 (by decide) _ 2 2 l1 _ (chs_row d zc [(0, za, by16 1), (4, zb, by16 2)] hrow ?_ ?_ za (by omega) ?_) (fun k hk => by rw [ea]; exact hk.1) (by omega) w1S 0 w1_eq
  · intro t ht
    simp at ht
    rcases ht with rfl | rfl
    · exact k1'
    · exact k2'
  · intro t ht
    simp at ht
    rcases ht with rfl | rfl <;> simp
  · intro t ht
    simp at ht
    rcases ht with rfl | rfl
    · exact Nat.le_refl _
    · show za ≤ zb; omega
theorem commit_at3 {w a b c d e : World} {p g za zb zc zd : Nat} {X : List (Nat × List UInt8)} (h : WF w a p g w1S 2 false X) (hb1 : Below a.heap.size a b) (hb2 : Below b.heap.size b c) (hb3 : Below c.heap.size c d) (k1 : Blk b a.heap.size 5 (by16 1)) (k2 : Blk c b.heap.size 5 (by16 1)) (k3 : Blk d c.heap.size 5 (by16 1)) (ea : a.heap.size = za) (eb : b.heap.size = zb) (ec : c.heap.size = zc) (ed : d.heap.size = zd)
    (hd : d.alloc (.cells #[.int .i64 0, .slice (some ⟨za, 0, none⟩) 16 16, .int .i64 1, .slice (some ⟨zb, 0, none⟩) 16 16, .int .i64 2, .slice (some ⟨zc, 0, none⟩) 16 16] 59) = e) :
    Calls Try.prog 11 #[.pointer (some ⟨p, 0, none⟩), .slice (some ⟨zd, 0, none⟩) 3 3] e fun e b => e = .returned (.int .i64 8) ∧ WF w b p g w1S 2 false X := by
  have hb4 : Below d.heap.size d e := by rw [← hd]; exact (Below.refl _ _).alloc (Nat.le_refl _) _
  have hs1 := hb1.size
  have hs2 := hb2.size
  have hs3 := hb3.size
  have k1' := ((k1.keep hb2 k1.lt).keep hb3 (by have := k1.lt; omega)).keep hb4 (by have := k1.lt; omega)
  have k2' := (k2.keep hb3 k2.lt).keep hb4 (by have := k2.lt; omega)
  have k3' := k3.keep hb4 k3.lt
  rw [ea] at k1'
  rw [eb] at k2'
  rw [ec] at k3'
  have hrow : e.heap[zd]? = some (.cells #[.int .i64 0, .slice (some ⟨za, 0, none⟩) 16 16, .int .i64 1, .slice (some ⟨zb, 0, none⟩) 16 16, .int .i64 2, .slice (some ⟨zc, 0, none⟩) 16 16] 59 (0, 0)) := by rw [← hd, ← ed]; exact heap_alloc_new d _
  refine Commit_wf h (bstep (bstep (bstep hb1 hb2) hb3) hb4) fineW1 (by decide) _ 3 3 l2 _ (chs_row e zd [(0, za, by16 1), (1, zb, by16 1), (2, zc, by16 1)] hrow ?_ ?_ za (by omega) ?_) (fun k hk => by rw [ea]; exact hk.1) (by omega) w1S 8 w2_eq
  · intro t ht
    simp at ht
    rcases ht with rfl | rfl | rfl
    · exact k1'
    · exact k2'
    · exact k3'
  · intro t ht
    simp at ht
    rcases ht with rfl | rfl | rfl <;> simp
  · intro t ht
    simp at ht
    rcases ht with rfl | rfl | rfl
    · exact Nat.le_refl _
    · show za ≤ zb; omega
    · show za ≤ zc; omega
theorem commit_at1 {w a b c : World} {p g za zb : Nat} {X : List (Nat × List UInt8)} (h : WF w a p g w1S 2 false X) (hb1 : Below a.heap.size a b) (k1 : Blk b a.heap.size 5 (by16 1)) (ea : a.heap.size = za) (eb : b.heap.size = zb)
    (hd : b.alloc (.cells #[.int .i64 5, .slice (some ⟨za, 0, none⟩) 16 16] 59) = c) :
    Calls Try.prog 11 #[.pointer (some ⟨p, 0, none⟩), .slice (some ⟨zb, 0, none⟩) 1 1] c fun e b => e = .returned (.int .i64 1) ∧ WF w b p g w1S 2 false X := by
  have hb3 : Below b.heap.size b c := by rw [← hd]; exact (Below.refl _ _).alloc (Nat.le_refl _) _
  have hs1 := hb1.size
  have k1' := k1.keep hb3 k1.lt
  rw [ea] at k1'
  have hrow : c.heap[zb]? = some (.cells #[.int .i64 5, .slice (some ⟨za, 0, none⟩) 16 16] 59 (0, 0)) := by rw [← hd, ← eb]; exact heap_alloc_new b _
  refine Commit_wf h (bstep hb1 hb3) fineW1 (by decide) _ 1 1 l3 _ (chs_row c zb [(5, za, by16 1)] hrow ?_ ?_ za (by omega) ?_) (fun k hk => by rw [ea]; exact hk.1) (by omega) w1S 1 w3_eq
  · intro t ht
    simp at ht
    subst ht
    exact k1'
  · intro t ht
    simp at ht
    subst ht
    simp
  · intro t ht
    simp at ht
    subst ht
    exact Nat.le_refl _
theorem Size_wf {w a : World} {p g : Nat} {s : S} {log : Nat} {down : Bool} {X : List (Nat × List UInt8)} (h : WF w a p g s log down X) :
    Calls Try.prog 5 #[.pointer (some ⟨p, 0, none⟩)] a fun e b => e = .returned (.tuple #[.int .i64 (nbl s log : Int), .int .i64 (s.bytes : Int)]) ∧ Below a.heap.size a b := by
  obtain ⟨D, h1, h2, h3, h4, h5⟩ := h
  refine (wSize_any a p g s log down D h1).mono ?_
  rintro e b ⟨rfl, k, rfl⟩
  exact ⟨rfl, below_drewN (Below.refl _ _) _⟩
end Go.Proofs.Ytabffjahelogkaa
