/- The document's example of a wal. Conditions: none. The changes of a commit that is set. Conditions: none. -/
import Derived.Test.YtephmcbofcfpmaaGreatJ18
set_option maxRecDepth 8000
set_option linter.unusedSimpArgs false
set_option linter.unusedVariables false
namespace Go.Proofs.YtephmcbofcfpmaaGreat
open Go.RowKit Go.Bs Go.Dk

def by16 (x : UInt8) : List UInt8 := (zeros 16).set 3 x
/-- a wal of the call's own, and bytes beside it. -/
def WF (w a : World) (p g : Nat) (s : S) (log : Nat) (down : Bool) (X : List (Nat × List UInt8)) : Prop :=
  ∃ D, WalAt a p g s log down D ∧ (∀ k, D k → w.heap.size ≤ k) ∧ w.heap.size ≤ p ∧ Below w.heap.size w a ∧ ∀ t ∈ X, Blk a t.1 5 t.2 ∧ ¬ D t.1 ∧ t.1 ≠ p
theorem WF.below {w a b : World} {p g : Nat} {s : S} {log : Nat} {down : Bool} {X : List (Nat × List UInt8)} (h : WF w a p g s log down X) (hb : Below a.heap.size a b) : WF w b p g s log down X := by
  obtain ⟨D, h1, h2, h3, h4, h5⟩ := h
  exact ⟨D, h1.below hb, h2, h3, bstep h4 hb, fun t ht => ⟨(h5 t ht).1.keep hb (h5 t ht).1.lt, (h5 t ht).2⟩⟩
theorem WF.bel {w a : World} {p g : Nat} {s : S} {log : Nat} {down : Bool} {X : List (Nat × List UInt8)} (h : WF w a p g s log down X) : Below w.heap.size w a := by obtain ⟨D, h1, h2, h3, h4, h5⟩ := h; exact h4
theorem WF.blk {w a : World} {p g : Nat} {s : S} {log : Nat} {down : Bool} {X : List (Nat × List UInt8)} (h : WF w a p g s log down X) : ∀ t ∈ X, Blk a t.1 5 t.2 := by obtain ⟨D, h1, h2, h3, h4, h5⟩ := h; exact fun t ht => (h5 t ht).1
theorem WF.row {w a : World} {p g : Nat} {s : S} {log : Nat} {down : Bool} {X : List (Nat × List UInt8)} (h : WF w a p g s log down X) : a.heap[p]? = some (.cells (wc g log down) 163 (0, 0)) := by obtain ⟨D, h1, h2, h3, h4, h5⟩ := h; exact h1.row
theorem Commit_wf {w a0 a : World} {p g : Nat} {s : S} {log : Nat} {X : List (Nat × List UInt8)} (h : WF w a0 p g s log false X) (hb : Below a0.heap.size a0 a) (hf : s.Fine) (hd : s.deeds + 8 * (log + 1) < 900000) (A : Option Addr) (n c : Nat) (l : List Ch) (K : Nat → Prop) (hl : Chs a A n c l K) (hK : ∀ k, K k → a0.heap.size ≤ k) (hn : n ≤ 1000000) (s' : S) (r : Int) (e : s.commit log false l = (s', r)) :
    Calls Tryz.prog 74 #[.pointer (some ⟨p, 0, none⟩), .slice A n c] a fun e b => e = .returned (.int .i64 r) ∧ WF w b p g s' log (r == 50) X := by
  obtain ⟨D, h1, h2, h3, h4, h5⟩ := h
  refine (Commit_any a p g s log false D (h1.below hb) hf A n c l K hl (fun k hk hd => by have := h1.disk.lt k hd; have := hK k hk; omega) hn hd).mono ?_
  rw [e]
  rintro e b ⟨rfl, D', k1, k2, k3⟩
  have h4a := bstep h4 hb
  refine ⟨rfl, D', k1, fun k hk => ?_, h3, h4a.trans (k3.below (fun k hk => ?_) h4a.size), fun t ht => ?_⟩
  · rcases k2 k hk with h | h
    · exact h2 k h
    · exact Nat.le_trans h4a.size h
  · rcases hk with h | h
    · exact h2 k h
    · omega
  · obtain ⟨t1, t2, t3⟩ := h5 t ht
    have t1' := t1.keep hb t1.lt
    refine ⟨(k3.block t.1 t1'.lt (fun h => h.elim t2 t3)).trans t1', fun hd => ?_, t3⟩
    rcases k2 _ hd with h | h
    · exact t2 h
    · have := t1'.lt; omega
theorem Read_wf {w a : World} {p g : Nat} {s : S} {log : Nat} {X : List (Nat × List UInt8)} (h : WF w a p g s log false X) (i : Int) (bs : List UInt8) (r : Int) (e : s.rdB log false i = (bs, r)) (hbs : 0 < bs.length) :
    Calls Tryz.prog 57 #[.pointer (some ⟨p, 0, none⟩), .int .i64 i] a fun e b => ∃ q, e = .returned (.tuple #[.slice (some ⟨q, 0, none⟩) bs.length bs.length, .int .i64 r]) ∧ WF w b p g s log (r == 50) ((q, bs) :: X) := by
  obtain ⟨D, h1, h2, h3, h4, h5⟩ := h
  refine (wRead_any a p g s log false D h1 i).mono ?_
  rw [e]
  rintro e b ⟨v, rfl, hv, k1, k3⟩
  rcases hv with ⟨_, hv⟩ | ⟨q, rfl, hk, hq⟩
  · have : bs = [] := hv
    subst this
    simp at hbs
  · have hpl := (Array.getElem?_eq_some_iff.1 h1.row).1
    refine ⟨q, rfl, D, k1, h2, h3, h4.trans (k3.below (fun k hk => by omega) h4.size), fun t ht => ?_⟩
    rcases List.mem_cons.1 ht with rfl | ht
    · exact ⟨hk, fun hd => by have := h1.disk.lt _ hd; omega, by show q ≠ p; omega⟩
    · obtain ⟨t1, t2, t3⟩ := h5 t ht
      exact ⟨(k3.block t.1 t1.lt t3).trans t1, t2, t3⟩

theorem fm0 {α β : Type} (f g : α → β) : ∀ (L : List α) (j : Nat), (L.flatMap fun t => [f t, g t])[j * 2]? = L[j]?.map f
  | [], j => by simp
  | x :: L, 0 => by simp
  | x :: L, j + 1 => by
    have := fm0 f g L j
    rw [List.flatMap_cons, show (j + 1) * 2 = j * 2 + 1 + 1 by omega]
    simpa using this
theorem fm1 {α β : Type} (f g : α → β) : ∀ (L : List α) (j : Nat), (L.flatMap fun t => [f t, g t])[j * 2 + 1]? = L[j]?.map g
  | [], j => by simp
  | x :: L, 0 => by simp
  | x :: L, j + 1 => by
    have := fm1 f g L j
    rw [List.flatMap_cons, show (j + 1) * 2 + 1 = (j * 2 + 1) + 1 + 1 by omega]
    simpa using this
theorem chs_row (X : World) (q : Nat) (L : List (Int × Nat × List UInt8)) (hrow : X.heap[q]? = some (.cells (L.flatMap fun t => [Value.int .i64 t.1, .slice (some ⟨t.2.1, 0, none⟩) t.2.2.length t.2.2.length]).toArray 169 (0, 0))) (hblk : ∀ t ∈ L, Blk X t.2.1 5 t.2.2)
    (hint : ∀ t ∈ L, -9223372036854775808 ≤ t.1 ∧ t.1 ≤ 9223372036854775807) (N : Nat) (hq : N ≤ q) (hN : ∀ t ∈ L, N ≤ t.2.1) : Chs X (some ⟨q, 0, none⟩) L.length L.length (L.map fun t => (t.1, t.2.2)) (fun k => N ≤ k ∧ k < X.heap.size) := by
  refine ⟨by simp, Nat.le_refl _, fun k hk => hk.2, fun j hj => ?_⟩
  have hm : L[j] ∈ L := List.getElem_mem hj
  have hc : chAt (L.map fun t => (t.1, t.2.2)) j = (L[j].1, L[j].2.2) := by simp [chAt, List.getD, List.getElem?_eq_getElem hj]
  have hql : q < X.heap.size := (Array.getElem?_eq_some_iff.1 hrow).1
  refine ⟨q, 0, some ⟨L[j].2.1, 0, none⟩, L[j].2.2.length, L[j].2.2.length, rfl, ⟨hq, hql⟩, ?_, ?_, ?_, ?_, ?_⟩
  · rw [cell_of_row X q _ _ 169 (0, 0) hrow, hc, Nat.zero_add, List.getElem?_toArray, fm0, List.getElem?_eq_getElem hj]; rfl
  · rw [cell_of_row X q _ _ 169 (0, 0) hrow, Nat.zero_add, List.getElem?_toArray, fm1, List.getElem?_eq_getElem hj]; rfl
  · rw [hc]; exact hint _ hm
  · intro _ a e
    cases e
    exact ⟨hN _ hm, (hblk _ hm).lt⟩
  · rw [hc]; exact (hblk _ hm).all _ (Nat.le_refl _)

def w0 : S := S.new 8 16
def l1 : List Ch := [(0, by16 1), (4, by16 2)]
def l2 : List Ch := [(0, by16 1), (1, by16 1), (2, by16 1)]
def l3 : List Ch := [(5, by16 1)]
def w1S : S := ⟨8, 16, cur (cur (cur (cur (fun _ => zeros 16) [(1, by16 1), (2, by16 2)]) [(0, cmt 16 l1)]) [(3, by16 1), (7, by16 2)]) [(0, zeros 16)], [], true, 10, 0, []⟩
theorem w1_eq : w0.commit 2 false l1 = (w1S, 0) := rfl
theorem w2_eq : w1S.commit 2 false l2 = (w1S, 8) := rfl
theorem w3_eq : w1S.commit 2 false l3 = (w1S, 1) := rfl
theorem r0_eq : w1S.rdB 2 false 0 = (by16 1, 0) := rfl
theorem r4_eq : w1S.rdB 2 false 4 = (by16 2, 0) := rfl
theorem fineW0 : w0.Fine := Nat.zero_le _
theorem fineW1 : w1S.Fine := Nat.zero_le _
theorem commit_at {w a b c d : World} {p g za zb zc : Nat} {X : List (Nat × List UInt8)} (h : WF w a p g w0 2 false X) (hb1 : Below a.heap.size a b) (hb2 : Below b.heap.size b c) (k1 : Blk b a.heap.size 5 (by16 1)) (k2 : Blk c b.heap.size 5 (by16 2)) (ea : a.heap.size = za) (eb : b.heap.size = zb) (ec : c.heap.size = zc)
    (hd : c.alloc (.cells #[.int .i64 0, .slice (some ⟨za, 0, none⟩) 16 16, .int .i64 4, .slice (some ⟨zb, 0, none⟩) 16 16] 169) = d) :
    Calls Tryz.prog 74 #[.pointer (some ⟨p, 0, none⟩), .slice (some ⟨zc, 0, none⟩) 2 2] d fun e b => e = .returned (.int .i64 0) ∧ WF w b p g w1S 2 false X := by
  have hb3 : Below c.heap.size c d := by rw [← hd]; exact (Below.refl _ _).alloc (Nat.le_refl _) _
  have hs1 := hb1.size
  have hs2 := hb2.size
  have k1' := (k1.keep hb2 k1.lt).keep hb3 (by have := k1.lt; omega)
  have k2' := k2.keep hb3 k2.lt
  rw [ea] at k1'
  rw [eb] at k2'
  have hrow : d.heap[zc]? = some (.cells #[.int .i64 0, .slice (some ⟨za, 0, none⟩) 16 16, .int .i64 4, .slice (some ⟨zb, 0, none⟩) 16 16] 169 (0, 0)) := by rw [← hd, ← ec]; exact heap_alloc_new c _
  refine Commit_wf h (bstep (bstep hb1 hb2) hb3) fineW0 (by decide) _ 2 2 l1 _ (chs_row d zc [(0, za, by16 1), (4, zb, by16 2)] hrow ?_ ?_ za (by omega) ?_) (fun k hk => by rw [ea]; exact hk.1) (by omega) w1S 0 w1_eq
  · intro t ht
    simp at ht
    rcases ht with rfl | rfl
    · exact k1'
    · exact k2'
  · intro t ht
    simp at ht
    rcases ht with rfl | rfl <;> simp
  · intro t ht
    simp at ht
    rcases ht with rfl | rfl
    · exact Nat.le_refl _
    · show za ≤ zb; omega
theorem commit_at3 {w a b c d e : World} {p g za zb zc zd : Nat} {X : List (Nat × List UInt8)} (h : WF w a p g w1S 2 false X) (hb1 : Below a.heap.size a b) (hb2 : Below b.heap.size b c) (hb3 : Below c.heap.size c d) (k1 : Blk b a.heap.size 5 (by16 1)) (k2 : Blk c b.heap.size 5 (by16 1)) (k3 : Blk d c.heap.size 5 (by16 1)) (ea : a.heap.size = za) (eb : b.heap.size = zb) (ec : c.heap.size = zc) (ed : d.heap.size = zd)
    (hd : d.alloc (.cells #[.int .i64 0, .slice (some ⟨za, 0, none⟩) 16 16, .int .i64 1, .slice (some ⟨zb, 0, none⟩) 16 16, .int .i64 2, .slice (some ⟨zc, 0, none⟩) 16 16] 169) = e) :
    Calls Tryz.prog 74 #[.pointer (some ⟨p, 0, none⟩), .slice (some ⟨zd, 0, none⟩) 3 3] e fun e b => e = .returned (.int .i64 8) ∧ WF w b p g w1S 2 false X := by
  have hb4 : Below d.heap.size d e := by rw [← hd]; exact (Below.refl _ _).alloc (Nat.le_refl _) _
  have hs1 := hb1.size
  have hs2 := hb2.size
  have hs3 := hb3.size
  have k1' := ((k1.keep hb2 k1.lt).keep hb3 (by have := k1.lt; omega)).keep hb4 (by have := k1.lt; omega)
  have k2' := (k2.keep hb3 k2.lt).keep hb4 (by have := k2.lt; omega)
  have k3' := k3.keep hb4 k3.lt
  rw [ea] at k1'
  rw [eb] at k2'
  rw [ec] at k3'
  have hrow : e.heap[zd]? = some (.cells #[.int .i64 0, .slice (some ⟨za, 0, none⟩) 16 16, .int .i64 1, .slice (some ⟨zb, 0, none⟩) 16 16, .int .i64 2, .slice (some ⟨zc, 0, none⟩) 16 16] 169 (0, 0)) := by rw [← hd, ← ed]; exact heap_alloc_new d _
  refine Commit_wf h (bstep (bstep (bstep hb1 hb2) hb3) hb4) fineW1 (by decide) _ 3 3 l2 _ (chs_row e zd [(0, za, by16 1), (1, zb, by16 1), (2, zc, by16 1)] hrow ?_ ?_ za (by omega) ?_) (fun k hk => by rw [ea]; exact hk.1) (by omega) w1S 8 w2_eq
  · intro t ht
    simp at ht
    rcases ht with rfl | rfl | rfl
    · exact k1'
    · exact k2'
    · exact k3'
  · intro t ht
    simp at ht
    rcases ht with rfl | rfl | rfl <;> simp
  · intro t ht
    simp at ht
    rcases ht with rfl | rfl | rfl
    · exact Nat.le_refl _
    · show za ≤ zb; omega
    · show za ≤ zc; omega
theorem commit_at1 {w a b c : World} {p g za zb : Nat} {X : List (Nat × List UInt8)} (h : WF w a p g w1S 2 false X) (hb1 : Below a.heap.size a b) (k1 : Blk b a.heap.size 5 (by16 1)) (ea : a.heap.size = za) (eb : b.heap.size = zb)
    (hd : b.alloc (.cells #[.int .i64 5, .slice (some ⟨za, 0, none⟩) 16 16] 169) = c) :
    Calls Tryz.prog 74 #[.pointer (some ⟨p, 0, none⟩), .slice (some ⟨zb, 0, none⟩) 1 1] c fun e b => e = .returned (.int .i64 1) ∧ WF w b p g w1S 2 false X := by
  have hb3 : Below b.heap.size b c := by rw [← hd]; exact (Below.refl _ _).alloc (Nat.le_refl _) _
  have hs1 := hb1.size
  have k1' := k1.keep hb3 k1.lt
  rw [ea] at k1'
  have hrow : c.heap[zb]? = some (.cells #[.int .i64 5, .slice (some ⟨za, 0, none⟩) 16 16] 169 (0, 0)) := by rw [← hd, ← eb]; exact heap_alloc_new b _
  refine Commit_wf h (bstep hb1 hb3) fineW1 (by decide) _ 1 1 l3 _ (chs_row c zb [(5, za, by16 1)] hrow ?_ ?_ za (by omega) ?_) (fun k hk => by rw [ea]; exact hk.1) (by omega) w1S 1 w3_eq
  · intro t ht
    simp at ht
    subst ht
    exact k1'
  · intro t ht
    simp at ht
    subst ht
    simp
  · intro t ht
    simp at ht
    subst ht
    exact Nat.le_refl _
theorem Size_wf {w a : World} {p g : Nat} {s : S} {log : Nat} {down : Bool} {X : List (Nat × List UInt8)} (h : WF w a p g s log down X) :
    Calls Tryz.prog 77 #[.pointer (some ⟨p, 0, none⟩)] a fun e b => e = .returned (.tuple #[.int .i64 (nbl s log : Int), .int .i64 (s.bytes : Int)]) ∧ Below a.heap.size a b := by
  obtain ⟨D, h1, h2, h3, h4, h5⟩ := h
  refine (wSize_any a p g s log down D h1).mono ?_
  rintro e b ⟨rfl, k, rfl⟩
  exact ⟨rfl, below_drewN (Below.refl _ _) _⟩
end Go.Proofs.YtephmcbofcfpmaaGreat

set_option maxRecDepth 8000
set_option linter.unusedSimpArgs false
set_option linter.unusedVariables false
namespace Go.Bs
open Go.RowKit
theorem i64_or_nat (a b : Nat) (ha : a < 9223372036854775808) (hb : b < 9223372036854775808) : bits .or .i64 (a : Int) (b : Int) = ((a ||| b : Nat) : Int) := by
  have hx : a ||| b < 2 ^ 63 := Nat.or_lt_two_pow (by omega) (by omega)
  show IntKind.i64.wrap ((BitVec.ofInt 64 (a : Int) ||| BitVec.ofInt 64 (b : Int)).toNat : Int) = _
  rw [BitVec.toNat_or, ofInt_u64 a (by omega), ofInt_u64 b (by omega), IntKind.wrap_i64]
  omega
theorem or_hi8 (a b : Nat) (ha : a < 65536) (hb : b < 256) : bits .or .i64 ((a : Int) * 256) (b : Int) = ((256 * a + b : Nat) : Int) := by
  have := i64_or_nat (2 ^ 8 * a) b (by omega) (by omega)
  rw [← Nat.two_pow_add_eq_or_of_lt (by omega : b < 2 ^ 8)] at this
  rw [show ((a : Int) * 256) = ((2 ^ 8 * a : Nat) : Int) by omega, this]
theorem or_hi16 (a b : Nat) (ha : a < 256) (hb : b < 256) : bits .or .i64 ((a : Int) * 65536) ((b : Int) * 256) = (((256 * a + b : Nat) : Int) * 256) := by
  have := i64_or_nat (2 ^ 16 * a) (2 ^ 8 * b) (by omega) (by omega)
  rw [← Nat.two_pow_add_eq_or_of_lt (by omega : 2 ^ 8 * b < 2 ^ 16)] at this
  rw [show ((a : Int) * 65536) = ((2 ^ 16 * a : Nat) : Int) by omega, show ((b : Int) * 256) = ((2 ^ 8 * b : Nat) : Int) by omega, this]
  omega
end Go.Bs
namespace Go.Dk
open Go.RowKit Go.Bs
def be24 (cm : List UInt8) (i : Nat) : Nat := 256 * (256 * (cm.getD i 0).toNat + (cm.getD (i + 1) 0).toNat) + (cm.getD (i + 2) 0).toNat
/-- the change k of a commit, if it is of a block. -/
def chN (s : S) (log : Nat) (cm : List UInt8) (k : Nat) : Option Ch := if be24 cm (3 + 3 * k) < s.sectors - 1 - log then some ((be24 cm (3 + 3 * k) : Int), cur s.L s.c (1 + k)) else none
def chsTo (s : S) (log : Nat) (cm : List UInt8) (k : Nat) : List Ch := (List.range k).filterMap (chN s log cm)
def cntN (cm : List UInt8) : Nat := 256 * (cm.getD 1 0).toNat + (cm.getD 2 0).toNat
def chs (s : S) (log : Nat) (cm : List UInt8) : List Ch := chsTo s log cm (min (cntN cm) log)
theorem chsTo_no (s : S) (log : Nat) (cm : List UInt8) (k : Nat) (h : ¬ be24 cm (3 + 3 * k) < s.sectors - 1 - log) : chsTo s log cm (k + 1) = chsTo s log cm k := by
  unfold chsTo
  rw [List.range_succ, List.filterMap_append]
  simp [chN, h]
theorem chsTo_yes (s : S) (log : Nat) (cm : List UInt8) (k : Nat) (h : be24 cm (3 + 3 * k) < s.sectors - 1 - log) : chsTo s log cm (k + 1) = chsTo s log cm k ++ [((be24 cm (3 + 3 * k) : Int), cur s.L s.c (1 + k))] := by
  unfold chsTo
  rw [List.range_succ, List.filterMap_append]
  simp [chN, h]
theorem chsTo_len (s : S) (log : Nat) (cm : List UInt8) (k : Nat) : (chsTo s log cm k).length ≤ k := by
  unfold chsTo
  exact Nat.le_trans (List.length_filterMap_le _ _) (by simp)
end Go.Dk
namespace Go.Proofs.YtephmcbofcfpmaaGreat
open Go.RowKit Go.Bs Go.Dk

theorem elem24 : Tryz.prog.elem 39 = 5 := by kernel_rfl
theorem size5 (w : World) : (sizeOf 5).run Tryz.prog w = .ok 1 w := by kernel_rfl
theorem wpList_run_appT {P : Program} (w : World) {ops : Array Oper} {rest : List Oper} {o : Oper} {a : Act} {Q : Exit → Act → World → Prop} (hgd : o.guard = none) (s x : Operand) (t : TypeId)
    (ho : o.op = .call { callee := .builtin .append, args := #[s, x], argTypes := #[t, t] }) (v1 v2 v' : Value) (w' : World) (hs : a.eval s = v1) (hx : a.eval x = v2) (hrun : (Builtin.append_ #[t, t] o.type #[v1, v2]).run P w = .ok v' w') (h : wpList P ops Q rest (a.put o.dst v') w') :
    wpList P ops Q (o :: rest) a w := by
  refine wpList_plain hgd fun K hK => ?_
  unfold Oper.wp execOp
  simp only [ho, resolve, invoke, builtin, Sem.run_bind, Sem.run_pure, Result.andThen_ok, List.map_toArray, List.map_cons, List.map_nil, hs, hx, hrun]
  exact hK _ _ h
abbrev Tr := Int × Nat × List UInt8
def trC (t : Tr) : List Value := [.int .i64 t.1, .slice (some ⟨t.2.1, 0, none⟩) t.2.2.length t.2.2.length]
/-- a row of changes of the call's own. -/
structure OwnC (w : World) (base : Nat) (v : Value) (L : List Tr) : Prop where
  own : w.ownsRow base 169 2 v L.length (L.flatMap trC)
  blk : ∀ t ∈ L, Blk w t.2.1 5 t.2.2 ∧ base ≤ t.2.1 ∧ v.ownBlock ≠ some t.2.1
  int : ∀ t ∈ L, -9223372036854775808 ≤ t.1 ∧ t.1 ≤ 9223372036854775807
theorem OwnC.nil (w : World) (base : Nat) : OwnC w base (.slice none 0 0) [] := ⟨⟨rfl, .inl ⟨rfl, rfl⟩⟩, fun t h => (by cases h), fun t h => (by cases h)⟩
theorem OwnC.form {w : World} {base : Nat} {v : Value} {L : List Tr} (h : OwnC w base v L) : ∃ A c, v = .slice A L.length c ∧ L.length ≤ c := by
  rcases h.own.2 with ⟨rfl, h0⟩ | ⟨g, cap, cur, rfl, _, _, hn, _⟩
  · exact ⟨none, 0, by rw [h0], by omega⟩
  · exact ⟨_, cap, rfl, hn⟩
theorem OwnC.keep {w w' : World} {base : Nat} {v : Value} {L : List Tr} (h : OwnC w base v L) (hb : Below w.heap.size w w') : OwnC w' base v L :=
  ⟨ownsRow_keepB h.own (fun k e => by
    rcases h.own.2 with ⟨rfl, _⟩ | ⟨g, cap, cur, rfl, _, hg, _⟩
    · cases e
    · have : g = k := by simpa [Value.ownBlock] using e
      subst this
      exact hb.block g (Array.getElem?_eq_some_iff.1 hg).1), fun t ht => ⟨(h.blk t ht).1.keep hb (h.blk t ht).1.lt, (h.blk t ht).2⟩, h.int⟩
theorem OwnC.chs {w : World} {base : Nat} {v : Value} {L : List Tr} (h : OwnC w base v L) : ∃ A c, v = .slice A L.length c ∧ Chs w A L.length c (L.map fun t => (t.1, t.2.2)) (fun k => base ≤ k ∧ k < w.heap.size) := by
  obtain ⟨A, c, rfl, hc⟩ := h.form
  refine ⟨A, c, rfl, by simp, hc, fun k hk => hk.2, fun j hj => ?_⟩
  rcases h.own.2 with ⟨e, h0⟩ | ⟨g, cap, cur, e, hbg, hg, _, _, hsz, htk⟩
  · omega
  · cases e
    have hm : L[j] ∈ L := List.getElem_mem hj
    have hcc : chAt (L.map fun t => (t.1, t.2.2)) j = (L[j].1, L[j].2.2) := by simp [chAt, List.getD, List.getElem?_eq_getElem hj]
    have hcur : ∀ i, i < L.length * 2 → cur[i]? = (L.flatMap trC)[i]? := fun i hi => by rw [← htk, List.getElem?_take, if_pos hi, Array.getElem?_toList]
    refine ⟨g, 0, some ⟨L[j].2.1, 0, none⟩, L[j].2.2.length, L[j].2.2.length, rfl, ⟨hbg, (Array.getElem?_eq_some_iff.1 hg).1⟩, ?_, ?_, ?_, ?_, ?_⟩
    · rw [cell_of_row w g _ _ 169 (0, 0) hg, hcc, Nat.zero_add, hcur _ (by omega)]
      have := fm0 (fun t : Tr => Value.int .i64 t.1) (fun t : Tr => Value.slice (some ⟨t.2.1, 0, none⟩) t.2.2.length t.2.2.length) L j
      rw [List.getElem?_eq_getElem hj] at this
      exact this
    · rw [cell_of_row w g _ _ 169 (0, 0) hg, Nat.zero_add, hcur _ (by omega)]
      have := fm1 (fun t : Tr => Value.int .i64 t.1) (fun t : Tr => Value.slice (some ⟨t.2.1, 0, none⟩) t.2.2.length t.2.2.length) L j
      rw [List.getElem?_eq_getElem hj] at this
      exact this
    · rw [hcc]; exact h.int _ hm
    · intro _ a e
      cases e
      exact ⟨(h.blk _ hm).2.1, (h.blk _ hm).1.lt⟩
    · rw [hcc]; exact (h.blk _ hm).1.all _ (Nat.le_refl _)
/-- one change more. -/
theorem OwnC.app {w : World} {base : Nat} {v : Value} {L : List Tr} (h : OwnC w base v L) (hbase : base ≤ w.heap.size) (hL : L.length ≤ 1000000) (t : Tr) (hk : Blk w t.2.1 5 t.2.2) (hb : base ≤ t.2.1) (hne : v.ownBlock ≠ some t.2.1) (ht : -9223372036854775808 ≤ t.1 ∧ t.1 ≤ 9223372036854775807) (X : World) (hX : w.alloc (.cells (trC t).toArray 169) = X) :
    ∃ v' w', (Builtin.append_ #[115, 115] 115 #[v, .slice (some ⟨w.heap.size, 0, none⟩) 1 1]).run Tryz.prog X = .ok v' w' ∧ OwnC w' base v' (L ++ [t]) ∧ Below base w w' := by
  obtain ⟨i0, hi, hz0, hz1, hz2⟩ := info_parts ch_info
  have hXb : Below w.heap.size w X := by rw [← hX]; exact (Below.refl _ _).alloc (Nat.le_refl _) _
  have hXs : X.heap.size = w.heap.size + 1 := by rw [← hX, World.size_alloc]
  have hXn : X.heap[w.heap.size]? = some (.cells (trC t).toArray 169 (0, 0)) := by rw [← hX]; exact heap_alloc_new w _
  have hX1 := h.keep hXb
  obtain ⟨g, cap, w', hrun, hown, hgr, hat, hlt⟩ := run_append_lies (P := Tryz.prog) X 115 115 base 169 i0 _ 2 32 Tryz.underlying115 hi hz0 hz1 hz2 rfl (by omega) v L.length _ hX1.own ⟨w.heap.size, 0, none⟩ 1 1 (trC t) rfl
    (fun j u hj => by rw [addr_add, Nat.zero_add, cell_of_row X w.heap.size j _ 169 (0, 0) hXn, ← hj]; exact List.getElem?_toArray) (by intro u hu; simp [trC] at hu; rcases hu with rfl | rfl <;> rfl) (by omega) (by unfold maxLen; omega) (by omega) (by omega) _ rfl
  have hob : ∀ k, v.ownBlock = some k → base ≤ k ∧ k < w.heap.size := fun k e => by
    rcases h.own.2 with ⟨rfl, _⟩ | ⟨g, cap, cur, rfl, hbg, hg, _⟩
    · cases e
    · have : g = k := by simpa [Value.ownBlock] using e
      subst this
      exact ⟨hbg, (Array.getElem?_eq_some_iff.1 hg).1⟩
  have hgn : ∀ k, k < w.heap.size → v.ownBlock ≠ some k → g ≠ k := fun k hk hne e => by
    subst e
    rcases hat with e | e
    · exact hne e
    · omega
  have hkeep : ∀ k, k < w.heap.size → v.ownBlock ≠ some k → w'.heap[k]? = w.heap[k]? := fun k hk hne => (hgr.block k (by omega) (fun e => hne e.symm)).trans (hXb.block k hk)
  refine ⟨_, w', hrun, ⟨by rw [List.flatMap_append, List.length_append]; simpa using hown, fun u hu => ?_, fun u hu => ?_⟩, ?_⟩
  · rcases List.mem_append.1 hu with hu | hu
    · obtain ⟨u1, u2, u3⟩ := h.blk u hu
      exact ⟨(hkeep _ u1.lt u3).trans u1, u2, fun e => hgn _ u1.lt u3 (by simpa [Value.ownBlock] using e)⟩
    · simp at hu
      subst hu
      exact ⟨(hkeep _ hk.lt hne).trans hk, hb, fun e => hgn _ hk.lt hne (by simpa [Value.ownBlock] using e)⟩
  · rcases List.mem_append.1 hu with hu | hu
    · exact h.int u hu
    · simp at hu
      subst hu
      exact ht
  · exact ⟨hgr.os.trans hXb.os, hgr.tape.trans hXb.tape, hgr.output.trans hXb.output, Nat.le_trans hXb.size hgr.size, fun k hk => hkeep k (by omega) (fun e => by have := (hob k e).1; omega)⟩
end Go.Proofs.YtephmcbofcfpmaaGreat

