/- Deeds that are done one by one, till one fails. Conditions: none. Changes as arguments; writes one behind the other. Conditions: none. -/
import Derived.Test.YtephmcbofcfpmaaGreatJ08
import Derived.StillTailTactics
set_option maxRecDepth 8000
set_option linter.unusedSimpArgs false
set_option linter.unusedVariables false
namespace Go.Proofs.YtephmcbofcfpmaaGreat
open Go.RowKit Go.Bs Go.Dk

set_option maxHeartbeats 2000000 in
theorem do_any (w : World) (n : Nat) (hn : n ≤ 1000000) (q c : Nat) (fn : Nat → Nat) (fb cp : Nat → Array Value) (J : Nat → World → Prop) (Jx : Int → World → Prop)
    (ent : ∀ i, i < n → ∀ args W, (callFunc (fn i) args).run Tryz.prog W = .ok (.enter (fn i) args) W)
    (keep : ∀ i W, J i W → ∀ j, j < n → W.cell? ⟨q, j, none⟩ = some (.func (.func (fn j)) (fb j) (cp j)))
    (step : ∀ i, i < n → ∀ W, J i W → Calls Tryz.prog (fn i) (fb i ++ cp i) W fun e W' => ∃ x, e = .returned (.int .i64 x) ∧ ((x = 0 ∧ J (i + 1) W') ∨ (x ≠ 0 ∧ Jx x W')))
    (h0 : J 0 w) :
    Calls Tryz.prog 120 #[.slice (some ⟨q, 0, none⟩) n c] w fun e w' => ∃ x, e = .returned (.int .i64 x) ∧ ((x = 0 ∧ J n w') ∨ (x ≠ 0 ∧ Jx x w')) := by
  have H0 := Lib.hid h0
  clear h0
  go_enter Tryz.func120, Tryz.ntmps120
  go_wp2
  go_loopw [8] (fun i wr => ∃ k : Nat, k ≤ n ∧ i = .int .i64 k ∧ J k wr) (fun i _ => n - (RowKit.intOf i).toNat)
  case atStart => exact ⟨0, Nat.zero_le _, rfl, H0.out⟩
  case round =>
    obtain ⟨k, hk, rfl, hJ⟩ := hrel
    by_cases hlt : k < n
    · have hc := keep k wr hJ k hlt
      have HC := Lib.hid (step k hlt wr hJ)
      have hent := ent k hlt
      clear keep step hJ ent
      go_wp2_with fail
      refine HC.out.mono ?_
      rintro e w1 ⟨x, rfl, ⟨rfl, hJ⟩ | ⟨hx, hJ⟩⟩
      · have HJ := Lib.hid hJ
        clear hJ hent
        go_wp2
        exact ⟨⟨k + 1, by omega, rfl, HJ.out⟩, by simp [RowKit.intOf]; omega⟩
      · have HJ := Lib.hid hJ
        clear hJ hent
        go_wp2
        go_ret
        exact ⟨x, rfl, .inr ⟨hx, HJ.out⟩⟩
    · obtain rfl : k = n := by omega
      clear keep step ent
      have HJ := Lib.hid hJ
      clear hJ
      go_wp2
      go_ret
      exact ⟨0, rfl, .inl ⟨rfl, HJ.out⟩⟩
end Go.Proofs.YtephmcbofcfpmaaGreat

set_option maxRecDepth 8000
set_option linter.unusedSimpArgs false
set_option linter.unusedVariables false
namespace Go.Dk
open Go.RowKit Go.Bs

abbrev Ch := Int × List UInt8
def chAt (l : List Ch) (j : Nat) : Ch := l.getD j (0, [])
/-- writes one behind the other, till one fails. -/
def S.puts : S → List Ch → S × Int
  | s, [] => (s, 0)
  | s, p :: r => if (s.write p.1 p.2).2 = 0 then (s.write p.1 p.2).1.puts r else s.write p.1 p.2
theorem S.puts_append (a b : List Ch) (s : S) : s.puts (a ++ b) = if (s.puts a).2 = 0 then (s.puts a).1.puts b else s.puts a := by
  induction a generalizing s with
  | nil => simp [S.puts]
  | cons x a ih =>
    show (if (s.write x.1 x.2).2 = 0 then (s.write x.1 x.2).1.puts (a ++ b) else s.write x.1 x.2) = _
    by_cases h : (s.write x.1 x.2).2 = 0
    · rw [if_pos h, ih]
      simp only [S.puts, if_pos h]
    · rw [if_neg h]
      simp only [S.puts, if_neg h]
theorem S.puts_snoc (a : List Ch) (x : Ch) (s s' : S) (h : s.puts a = (s', 0)) : s.puts (a ++ [x]) = s'.write x.1 x.2 := by
  rw [S.puts_append, h, if_pos rfl]
  show (if _ then _ else _) = _
  by_cases h2 : (s'.write x.1 x.2).2 = 0
  · rw [if_pos h2]
    show ((s'.write x.1 x.2).1, (0 : Int)) = _
    rw [← h2]
  · rw [if_neg h2]
theorem S.puts_stop (a b : List Ch) (s : S) (h : (s.puts a).2 ≠ 0) : s.puts (a ++ b) = s.puts a := by rw [S.puts_append, if_neg h]
theorem S.crash_sz (s : S) (ks : List Bool) : (s.crash ks).sectors = s.sectors ∧ (s.crash ks).bytes = s.bytes := by unfold S.crash; split <;> exact ⟨rfl, rfl⟩
theorem S.deed_sz (s : S) : s.deed.1.sectors = s.sectors ∧ s.deed.1.bytes = s.bytes := by
  unfold S.deed
  split
  · exact ⟨rfl, rfl⟩
  · split
    · exact S.crash_sz _ _
    · exact ⟨rfl, rfl⟩
theorem S.write_sz (s : S) (i : Int) (b : List UInt8) : (s.write i b).1.sectors = s.sectors ∧ (s.write i b).1.bytes = s.bytes := by
  unfold S.write
  split
  · exact ⟨rfl, rfl⟩
  · split
    · exact ⟨rfl, rfl⟩
    · exact S.deed_sz _
theorem S.flush_sz (s : S) : s.flush.1.sectors = s.sectors ∧ s.flush.1.bytes = s.bytes := by
  unfold S.flush
  split
  · exact ⟨rfl, rfl⟩
  · split
    · exact S.deed_sz s
    · exact S.deed_sz s
end Go.Dk

namespace Go.Proofs.YtephmcbofcfpmaaGreat
open Go.RowKit Go.Bs Go.Dk

/-- a slice of changes, in the blocks of K. -/
structure Chs (w : World) (A : Option Addr) (n c : Nat) (l : List Ch) (K : Nat → Prop) : Prop where
  len : l.length = n
  cap : n ≤ c
  lt : ∀ k, K k → k < w.heap.size
  at_ : ∀ j, j < n → ∃ q o B m cc, A = some ⟨q, o, none⟩ ∧ K q ∧ w.cell? ⟨q, o + j * 2, none⟩ = some (.int .i64 (chAt l j).1) ∧ w.cell? ⟨q, o + j * 2 + 1, none⟩ = some (.slice B m cc) ∧
    (-9223372036854775808 ≤ (chAt l j).1 ∧ (chAt l j).1 ≤ 9223372036854775807) ∧ (0 < m → ∀ a, B = some a → K a.block) ∧ Rd w B m cc (chAt l j).2
theorem rd_keepC {w w' : World} {A : Option Addr} {n c : Nat} {bs : List UInt8} (h : Rd w A n c bs) (hs : w.heap.size ≤ w'.heap.size) (hk : 0 < n → ∀ a, A = some a → w'.heap[a.block]? = w.heap[a.block]?) : Rd w' A n c bs :=
  ⟨h.len, h.cap, fun hn => by
    obtain ⟨g, o, e, hg, hc⟩ := h.cells hn
    exact ⟨g, o, e, by omega, fun j hj => (World.cell?_of_block (a := ⟨g, o + j, none⟩) (hk hn ⟨g, o, none⟩ e)).trans (hc j hj)⟩⟩
theorem Chs.keep {w w' : World} {A : Option Addr} {n c : Nat} {l : List Ch} {K : Nat → Prop} (h : Chs w A n c l K) (hs : w.heap.size ≤ w'.heap.size) (hk : ∀ k, K k → w'.heap[k]? = w.heap[k]?) : Chs w' A n c l K :=
  ⟨h.len, h.cap, fun k hk => Nat.lt_of_lt_of_le (h.lt k hk) hs, fun j hj => by
    obtain ⟨q, o, B, m, cc, e, hq, h1, h2, h3, h4, h5⟩ := h.at_ j hj
    exact ⟨q, o, B, m, cc, e, hq, (World.cell?_of_block (a := ⟨q, o + j * 2, none⟩) (hk q hq)).trans h1, (World.cell?_of_block (a := ⟨q, o + j * 2 + 1, none⟩) (hk q hq)).trans h2, h3, h4, rd_keepC h5 hs fun hm a ea => hk _ (h4 hm a ea)⟩⟩
theorem Chs.fr {w w' : World} {A : Option Addr} {n c : Nat} {l : List Ch} {K D : Nat → Prop} (h : Chs w A n c l K) (hf : Fr D w w') (hKD : ∀ k, K k → ¬ D k) : Chs w' A n c l K :=
  h.keep hf.size fun k hk => hf.block k (h.lt k hk) (hKD k hk)
theorem Chs.below {w w' : World} {A : Option Addr} {n c : Nat} {l : List Ch} {K : Nat → Prop} (h : Chs w A n c l K) (hb : Below w.heap.size w w') : Chs w' A n c l K :=
  h.keep hb.size fun k hk => hb.block k (h.lt k hk)

/-- what deeds on the wal at p leave; its own block stays. -/
def Wd (D : Nat → Prop) (p g : Nat) (s : S) (log : Nat) (down : Bool) (w w' : World) : Prop := ∃ D', WalAt w' p g s log down D' ∧ (∀ k, D' k → D k ∨ w.heap.size ≤ k) ∧ Fr D w w'
theorem WalAt.did {w w1 w2 : World} {p g : Nat} {s s' : S} {log : Nat} {down : Bool} {D D1 : Nat → Prop} (h : WalAt w1 p g s log down D1) (h1 : ∀ k, D1 k → D k ∨ w.heap.size ≤ k) (hf : Fr D w w1) (hd : Did D1 g s' w1 w2) (hz : s'.sectors = s.sectors ∧ s'.bytes = s.bytes) : Wd D p g s' log down w w2 := by
  obtain ⟨D2, h3, h4, h5⟩ := hd
  have hp := (Array.getElem?_eq_some_iff.1 h.row).1
  refine ⟨D2, ⟨(h5.block p hp h.pD).trans h.row, h3, fun hd => ?_, h.l0, by rw [hz.1]; exact h.l1, by rw [hz.2]; exact h.l2⟩, fun k hk => ?_, hf.step h5 h1⟩
  · rcases h4 p hd with h | h'
    · exact ‹WalAt w1 p g s log down D1›.pD h
    · omega
  · rcases h4 k hk with h' | h'
    · exact h1 k h'
    · exact .inr (Nat.le_trans hf.size h')

def logL (l : List Ch) : List Ch := l.mapIdx fun k c => (1 + (k : Int), c.2)
def blkL (log : Nat) (l : List Ch) : List Ch := l.map fun c => (1 + (log : Int) + c.1, c.2)
theorem logL_take (l : List Ch) (k : Nat) (hk : k < l.length) : (logL l).take (k + 1) = (logL l).take k ++ [(1 + (k : Int), (chAt l k).2)] := by
  rw [List.take_succ_eq_append_getElem (by simpa [logL] using hk)]
  simp [logL, chAt, List.getD, List.getElem?_eq_getElem hk]
theorem blkL_take (log : Nat) (l : List Ch) (k : Nat) (hk : k < l.length) : (blkL log l).take (k + 1) = (blkL log l).take k ++ [(1 + (log : Int) + (chAt l k).1, (chAt l k).2)] := by
  rw [List.take_succ_eq_append_getElem (by simpa [blkL] using hk)]
  simp [blkL, chAt, List.getD, List.getElem?_eq_getElem hk]
end Go.Proofs.YtephmcbofcfpmaaGreat

