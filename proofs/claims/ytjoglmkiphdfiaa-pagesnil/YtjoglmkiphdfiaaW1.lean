/- A wal in memory; what is asked of it without a change. Conditions: none. -/
import Derived.Test.YtjoglmkiphdfiaaD8
set_option maxRecDepth 8000
namespace Go.Proofs.Ytjoglmkiphdfiaa
open Go.RowKit Go.Bs Go.Dk

def wc (g log : Nat) (down : Bool) : Array Value := #[.pointer (some ⟨g, 0, none⟩), .int .i64 (log : Int), .bool down]
theorem wc_cells {w : World} {p g log : Nat} {down : Bool} (h : w.heap[p]? = some (.cells (wc g log down) 77 (0, 0))) :
    w.cell? ⟨p, 0, none⟩ = some (.pointer (some ⟨g, 0, none⟩)) ∧ w.cell? ⟨p, 1, none⟩ = some (.int .i64 (log : Int)) ∧ w.cell? ⟨p, 2, none⟩ = some (.bool down) ∧ ∀ i, w.frozen? ⟨p, i, none⟩ = false := by
  refine ⟨?_, ?_, ?_, fun i => by simp [World.frozen?, h]⟩ <;> (rw [cell_of_row w p _ _ 77 (0, 0) h]; rfl)

structure WalAt (w : World) (p g : Nat) (s : S) (log : Nat) (down : Bool) (D : Nat → Prop) : Prop where
  row : w.heap[p]? = some (.cells (wc g log down) 77 (0, 0))
  disk : DiskAt w g s D
  pD : ¬ D p
  l0 : 1 ≤ log
  l1 : log + 1 < s.sectors
  l2 : 3 + 3 * log ≤ s.bytes
theorem WalAt.below {w w' : World} {p g : Nat} {s : S} {log : Nat} {down : Bool} {D : Nat → Prop} (h : WalAt w p g s log down D) (hb : Below w.heap.size w w') : WalAt w' p g s log down D :=
  ⟨(hb.block p (Array.getElem?_eq_some_iff.1 h.row).1).trans h.row, h.disk.below hb, h.pD, h.l0, h.l1, h.l2⟩
/-- how many blocks. -/
def nbl (s : S) (log : Nat) : Nat := s.sectors - 1 - log

theorem wready_any (w : World) (p g log : Nat) (down : Bool) (h : w.heap[p]? = some (.cells (wc g log down) 77 (0, 0))) :
    Calls Try.prog 46 #[.pointer (some ⟨p, 0, none⟩)] w fun e w' => e = .returned (.int .i64 (if down then 50 else 0)) ∧ w = w' := by
  obtain ⟨_, _, c2, _⟩ := wc_cells h
  clear h
  cases down
  · go_enter Try.func46, Try.ntmps46
    go_wp2
    go_ret
    exact ⟨rfl, rfl⟩
  · go_enter Try.func46, Try.ntmps46
    go_wp2
    go_ret
    exact ⟨rfl, rfl⟩
theorem wready_nil (w : World) : Calls Try.prog 46 #[.pointer none] w fun e w' => e = .returned (.int .i64 3) ∧ w = w' := by
  go_enter Try.func46, Try.ntmps46
  go_wp2
  go_ret
  exact ⟨rfl, rfl⟩
theorem wSize_nil (w : World) : Calls Try.prog 24 #[.pointer none] w fun e w' => e = .returned (.tuple #[.int .i64 0, .int .i64 0]) ∧ w = w' := by
  go_enter Try.func24, Try.ntmps24
  go_wp2
  go_ret2
  exact ⟨rfl, rfl⟩
set_option maxHeartbeats 1000000 in
theorem wSize_any (w : World) (p g : Nat) (s : S) (log : Nat) (down : Bool) (D : Nat → Prop) (h : WalAt w p g s log down D) :
    Calls Try.prog 24 #[.pointer (some ⟨p, 0, none⟩)] w fun e w' => e = .returned (.tuple #[.int .i64 (nbl s log : Int), .int .i64 (s.bytes : Int)]) ∧ ∃ k, w' = w.drewN k := by
  obtain ⟨c0, c1, _, _⟩ := wc_cells h.row
  have HS := Lib.hid (Size_any w g s D h.disk)
  have h1 := h.l1
  have hs := h.disk.ok.s1
  obtain ⟨n, hn⟩ : ∃ n, nbl s log = n := ⟨_, rfl⟩
  obtain ⟨sc, hsc⟩ : ∃ sc, s.sectors = sc := ⟨_, rfl⟩
  obtain ⟨by_, hby⟩ : ∃ by_, s.bytes = by_ := ⟨_, rfl⟩
  have hnn : (n : Int) = (sc : Int) - 1 - (log : Int) := by unfold nbl at hn; omega
  rw [hsc] at hs h1
  rw [hsc, hby] at HS
  rw [hn, hby, hnn]
  clear h hn hsc hby hnn
  go_enter Try.func24, Try.ntmps24
  go_wp2_with fail
  refine HS.out.mono ?_
  rintro e w1 ⟨rfl, k, rfl⟩
  have c1' : (w.drewN k).cell? ⟨p, 1, none⟩ = some (.int .i64 (log : Int)) := by rw [← c1]; rfl
  go_wp2
  go_ret2
  exact ⟨rfl, k, rfl⟩

set_option maxHeartbeats 1000000 in
theorem whas_any (w : World) (p g : Nat) (s : S) (log : Nat) (down : Bool) (D : Nat → Prop) (h : WalAt w p g s log down D) (i : Int) :
    Calls Try.prog 47 #[.pointer (some ⟨p, 0, none⟩), .int .i64 i] w fun e w' => e = .returned (.bool (decide (0 ≤ i) && decide (i < (nbl s log : Int)))) ∧ ∃ k, w' = w.drewN k := by
  have HS := Lib.hid (wSize_any w p g s log down D h)
  obtain ⟨n, hn⟩ : ∃ n, nbl s log = n := ⟨_, rfl⟩
  rw [hn] at HS ⊢
  clear h hn
  by_cases h0 : 0 ≤ i
  · by_cases h1 : i < (n : Int)
    · go_enter Try.func47, Try.ntmps47
      go_wp2_with fail
      refine HS.out.mono ?_
      rintro e w1 ⟨rfl, k, rfl⟩
      go_wp2
      go_ret
      exact ⟨by simp [h0, h1], k, rfl⟩
    · go_enter Try.func47, Try.ntmps47
      go_wp2_with fail
      refine HS.out.mono ?_
      rintro e w1 ⟨rfl, k, rfl⟩
      go_wp2
      go_ret
      exact ⟨by simp [h0, h1], k, rfl⟩
  · go_enter Try.func47, Try.ntmps47
    go_wp2_with fail
    refine HS.out.mono ?_
    rintro e w1 ⟨rfl, k, rfl⟩
    go_wp2
    go_ret
    exact ⟨by simp; omega, k, rfl⟩
theorem sector_any (w : World) (p g log : Nat) (down : Bool) (h : w.heap[p]? = some (.cells (wc g log down) 77 (0, 0))) (hl : log ≤ 65536) (i : Int) (hi : -9000000000000000000 ≤ i ∧ i ≤ 9000000000000000000) :
    Calls Try.prog 49 #[.pointer (some ⟨p, 0, none⟩), .int .i64 i] w fun e w' => e = .returned (.int .i64 (1 + (log : Int) + i)) ∧ w = w' := by
  obtain ⟨_, c1, _, _⟩ := wc_cells h
  clear h
  go_enter Try.func49, Try.ntmps49
  go_wp2
  go_ret
  exact ⟨rfl, rfl⟩
theorem wc_set {w : World} {p g log : Nat} {down : Bool} (h : w.heap[p]? = some (.cells (wc g log down) 77 (0, 0))) (b : Bool) :
    (w.setCell ⟨p, 2, none⟩ (.bool b)).heap[p]? = some (.cells (wc g log b) 77 (0, 0)) := by
  rw [setCell_eq_setRow w p 2 _ 77 (0, 0) _ h, setRow_heap w p _ _ 77 _ h]
  rfl
theorem heed_any (w : World) (p g log : Nat) (down : Bool) (h : w.heap[p]? = some (.cells (wc g log down) 77 (0, 0))) (x : Int) :
    Calls Try.prog 50 #[.pointer (some ⟨p, 0, none⟩), .int .i64 x] w fun e w' => e = .returned (.int .i64 x) ∧ w' = w.setCell ⟨p, 2, none⟩ (.bool (x == 50)) := by
  obtain ⟨_, _, c2, hf⟩ := wc_cells h
  have hf2 := hf 2
  clear h hf
  by_cases hx : x = 50
  · subst hx
    go_enter Try.func50, Try.ntmps50
    go_wp2
    go_ret
    exact ⟨rfl, rfl⟩
  · go_enter Try.func50, Try.ntmps50
    go_wp2
    go_ret
    exact ⟨rfl, rfl⟩
/-- whether a log has room. -/
def may (s : S) (log : Int) : Bool := decide (1 ≤ log) && decide (log < (s.sectors : Int) - 1) && decide (3 + 3 * log ≤ (s.bytes : Int))
set_option maxHeartbeats 1000000 in
theorem fits_any (w : World) (g : Nat) (s : S) (D : Nat → Prop) (h : DiskAt w g s D) (log : Int) :
    Calls Try.prog 42 #[.pointer (some ⟨g, 0, none⟩), .int .i64 log] w fun e w' => e = .returned (.bool (may s log)) ∧ ∃ k, w' = w.drewN k := by
  have HS := Lib.hid (Size_any w g s D h)
  have h1 := h.ok.s1
  have h0 := h.ok.s0
  have h2 := h.ok.b1
  unfold may
  obtain ⟨sc, hsc⟩ : ∃ sc, s.sectors = sc := ⟨_, rfl⟩
  obtain ⟨by_, hby⟩ : ∃ by_, s.bytes = by_ := ⟨_, rfl⟩
  rw [hsc, hby] at HS ⊢
  rw [hsc] at h1 h0
  rw [hby] at h2
  have hw1 : IntKind.i64.wrap ((sc : Int) - 1) = (sc : Int) - 1 := IntWalk.i64_in _ (by omega)
  clear h hsc hby
  by_cases c1 : 1 ≤ log
  · by_cases c2 : log < (sc : Int) - 1
    · by_cases c3 : 3 + 3 * log ≤ (by_ : Int)
      · go_enter Try.func42, Try.ntmps42
        go_wp2_with fail
        refine HS.out.mono ?_
        rintro e w1 ⟨rfl, k, rfl⟩
        go_wp2
        go_ret
        exact ⟨by simp [c1, c2, c3], k, rfl⟩
      · go_enter Try.func42, Try.ntmps42
        go_wp2_with fail
        refine HS.out.mono ?_
        rintro e w1 ⟨rfl, k, rfl⟩
        go_wp2
        go_ret
        exact ⟨by simp [c1, c2, c3], k, rfl⟩
    · go_enter Try.func42, Try.ntmps42
      go_wp2_with fail
      refine HS.out.mono ?_
      rintro e w1 ⟨rfl, k, rfl⟩
      go_wp2
      go_ret
      exact ⟨by simp; omega, k, rfl⟩
  · go_enter Try.func42, Try.ntmps42
    go_wp2_with fail
    refine HS.out.mono ?_
    rintro e w1 ⟨rfl, k, rfl⟩
    go_wp2
    go_ret
    exact ⟨by simp; omega, k, rfl⟩
end Go.Proofs.Ytjoglmkiphdfiaa
