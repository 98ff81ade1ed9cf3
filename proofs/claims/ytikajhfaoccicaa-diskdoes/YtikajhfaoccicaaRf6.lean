/- The document's disk: New, May. Conditions: none. -/
import Derived.Test.YtikajhfaoccicaaRf5
namespace Go.Proofs.Ytikajhfaoccicaa
open Go.RowKit Go.Bs Go.Dk

theorem string_info : (Try.prog.info? 9).map (fun i => (i.zero, i.size, i.bytes)) = some (some (.string ⟨#[]⟩), 1, 16) := by kernel_rfl
def nw (m : Nat) (Lv : Value) : Array Value := rc (S.new 1 m) Lv (.slice none 0 0) (.slice none 0 0)

set_option maxRecDepth 100000 in
set_option maxHeartbeats 4000000 in
theorem rNew_any (w : World) (n m : Nat) (hn0 : 1 ≤ n) (hn : n ≤ 65536) (hm0 : 16 ≤ m) (hm : m ≤ 4096) :
    Calls Try.prog 12 #[.int .i64 (n : Int), .int .i64 (m : Int)] w fun e w' => ∃ r D, e = .returned (.pointer (some ⟨r, 0, none⟩)) ∧ RefAt w' r (S.new n m) D ∧ (∀ k, D k → w.heap.size ≤ k) ∧ Below w.heap.size w w' := by
  obtain ⟨r, hr⟩ : ∃ r, w.heap.size = r := ⟨_, rfl⟩
  obtain ⟨W, hW⟩ : ∃ W, w.alloc (.cells (nw m (.slice none 0 0)) 49) = W := ⟨_, rfl⟩
  have hWr : W.heap[r]? = some (.cells (nw m (.slice none 0 0)) 49 (0, 0)) := by rw [← hW, ← hr]; exact heap_alloc_new w _
  have hWb : Below w.heap.size w W := by rw [← hW]; exact (Below.refl _ _).alloc (Nat.le_refl _) _
  have HWR := Lib.hid hWr
  have HWB := Lib.hid hWb
  have HS := Lib.hid hr
  have HWS : Hid (W.heap.size = r + 1) := by show W.heap.size = r + 1; rw [← hW, World.size_alloc, hr]
  have hW' : w.alloc (.cells #[.int .i64 (m : Int), .slice none 0 0, .slice none 0 0, .bool true, .int .i64 0, .slice none 0 0, .int .i64 0] 49) = W := hW
  clear hWr hWb hW
  go_enter Try.func12, Try.ntmps12
  go_wp2
  go_loopw [6] (fun i wr => ∃ k : Nat, k ≤ n ∧ i = .int .i64 k ∧ r + 1 ≤ wr.heap.size ∧ Below r w wr ∧ ∃ A cap, wr.heap[r]? = some (.cells (nw m (.slice A k cap)) 49 (0, 0)) ∧ lS wr (.slice A k cap) k (fun _ => zeros m) ∧ ∀ j, Value.ownBlock (.slice A k cap) = some j → r < j ∧ j < wr.heap.size) (fun i _ => n - (intOf i).toNat)
  case atStart => exact ⟨0, Nat.zero_le _, rfl, by rw [HWS.out]; exact Nat.le_refl _, by rw [← HS.out]; exact HWB.out, none, 0, HWR.out, ⟨rfl, .inl ⟨rfl, rfl⟩⟩, fun j e => by cases e⟩
  case round =>
    obtain ⟨k, hk, rfl, hsz, hB, A, cap, hrow, hL, hown⟩ := hrel
    obtain ⟨_, d1, _, _, _, _, _, df⟩ := rc_cells hrow
    have df1 := df 1
    by_cases hlt : k < n
    · obtain ⟨z, hz⟩ : ∃ z, wr.heap.size = z := ⟨_, rfl⟩
      have hmk := make_zeros m (by omega) wr.drew
      obtain ⟨X1, hX1⟩ : ∃ X1, wr.drew.alloc (rowObj 5 (zeros m)) = X1 := ⟨_, rfl⟩
      have hX1b : Below z wr X1 := by rw [← hX1, ← hz]; exact (Below.refl _ wr).drew.alloc (Nat.le_refl _) _
      have hX1s : X1.heap.size = z + 1 := by rw [← hX1, World.size_alloc, ← hz]; rfl
      have hst := string_rd X1 (some ⟨z, 0, none⟩) m m (zeros m) (by rw [← hX1, ← hz]; exact (Blk.new wr.drew 5 (zeros m)).all' m m (zeros_length m) (Nat.le_refl _))
      obtain ⟨X2, hX2⟩ : ∃ X2, X1.alloc (.cells #[.string ⟨(zeros m).toArray⟩] 9) = X2 := ⟨_, rfl⟩
      have hX2b : Below z wr X2 := by rw [← hX2]; exact hX1b.alloc (by omega) _
      have hX2s : X2.heap.size = z + 2 := by rw [← hX2, World.size_alloc, hX1s]
      have hX2n : X2.heap[z + 1]? = some (.cells #[.string ⟨(zeros m).toArray⟩] 9 (0, 0)) := by rw [← hX2, ← hX1s]; exact heap_alloc_new X1 _
      have hcX := ownsRow_keepB (w' := X2) hL fun j e => hX2b.block j (by have := (hown j e).2; omega)
      obtain ⟨i0, hi, hz0, hz1, hz2⟩ := info_parts string_info
      obtain ⟨g', cap', w4, hrun, hown4, hgr4, hat, hlt4⟩ := run_append_lies (P := Try.prog) X2 46 46 0 9 i0 _ 1 16 Try.underlying46 hi hz0 hz1 hz2 rfl (by omega) (.slice A k cap) k _ hcX ⟨z + 1, 0, none⟩ 1 1 [.string ⟨(zeros m).toArray⟩] rfl
        (fun j u hj => by rw [addr_add, Nat.zero_add, cell_of_row X2 (z + 1) j _ 9 (0, 0) hX2n, ← hj]; exact List.getElem?_toArray) (by simp [Value.oneCell']) (by omega) (by unfold maxLen; omega) (by omega) (by omega) _ hX2s
      have hrX : ∀ i, X2.cell? ⟨r, i, none⟩ = wr.cell? ⟨r, i, none⟩ := fun i => hX2b.cell (p := ⟨r, i, none⟩) (by show r < z; omega)
      have hrX1 : ∀ i, X1.cell? ⟨r, i, none⟩ = wr.cell? ⟨r, i, none⟩ := fun i => hX1b.cell (p := ⟨r, i, none⟩) (by show r < z; omega)
      have e1 := (hrX1 1).trans d1
      have e2 := (hrX 1).trans d1
      have hrow4 : w4.heap[r]? = some (.cells (nw m (.slice A k cap)) 49 (0, 0)) := (hgr4.block r (by omega) (fun e => by have := (hown r e.symm).1; omega)).trans ((hX2b.block r (by omega)).trans hrow)
      obtain ⟨_, f1, _, _, _, _, _, ff⟩ := rc_cells hrow4
      have ff1 := ff 1
      have hrow5 := rc_set hrow4 1 (.slice (some ⟨g', 0, none⟩) (k + 1) cap') (S.new 1 m) (.slice (some ⟨g', 0, none⟩) (k + 1) cap') _ _ rfl
      have hg'r : r < g' := by
        rcases hat with e | e
        · exact (hown g' e).1
        · omega
      have hgs := hgr4.size
      have HR5 := Lib.hid hrow5
      have HL5 : Hid (lS (w4.setCell ⟨r, 1, none⟩ (.slice (some ⟨g', 0, none⟩) (k + 1) cap')) (.slice (some ⟨g', 0, none⟩) (k + 1) cap') (k + 1) (fun _ => zeros m)) := by
        unfold lS Hid
        rw [List.range_succ, List.map_append]
        exact ownsRow_keepB hown4 fun j e => setCell_other _ _ _ _ _ (by
          have e' : g' = j := by simpa [Value.ownBlock] using e
          omega)
      have HB5 : Hid (Below r w (w4.setCell ⟨r, 1, none⟩ (.slice (some ⟨g', 0, none⟩) (k + 1) cap'))) := by
        show Below _ _ _
        refine (hB.trans (hX2b.mono (by omega))).trans ?_
        refine Below.trans (b := w4) ⟨hgr4.os, hgr4.tape, hgr4.output, hgr4.size, fun j hj => hgr4.block j (by omega) (fun e => by have := (hown j e.symm).1; omega)⟩ ?_
        exact ⟨rfl, rfl, rfl, by rw [setCell_size]; exact Nat.le_refl _, fun j hj => setCell_other _ _ _ _ _ (by omega)⟩
      have HS5 : Hid (r + 1 ≤ (w4.setCell ⟨r, 1, none⟩ (.slice (some ⟨g', 0, none⟩) (k + 1) cap')).heap.size) := by show _ ≤ _; rw [setCell_size]; omega
      have HG5 : Hid (r < g' ∧ g' < (w4.setCell ⟨r, 1, none⟩ (.slice (some ⟨g', 0, none⟩) (k + 1) cap')).heap.size) := by show _ ∧ _; rw [setCell_size]; exact ⟨hg'r, hlt4⟩
      have hrun' : ∀ ty, (Builtin.append_ #[46, 46] ty #[.slice A k cap, .slice (some ⟨z + 1, 0, none⟩) 1 1]).run Try.prog X2 = .ok (.slice (some ⟨g', 0, none⟩) (k + 1) cap') w4 := fun _ => hrun
      have HRUN := Lib.hid hrun'
      have hmk' : (Instr.makeSlice 32 (.int .i64 (m : Int)) (.int .i64 (m : Int))).run Try.prog wr.drew = .ok (.slice (some ⟨z, 0, none⟩) m m) X1 := by rw [← hX1, ← hz]; exact hmk
      have hX1s' := hX1s
      clear hrun hrun' hown4 hgr4 hat hlt4 hrX hrX1 hrow4 ff hrow5 hcX hX2n hX2s hX2b hX1b hmk hi hz0 hz1 hz2 hL hrow df hB hown hgs hX1 hg'r hX1s
      go_wp2_with fail
      go_region_law (refine step_app rfl (.tmp 19) (.tmp 23) 46 rfl _ _ _ _ (by simp [Act.eval, Act.put]) (by simp [Act.eval, Act.put]) HRUN.out ?_)
      all_goals (go_wp2; go_roundw)
      all_goals first
        | exact ⟨k + 1, by omega, by go_num, HS5.out, HB5.out, some ⟨g', 0, none⟩, cap', HR5.out, HL5.out, fun j e => by
            have e' : g' = j := by simpa [Value.ownBlock] using e
            subst e'
            exact HG5.out⟩
        | (simp [intOf]; omega)
    · obtain rfl : k = n := by omega
      have hs' := HS.out
      have HE : Hid (RefAt wr r (S.new k m) (fun j => r ≤ j ∧ j < wr.heap.size)) := by
        refine ⟨.slice A k cap, .slice none 0 0, .slice none 0 0, [], [], S.Ok.new k m hn0 hn hm0 hm, hrow, hL, fun j e => ⟨⟨by have := (hown j e).1; omega, (hown j e).2⟩, by have := (hown j e).1; omega⟩, ⟨rfl, .inl ⟨rfl, rfl⟩⟩, fun j e => (by cases e), rfl, fun i hi => absurd hi (by simp [S.new]), ⟨none, 0, rfl, RdQ.nil _ _ _, fun a e => (by cases e)⟩, .inl rfl, ⟨Nat.le_refl _, by omega⟩, fun j hd => hd.2⟩
      have HB := Lib.hid hB
      clear hL hrow df hB hown
      go_wp2
      go_ret
      exact ⟨r, _, rfl, HE.out, fun j hd => by rw [hs']; exact hd.1, by rw [hs']; exact HB.out⟩

def may (a b : Int) : Bool := decide (1 ≤ a) && decide (a ≤ 65536) && decide (16 ≤ b) && decide (b ≤ 4096)
set_option maxHeartbeats 2000000 in
theorem May_any (w : World) (a b : Int) : Calls Try.prog 9 #[.int .i64 a, .int .i64 b] w fun e w' => e = .returned (.bool (may a b)) ∧ w = w' := by
  by_cases h1 : 1 ≤ a
  · by_cases h2 : a ≤ 65536
    · by_cases h3 : 16 ≤ b
      · by_cases h4 : b ≤ 4096
        · have HE : Hid (may a b = true) := by simp [Hid, may, h1, h2, h3, h4]
          go_enter Try.func9, Try.ntmps9
          go_wp2
          go_ret
          rw [HE.out]
          exact ⟨rfl, rfl⟩
        · have HE : Hid (may a b = false) := by simp [Hid, may, h4]
          go_enter Try.func9, Try.ntmps9
          go_wp2
          go_ret
          rw [HE.out]
          exact ⟨rfl, rfl⟩
      · have HE : Hid (may a b = false) := by simp [Hid, may, h3]
        go_enter Try.func9, Try.ntmps9
        go_wp2
        go_ret
        rw [HE.out]
        exact ⟨rfl, rfl⟩
    · have HE : Hid (may a b = false) := by simp [Hid, may, h2]
      go_enter Try.func9, Try.ntmps9
      go_wp2
      go_ret
      rw [HE.out]
      exact ⟨rfl, rfl⟩
  · have HE : Hid (may a b = false) := by simp [Hid, may, h1]
    go_enter Try.func9, Try.ntmps9
    go_wp2
    go_ret
    rw [HE.out]
    exact ⟨rfl, rfl⟩
end Go.Proofs.Ytikajhfaoccicaa
