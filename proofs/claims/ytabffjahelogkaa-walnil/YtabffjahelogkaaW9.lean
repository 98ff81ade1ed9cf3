/- What is left to do behind a commit that is set. Conditions: none. -/
import Derived.Test.YtabffjahelogkaaW8
namespace Go.Proofs.Ytabffjahelogkaa
open Go.RowKit Go.Bs Go.Dk

set_option maxHeartbeats 2000000 in
theorem finish_any (w : World) (p g : Nat) (s : S) (log : Nat) (down : Bool) (D : Nat → Prop) (h : WalAt w p g s log down D) (A : Option Addr) (n c : Nat) :
    Calls Try.prog 31 #[.pointer (some ⟨p, 0, none⟩), .slice A n c] w fun e w' => ∃ q b1 b2, e = .returned (.slice (some ⟨q, 0, none⟩) 4 4) ∧ Below w.heap.size w w' ∧ w.heap.size ≤ q ∧ w.heap.size ≤ b1 ∧ w.heap.size ≤ b2 ∧
      w'.heap[q]? = some (.cells #[.func (.func 38) #[] #[.pointer (some ⟨b1, 0, none⟩), .pointer (some ⟨b2, 0, none⟩)], .func (.func 27) #[.pointer (some ⟨g, 0, none⟩)] #[], .func (.func 40) #[.pointer (some ⟨p, 0, none⟩)] #[], .func (.func 27) #[.pointer (some ⟨g, 0, none⟩)] #[]] 40 (0, 0)) ∧
      w'.cell? ⟨b1, 0, none⟩ = some (.pointer (some ⟨p, 0, none⟩)) ∧ w'.cell? ⟨b2, 0, none⟩ = some (.slice A n c) := by
  obtain ⟨z, hz⟩ : ∃ z, w.heap.size = z := ⟨_, rfl⟩
  obtain ⟨W1, hW1⟩ : ∃ W1, w.alloc (.cells #[.pointer (some ⟨p, 0, none⟩)] 23) = W1 := ⟨_, rfl⟩
  have hs1 : W1.heap.size = z + 1 := by rw [← hW1, World.size_alloc, hz]
  have hb1 : Below w.heap.size w W1 := by rw [← hW1]; exact (Below.refl _ _).alloc (Nat.le_refl _) _
  have hn1 : W1.heap[z]? = some (.cells #[.pointer (some ⟨p, 0, none⟩)] 23 (0, 0)) := by rw [← hW1, ← hz]; exact heap_alloc_new w _
  obtain ⟨W2, hW2⟩ : ∃ W2, W1.alloc (.cells #[.slice A n c] 22) = W2 := ⟨_, rfl⟩
  have hs2 : W2.heap.size = z + 2 := by rw [← hW2, World.size_alloc, hs1]
  have hb12 : Below W1.heap.size W1 W2 := by rw [← hW2]; exact (Below.refl _ _).alloc (Nat.le_refl _) _
  have hb2 : Below w.heap.size w W2 := bstep hb1 hb12
  have hn2 : W2.heap[z + 1]? = some (.cells #[.slice A n c] 22 (0, 0)) := by rw [← hW2, ← hs1]; exact heap_alloc_new W1 _
  have hn2' : W2.heap[z]? = some (.cells #[.pointer (some ⟨p, 0, none⟩)] 23 (0, 0)) := (hb12.block z (by omega)).trans hn1
  have x0 : W2.cell? ⟨z, 0, none⟩ = some (.pointer (some ⟨p, 0, none⟩)) := by rw [cell_of_row W2 z _ _ 23 (0, 0) hn2']; rfl
  have x1 : W2.cell? ⟨z + 1, 0, none⟩ = some (.slice A n c) := by rw [cell_of_row W2 (z + 1) _ _ 22 (0, 0) hn2]; rfl
  have x2 := (wc_cells (h.below hb2).row).1
  have HB2 := Lib.hid hb2
  clear h hb1 hn1 hb12 hb2 hn2 hn2'
  have hmf : ∀ (fn : Fn) (first cap : Array Value) (w : World), (Instr.makeFunc fn first cap).run Try.prog w = .ok (.func fn first cap) w := fun _ _ _ _ => rfl
  go_enter Try.func31, Try.ntmps31
  go_wp2_with fail
  go_still_tail 13, mixed
  go_wp2
  go_ret
  refine ⟨z + 2, z, z + 1, rfl, ?_, by omega, by omega, by omega, ?_, ?_, ?_⟩
  · exact HB2.out.drew.alloc HB2.out.size _
  · rw [← hs2]; exact heap_alloc_new W2.drew _
  · exact (((Below.refl _ W2).drew.alloc (Nat.le_refl _) _).cell (p := ⟨z, 0, none⟩) (by show z < W2.heap.size; omega)).trans x0
  · exact (((Below.refl _ W2).drew.alloc (Nat.le_refl _) _).cell (p := ⟨z + 1, 0, none⟩) (by show z + 1 < W2.heap.size; omega)).trans x1

def finL (log : Nat) (l : List Ch) : List Dd1 := [fun s => s.puts (blkL log l), S.flush, fun s => s.write 0 (zeros s.bytes), S.flush]
def comL (log : Nat) (l : List Ch) : List Dd1 := [fun s => s.puts (logL l), S.flush, fun s => s.write 0 (cmt s.bytes l), S.flush] ++ finL log l
theorem logL_length (l : List Ch) : (logL l).length = l.length := by simp [logL]
theorem blkL_length (log : Nat) (l : List Ch) : (blkL log l).length = l.length := by simp [blkL]
theorem comL_good (log : Nat) (l : List Ch) (M : Nat) (h : l.length + 1 ≤ M) : ∀ i, i < 8 → GoodD M (dAt (comL log l) i) := by
  intro i hi
  match i, hi with
  | 0, _ => exact puts_good (logL l) M (by rw [logL_length]; omega)
  | 1, _ => exact flush_good M (by omega)
  | 2, _ => exact write_good M (by omega) 0 (fun s => cmt s.bytes l)
  | 3, _ => exact flush_good M (by omega)
  | 4, _ => exact puts_good (blkL log l) M (by rw [blkL_length]; omega)
  | 5, _ => exact flush_good M (by omega)
  | 6, _ => exact write_good M (by omega) 0 (fun s => zeros s.bytes)
  | 7, _ => exact flush_good M (by omega)
theorem finL_good (log : Nat) (l : List Ch) (M : Nat) (h : l.length + 1 ≤ M) : ∀ i, i < 4 → GoodD M (dAt (finL log l) i) := fun i hi => comL_good log l M h (i + 4) (by omega)

/-- what the steps of a Commit ask of the changes, in any world that deeds leave. -/
structure MayC (log n : Nat) (l : List Ch) : Prop where
  le : n ≤ log
  len : ∀ j, j < n → (chAt l j).2.length ≤ 100000
  sec : ∀ j, j < n → 0 ≤ (chAt l j).1 ∧ (chAt l j).1 < 65536
theorem box_fr {w W : World} {D : Nat → Prop} {b : Nat} {v : Value} (h : w.cell? ⟨b, 0, none⟩ = some v) (hD : ¬ D b) (hf : Fr D w W) : W.cell? ⟨b, 0, none⟩ = some v :=
  (World.cell?_of_block (a := ⟨b, 0, none⟩) (hf.block b (lt_of_cell h) hD)).trans h
theorem new_not {w : World} {D D' : Nat → Prop} {k : Nat} (h : ∀ k, D' k → D k ∨ w.heap.size ≤ k) (hk : k < w.heap.size) (hD : ¬ D k) : ¬ D' k := fun hd => (h k hd).elim hD (by omega)
theorem wd_of {D : Nat → Prop} {p g : Nat} {s s' : S} {log : Nat} {down : Bool} {W W' : World} (h : WalAt W p g s log down D) (hd : Did D g s' W W') (hz : s'.sectors = s.sectors ∧ s'.bytes = s.bytes) : Wd D p g s' log down W W' :=
  h.did (fun _ h => .inl h) (Fr.refl _ _) hd hz
theorem flush_st (W : World) (p g : Nat) (s : S) (log : Nat) (down : Bool) (D : Nat → Prop) (h : WalAt W p g s log down D) (hd : s.deeds < 900000) :
    Calls Try.prog 27 #[.pointer (some ⟨g, 0, none⟩)] W fun e W' => e = .returned (.int .i64 s.flush.2) ∧ Wd D p g s.flush.1 log down W W' :=
  (Flush_any W g s D h.disk hd).mono fun _ _ hh => ⟨hh.1, wd_of h hh.2 (S.flush_sz s)⟩
def fnF (i : Nat) : Nat := [38, 27, 40, 27].getD i 0
def fbF (g p : Nat) (i : Nat) : Array Value := [#[], #[.pointer (some ⟨g, 0, none⟩)], #[.pointer (some ⟨p, 0, none⟩)], #[.pointer (some ⟨g, 0, none⟩)]].getD i #[]
def cpF (b1 b2 : Nat) (i : Nat) : Array Value := [#[.pointer (some ⟨b1, 0, none⟩), .pointer (some ⟨b2, 0, none⟩)], #[], #[], #[]].getD i #[]
theorem ent38 (args : Array Value) (W : World) : (callFunc 38 args).run Try.prog W = .ok (.enter 38 args) W := by
  have h := Try.func38
  simp [callFunc, h, Try.f38]
theorem ent27 (args : Array Value) (W : World) : (callFunc 27 args).run Try.prog W = .ok (.enter 27 args) W := by
  have h := Try.func27
  simp [callFunc, h, Try.f27]
theorem ent40 (args : Array Value) (W : World) : (callFunc 40 args).run Try.prog W = .ok (.enter 40 args) W := by
  have h := Try.func40
  simp [callFunc, h, Try.f40]
theorem ent25 (args : Array Value) (W : World) : (callFunc 25 args).run Try.prog W = .ok (.enter 25 args) W := by
  have h := Try.func25
  simp [callFunc, h, Try.f25]
theorem ent28 (args : Array Value) (W : World) : (callFunc 28 args).run Try.prog W = .ok (.enter 28 args) W := by
  have h := Try.func28
  simp [callFunc, h, Try.f28]
theorem entF : ∀ i, i < 4 → ∀ args W, (callFunc (fnF i) args).run Try.prog W = .ok (.enter (fnF i) args) W := by
  intro i hi args W
  match i, hi with
  | 0, _ => exact ent38 args W
  | 1, _ => exact ent27 args W
  | 2, _ => exact ent40 args W
  | 3, _ => exact ent27 args W
theorem fin_step (w : World) (p g : Nat) (s : S) (log : Nat) (down : Bool) (D : Nat → Prop) (A : Option Addr) (n c : Nat) (l : List Ch) (K : Nat → Prop) (hl : Chs w A n c l K) (hKD : ∀ k, K k → ¬ D k) (hm : MayC log n l) (hlog : log ≤ 65536)
    (b1 b2 : Nat) (x1 : w.cell? ⟨b1, 0, none⟩ = some (.pointer (some ⟨p, 0, none⟩))) (x2 : w.cell? ⟨b2, 0, none⟩ = some (.slice A n c)) (h1D : ¬ D b1) (h2D : ¬ D b2) (M : Nat) (hM : n + 1 ≤ M) :
    ∀ i, i < 4 → ∀ W s' D', WalAt W p g s' log down D' → s'.Fine → s'.deeds + M < 900000 → (s'.sectors = s.sectors ∧ s'.bytes = s.bytes) → (∀ k, D' k → D k ∨ w.heap.size ≤ k) → Fr D w W →
      Calls Try.prog (fnF i) (fbF g p i ++ cpF b1 b2 i) W fun e W' => e = .returned (.int .i64 (dAt (finL log l) i s').2) ∧ Wd D' p g (dAt (finL log l) i s').1 log down W W' := by
  intro i hi W s' D' hW hf hd hz hD hfr
  match i, hi with
  | 0, _ => exact f1_any W b1 b2 p g s' log down D' hW A n c l K (hl.fr hfr hKD) (fun k hk => new_not hD (hl.lt k hk) (hKD k hk)) (by have := hm.le; omega) (by omega) hf hm.len (fun j hj => ⟨(hm.sec j hj).1, Int.le_of_lt (hm.sec j hj).2⟩) (box_fr x1 h1D hfr) (box_fr x2 h2D hfr)
  | 1, _ => exact flush_st W p g s' log down D' hW (by omega)
  | 2, _ => exact unset_any W p g s' log down D' hW (by omega) hf
  | 3, _ => exact flush_st W p g s' log down D' hW (by omega)
end Go.Proofs.Ytabffjahelogkaa
