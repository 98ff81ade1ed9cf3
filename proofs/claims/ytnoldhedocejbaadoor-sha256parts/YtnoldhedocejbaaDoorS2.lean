/- numbers and Start. Conditions: none. -/
import Derived.Test.YtnoldhedocejbaaDoorS1
import Derived.Test.YtnoldhedocejbaaDoorW32
namespace Go.Proofs.YtnoldhedocejbaaDoor
open Go.RowKit Go.Bs Go.Sha

theorem load51 (w : World) (g t : Nat) (s : St) (h : w.heap[g]? = some (.cells s.cs t (0, 0))) : (loadVar 51 ⟨g, 0, none⟩).run Tryd.prog w = .ok (.agg s.cs) w :=
  run_loadVar_row (P := Tryd.prog) w g t 51 s.cs (0, 0) _ h Tryd.underlying51 rfl (by kernel_rfl)
theorem store51 (w : World) (g t : Nat) (s : St) (old : Array Value) (h : w.heap[g]? = some (.cells old t (0, 0))) (ho : old.size = 8) : (Instr.storeAt 51 (.pointer (some ⟨g, 0, none⟩)) (.agg s.cs)).run Tryd.prog w = .ok () (w.setRow g s.cs) := by
  simp only [Instr.storeAt, Instr.sureAddr, Sem.run_bind, Sem.run_pure, Result.andThen_ok, run_storeVar_row (P := Tryd.prog) w g t 51 old s.cs h (by kernel_rfl) ho (cs_one s)]
theorem loadA51 (w : World) (g t : Nat) (s : St) (h : w.heap[g]? = some (.cells s.cs t (0, 0))) : (Instr.loadAt 51 (.pointer (some ⟨g, 0, none⟩))).run Tryd.prog w = .ok (.agg s.cs) w := by
  simp only [Instr.loadAt, Instr.sureAddr, Sem.run_bind, Sem.run_pure, Result.andThen_ok, load51 w g t s h]
theorem load29 (w : World) (g t : Nat) (s : St) (h : w.heap[g]? = some (.cells s.ns t (0, 0))) : (loadVar 29 ⟨g, 0, none⟩).run Tryd.prog w = .ok (.agg s.ns) w :=
  run_loadVar_row (P := Tryd.prog) w g t 29 s.ns (0, 0) _ h Tryd.underlying29 rfl (by kernel_rfl)
theorem store29 (w : World) (g t : Nat) (s : St) (old : Array Value) (h : w.heap[g]? = some (.cells old t (0, 0))) (ho : old.size = 8) : (Instr.storeAt 29 (.pointer (some ⟨g, 0, none⟩)) (.agg s.ns)).run Tryd.prog w = .ok () (w.setRow g s.ns) := by
  simp only [Instr.storeAt, Instr.sureAddr, Sem.run_bind, Sem.run_pure, Result.andThen_ok, run_storeVar_row (P := Tryd.prog) w g t 29 old s.ns h (by kernel_rfl) ho (ns_one s)]
theorem loadA29 (w : World) (g t : Nat) (s : St) (h : w.heap[g]? = some (.cells s.ns t (0, 0))) : (Instr.loadAt 29 (.pointer (some ⟨g, 0, none⟩))).run Tryd.prog w = .ok (.agg s.ns) w := by
  simp only [Instr.loadAt, Instr.sureAddr, Sem.run_bind, Sem.run_pure, Result.andThen_ok, load29 w g t s h]

theorem below3 (w : World) (a b c : Obj) : Below w.heap.size w (((w.alloc a).alloc b).alloc c) := (((Below.refl _ _).alloc (Nat.le_refl _) _).alloc (by simp) _).alloc (by simp; omega) _

set_option maxRecDepth 100000 in
set_option maxHeartbeats 1000000 in
theorem numbers_any (s : St) (hs : s.ok) (w : World) :
    Calls Tryd.prog 25 #[s.v] w fun e w' => e = .returned s.n ∧ Below w.heap.size w w' := by
  obtain ⟨a, b, c, d, e, f, g, h⟩ := s
  obtain ⟨ha, hb, hc, hd, he, hf, hg, hh⟩ := hs
  simp only at ha hb hc hd he hf hg hh
  show Calls Tryd.prog 25 #[.agg #[U a, U b, U c, U d, U e, U f, U g, U h]] w fun e' w' => e' = .returned (.agg #[I a, I b, I c, I d, I e, I f, I g, I h]) ∧ Below w.heap.size w w'
  have i0 : ∀ w : World, (Instr.index 51 (.agg #[U a, U b, U c, U d, U e, U f, U g, U h]) (.int .i64 0)).run Tryd.prog w = .ok (U a) w := fun _ => by kernel_rfl
  have i1 : ∀ w : World, (Instr.index 51 (.agg #[U a, U b, U c, U d, U e, U f, U g, U h]) (.int .i64 1)).run Tryd.prog w = .ok (U b) w := fun _ => by kernel_rfl
  have i2 : ∀ w : World, (Instr.index 51 (.agg #[U a, U b, U c, U d, U e, U f, U g, U h]) (.int .i64 2)).run Tryd.prog w = .ok (U c) w := fun _ => by kernel_rfl
  have i3 : ∀ w : World, (Instr.index 51 (.agg #[U a, U b, U c, U d, U e, U f, U g, U h]) (.int .i64 3)).run Tryd.prog w = .ok (U d) w := fun _ => by kernel_rfl
  have i4 : ∀ w : World, (Instr.index 51 (.agg #[U a, U b, U c, U d, U e, U f, U g, U h]) (.int .i64 4)).run Tryd.prog w = .ok (U e) w := fun _ => by kernel_rfl
  have i5 : ∀ w : World, (Instr.index 51 (.agg #[U a, U b, U c, U d, U e, U f, U g, U h]) (.int .i64 5)).run Tryd.prog w = .ok (U f) w := fun _ => by kernel_rfl
  have i6 : ∀ w : World, (Instr.index 51 (.agg #[U a, U b, U c, U d, U e, U f, U g, U h]) (.int .i64 6)).run Tryd.prog w = .ok (U g) w := fun _ => by kernel_rfl
  have i7 : ∀ w : World, (Instr.index 51 (.agg #[U a, U b, U c, U d, U e, U f, U g, U h]) (.int .i64 7)).run Tryd.prog w = .ok (U h) w := fun _ => by kernel_rfl
  go_enter Tryd.func25, Tryd.ntmps25
  go_wp2
  go_loopw [8] (fun i wr => ∃ k : Nat, k ≤ 8 ∧ i = .int .i64 k ∧ wr = ((w.alloc (.cells #[U a, U b, U c, U d, U e, U f, U g, U h] 51)).alloc (.cells #[I 0, I 0, I 0, I 0, I 0, I 0, I 0, I 0] 29)).alloc (.cells #[if 0 < k then I a else I 0, if 1 < k then I b else I 0, if 2 < k then I c else I 0, if 3 < k then I d else I 0, if 4 < k then I e else I 0, if 5 < k then I f else I 0, if 6 < k then I g else I 0, if 7 < k then I h else I 0] 29)) (fun i _ => 8 - (intOf i).toNat)
  case atStart => exact ⟨0, Nat.zero_le _, rfl, rfl⟩
  case round =>
    obtain ⟨k, hk, rfl, rfl⟩ := hrel
    have hk5 : k = 0 ∨ k = 1 ∨ k = 2 ∨ k = 3 ∨ k = 4 ∨ k = 5 ∨ k = 6 ∨ k = 7 ∨ k = 8 := by omega
    rcases hk5 with rfl | rfl | rfl | rfl | rfl | rfl | rfl | rfl | rfl <;> simp only [Nat.reduceLT, if_true, if_false, reduceIte]
    · go_wp2
      go_roundw
      case rel => exact ⟨1, by omega, rfl, rfl⟩
      case measure => simp [intOf]
    · go_wp2
      go_roundw
      case rel => exact ⟨2, by omega, rfl, rfl⟩
      case measure => simp [intOf]
    · go_wp2
      go_roundw
      case rel => exact ⟨3, by omega, rfl, rfl⟩
      case measure => simp [intOf]
    · go_wp2
      go_roundw
      case rel => exact ⟨4, by omega, rfl, rfl⟩
      case measure => simp [intOf]
    · go_wp2
      go_roundw
      case rel => exact ⟨5, by omega, rfl, rfl⟩
      case measure => simp [intOf]
    · go_wp2
      go_roundw
      case rel => exact ⟨6, by omega, rfl, rfl⟩
      case measure => simp [intOf]
    · go_wp2
      go_roundw
      case rel => exact ⟨7, by omega, rfl, rfl⟩
      case measure => simp [intOf]
    · go_wp2
      go_roundw
      case rel => exact ⟨8, by omega, rfl, rfl⟩
      case measure => simp [intOf]
    · go_wp2
      refine bodyPost_ret (v := .agg #[I a, I b, I c, I d, I e, I f, I g, I h]) (by simp [results, Tryd.results25, go_sem]) rfl ⟨rfl, below3 _ _ _ _⟩

/-- What the two tables of the program hold. -/
structure Laid (w : World) : Prop where
  start : ∀ i, i < 8 → w.cell? ⟨0, i, none⟩ = some (U (Sha.start.l.getD i 0))
  k : ∀ i, i < 64 → w.cell? ⟨1, i, none⟩ = some (U (KL.getD i 0))

theorem Laid.lt {w : World} (h : Laid w) : 2 ≤ w.heap.size := by
  have := h.k 0 (by omega)
  rcases Nat.lt_or_ge 1 w.heap.size with hlt | hge
  · exact hlt
  · simp [World.cell?, Array.getElem?_eq_none hge] at this

theorem Laid.keep {w w' : World} (h : Laid w) (hb : Below w.heap.size w w') : Laid w' :=
  have := h.lt
  ⟨fun i hi => (hb.cell (p := ⟨0, i, none⟩) (by show 0 < _; omega)).trans (h.start i hi), fun i hi => (hb.cell (p := ⟨1, i, none⟩) (by show 1 < _; omega)).trans (h.k i hi)⟩

theorem Laid.eight {w : World} (h : Laid w) : w.cell? ⟨0, 0, none⟩ = some (.int .u32 1779033703) ∧ w.cell? ⟨0, 1, none⟩ = some (.int .u32 3144134277) ∧ w.cell? ⟨0, 2, none⟩ = some (.int .u32 1013904242) ∧ w.cell? ⟨0, 3, none⟩ = some (.int .u32 2773480762) ∧ w.cell? ⟨0, 4, none⟩ = some (.int .u32 1359893119) ∧ w.cell? ⟨0, 5, none⟩ = some (.int .u32 2600822924) ∧ w.cell? ⟨0, 6, none⟩ = some (.int .u32 528734635) ∧ w.cell? ⟨0, 7, none⟩ = some (.int .u32 1541459225) :=
  ⟨h.start 0 (by omega), h.start 1 (by omega), h.start 2 (by omega), h.start 3 (by omega), h.start 4 (by omega), h.start 5 (by omega), h.start 6 (by omega), h.start 7 (by omega)⟩

theorem start_v : Sha.start.v = .agg #[.int .u32 1779033703, .int .u32 3144134277, .int .u32 1013904242, .int .u32 2773480762, .int .u32 1359893119, .int .u32 2600822924, .int .u32 528734635, .int .u32 1541459225] := rfl

theorem Start_any (w : World) (hL : Laid w) :
    Calls Tryd.prog 12 #[] w fun e w' => e = .returned Sha.start.n ∧ Below w.heap.size w w' := by
  obtain ⟨W, hW⟩ : ∃ W, w.alloc (.cells #[.int .i64 0, .int .i64 0, .int .i64 0, .int .i64 0, .int .i64 0, .int .i64 0, .int .i64 0, .int .i64 0] 29) = W := ⟨_, rfl⟩
  have hB : Below w.heap.size w W := by rw [← hW]; exact (Below.refl _ _).alloc (Nat.le_refl _) _
  have hC : W.heap[w.heap.size]? = some (.cells #[.int .i64 0, .int .i64 0, .int .i64 0, .int .i64 0, .int .i64 0, .int .i64 0, .int .i64 0, .int .i64 0] 29) := by rw [← hW]; exact heap_alloc_new w _
  obtain ⟨c0, c1, c2, c3, c4, c5, c6, c7⟩ := (hL.keep hB).eight
  have HN := Lib.hid (numbers_any Sha.start start_ok W)
  rw [start_v] at HN
  have HB := Lib.hid hB
  have HC := Lib.hid hC
  have hZ : W.heap.size = w.heap.size + 1 := by rw [← hW]; simp
  clear hB hC hL
  go_enter Tryd.func12, Tryd.ntmps12
  go_wp2_with fail
  refine HN.out.mono ?_
  rintro e w' ⟨rfl, hb⟩
  have hrow := (hb.block w.heap.size (by omega)).trans HC.out
  have hst := stC (P := Tryd.prog) w' w.heap.size 29 8 Sha.start.ns _ hrow rfl rfl (ns_one _)
  have hld := load29 (w'.setRow w.heap.size Sha.start.ns) w.heap.size 29 Sha.start (setRow_heap w' w.heap.size _ _ 29 _ hrow)
  obtain ⟨V, hV⟩ : ∃ V, w'.setRow w.heap.size Sha.start.ns = V := ⟨_, rfl⟩
  have HBV : Hid (Below w.heap.size w V) := by
    rw [← hV]
    exact below_row (HB.out.trans (hb.mono HB.out.size)) (Nat.le_refl _) (Nat.le_trans HB.out.size hb.size) _
  rw [hV] at hst hld
  clear hrow hV hb c0 c1 c2 c3 c4 c5 c6 c7 hZ hW
  rw [show Sha.start.n = .agg Sha.start.ns from rfl]
  obtain ⟨cs, hcs⟩ : ∃ cs : Array Value, Sha.start.ns = cs := ⟨_, rfl⟩
  have hz : cs.size = 8 := by rw [← hcs]; rfl
  have HCS := Lib.hid hcs
  rw [hcs] at hst hld ⊢
  clear hcs
  go_wp2
  refine bodyPost_ret (v := .agg cs) (results_cell Tryd.results12 _ _ rfl hld) rfl ⟨by rw [← HCS.out]; rfl, HBV.out⟩
end Go.Proofs.YtnoldhedocejbaaDoor
