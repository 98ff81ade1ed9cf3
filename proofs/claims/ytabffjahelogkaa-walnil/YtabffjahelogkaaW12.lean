/- Commit. Conditions: none. -/
import Derived.Test.YtabffjahelogkaaW11
namespace Go.Dk
open Go.RowKit Go.Bs
/-- several changes at once. -/
def S.commit (s : S) (log : Nat) (down : Bool) (l : List Ch) : S × Int :=
  if down then (s, 50) else if chk (s.sectors - 1 - log) s.bytes log l ≠ 0 then (s, chk (s.sectors - 1 - log) s.bytes log l) else if l.length = 0 then (s, 0) else S.all (Go.Proofs.Ytabffjahelogkaa.comL log l) s
theorem chk_zero {nb bytes log : Nat} {l : List Ch} (h : chk nb bytes log l = 0) : l.length ≤ log ∧ ∀ j, j < l.length → (0 ≤ (chAt l j).1 ∧ (chAt l j).1 < (nb : Int)) ∧ (chAt l j).2.length = bytes := by
  unfold chk at h
  split at h
  · cases h
  · rename_i h1
    split at h
    · cases h
    · refine ⟨by omega, fun j hj => ?_⟩
      have h2 : badAt nb bytes l j = false := by
        cases hb : badAt nb bytes l j
        · rfl
        · exact absurd (List.any_eq_true.2 ⟨j, List.mem_range.2 hj, hb⟩) h1
      unfold badAt at h2
      simp at h2
      exact ⟨⟨h2.1.2.1, h2.1.2.2⟩, h2.2⟩
end Go.Dk
namespace Go.Proofs.Ytabffjahelogkaa
open Go.RowKit Go.Bs Go.Dk

theorem fn_info : (Try.prog.info? 40).map (fun i => (i.zero, i.size, i.bytes)) = some (some .nilFunc, 1, 8) := by kernel_rfl
theorem app_fns (w : World) (q0 q1 : Nat) (xs ys : List Value) (h0 : w.heap[q0]? = some (.cells xs.toArray 40 (0, 0))) (h1 : w.heap[q1]? = some (.cells ys.toArray 40 (0, 0))) (hx : xs.length = 4) (hy : ys.length = 4) (ho : ∀ u ∈ ys, u.oneCell' = true) :
    ∃ g cap w', (Builtin.append_ #[63, 63] 63 #[.slice (some ⟨q0, 0, none⟩) 4 4, .slice (some ⟨q1, 0, none⟩) 4 4]).run Try.prog w = .ok (.slice (some ⟨g, 0, none⟩) 8 cap) w' ∧ (∀ j, j < 8 → w'.cell? ⟨g, j, none⟩ = some ((xs ++ ys).getD j undef)) ∧ w.grownBy w' (some q0) ∧ (g = q0 ∨ g = w.heap.size) := by
  obtain ⟨i0, hi, hz0, hz1, hz2⟩ := info_parts fn_info
  obtain ⟨g, cap, w', hrun, hown, hgr, hat, hlt⟩ := run_append_lies (P := Try.prog) w 63 63 0 40 i0 _ 1 8 Try.underlying63 hi hz0 hz1 hz2 rfl (by omega) (.slice (some ⟨q0, 0, none⟩) 4 4) 4 xs
    ⟨by omega, .inr ⟨q0, 4, xs.toArray, rfl, Nat.zero_le _, h0, Nat.le_refl _, by simp [maxLen], by simp [hx], by simp; exact List.take_of_length_le (by omega)⟩⟩ ⟨q1, 0, none⟩ 4 4 ys (by omega)
    (fun j u hj => by rw [addr_add, Nat.zero_add, cell_of_row w q1 j _ 40 (0, 0) h1, ← hj]; exact List.getElem?_toArray) ho (by omega) (by unfold maxLen; omega) (by omega) (by omega) _ rfl
  refine ⟨g, cap, w', hrun, fun j hj => ?_, hgr, ?_⟩
  · rcases hown.2 with ⟨h, _⟩ | ⟨g', cap', cur, e, _, hg, _, _, hsz, htk⟩
    · cases h
    · cases e
      rw [cell_of_row w' g j _ 40 (0, 0) hg]
      have hl : (xs ++ ys).length = 8 := by simp [hx, hy]
      have : (xs ++ ys)[j]? = cur.toList[j]? := by rw [← htk, List.getElem?_take, if_pos (by omega)]
      rw [List.getD_eq_getElem?_getD, this, Array.getElem?_toList]
      have hcs : j < cur.size := by
        have h8 := congrArg List.length htk
        simp [hx, hy] at h8
        omega
      simp [hcs]
  · rcases hat with e | e
    · exact .inl (by simpa [Value.ownBlock] using e.symm)
    · exact .inr e
def fnB (z g : Nat) : List Value := [.func (.func 25) #[] #[.pointer (some ⟨z, 0, none⟩), .pointer (some ⟨z + 1, 0, none⟩)], .func (.func 27) #[.pointer (some ⟨g, 0, none⟩)] #[], .func (.func 28) #[] #[.pointer (some ⟨z, 0, none⟩), .pointer (some ⟨z + 1, 0, none⟩)], .func (.func 27) #[.pointer (some ⟨g, 0, none⟩)] #[]]
def fnE (g p b1 b2 : Nat) : List Value := [.func (.func 38) #[] #[.pointer (some ⟨b1, 0, none⟩), .pointer (some ⟨b2, 0, none⟩)], .func (.func 27) #[.pointer (some ⟨g, 0, none⟩)] #[], .func (.func 40) #[.pointer (some ⟨p, 0, none⟩)] #[], .func (.func 27) #[.pointer (some ⟨g, 0, none⟩)] #[]]
theorem fnE_one (g p b1 b2 : Nat) : ∀ u ∈ fnE g p b1 b2, u.oneCell' = true := by
  intro u hu
  simp [fnE] at hu
  rcases hu with rfl | rfl | rfl | rfl <;> rfl
def fn8 (i : Nat) : Nat := [25, 27, 28, 27, 38, 27, 40, 27].getD i 0
def fb8 (g p : Nat) (i : Nat) : Array Value := [#[], #[.pointer (some ⟨g, 0, none⟩)], #[], #[.pointer (some ⟨g, 0, none⟩)], #[], #[.pointer (some ⟨g, 0, none⟩)], #[.pointer (some ⟨p, 0, none⟩)], #[.pointer (some ⟨g, 0, none⟩)]].getD i #[]
def cp8 (z b1 b2 : Nat) (i : Nat) : Array Value := [#[.pointer (some ⟨z, 0, none⟩), .pointer (some ⟨z + 1, 0, none⟩)], #[], #[.pointer (some ⟨z, 0, none⟩), .pointer (some ⟨z + 1, 0, none⟩)], #[], #[.pointer (some ⟨b1, 0, none⟩), .pointer (some ⟨b2, 0, none⟩)], #[], #[], #[]].getD i #[]
theorem fn8_at (z g p b1 b2 : Nat) (j : Nat) (hj : j < 8) : (fnB z g ++ fnE g p b1 b2).getD j undef = .func (.func (fn8 j)) (fb8 g p j) (cp8 z b1 b2 j) := by
  match j, hj with
  | 0, _ => rfl
  | 1, _ => rfl
  | 2, _ => rfl
  | 3, _ => rfl
  | 4, _ => rfl
  | 5, _ => rfl
  | 6, _ => rfl
  | 7, _ => rfl
theorem ent8 : ∀ i, i < 8 → ∀ args W, (callFunc (fn8 i) args).run Try.prog W = .ok (.enter (fn8 i) args) W := by
  intro i hi args W
  match i, hi with
  | 0, _ => exact ent25 args W
  | 1, _ => exact ent27 args W
  | 2, _ => exact ent28 args W
  | 3, _ => exact ent27 args W
  | 4, _ => exact ent38 args W
  | 5, _ => exact ent27 args W
  | 6, _ => exact ent40 args W
  | 7, _ => exact ent27 args W
theorem com_step (w : World) (p g : Nat) (s : S) (log : Nat) (down : Bool) (D : Nat → Prop) (A : Option Addr) (n c : Nat) (l : List Ch) (K : Nat → Prop) (hl : Chs w A n c l K) (hKD : ∀ k, K k → ¬ D k) (hm : MayC log n l) (hlog : log ≤ 65536)
    (z b1 b2 : Nat) (y1 : w.cell? ⟨z, 0, none⟩ = some (.pointer (some ⟨p, 0, none⟩))) (y2 : w.cell? ⟨z + 1, 0, none⟩ = some (.slice A n c)) (g1D : ¬ D z) (g2D : ¬ D (z + 1))
    (x1 : w.cell? ⟨b1, 0, none⟩ = some (.pointer (some ⟨p, 0, none⟩))) (x2 : w.cell? ⟨b2, 0, none⟩ = some (.slice A n c)) (h1D : ¬ D b1) (h2D : ¬ D b2) (M : Nat) (hM : n + 1 ≤ M) :
    ∀ i, i < 8 → ∀ W s' D', WalAt W p g s' log down D' → s'.Fine → s'.deeds + M < 900000 → (s'.sectors = s.sectors ∧ s'.bytes = s.bytes) → (∀ k, D' k → D k ∨ w.heap.size ≤ k) → Fr D w W →
      Calls Try.prog (fn8 i) (fb8 g p i ++ cp8 z b1 b2 i) W fun e W' => e = .returned (.int .i64 (dAt (comL log l) i s').2) ∧ Wd D' p g (dAt (comL log l) i s').1 log down W W' := by
  intro i hi W s' D' hW hf hd hz hD hfr
  have hKD' : ∀ k, K k → ¬ D' k := fun k hk => new_not hD (hl.lt k hk) (hKD k hk)
  match i, hi with
  | 0, _ => exact c1_any W z (z + 1) p g s' log down D' hW A n c l K (hl.fr hfr hKD) hKD' (by have := hm.le; omega) (by omega) hf hm.len (box_fr y1 g1D hfr) (box_fr y2 g2D hfr)
  | 1, _ => exact flush_st W p g s' log down D' hW (by omega)
  | 2, _ => exact c2_any W z (z + 1) p g s' log down D' hW A n c l K (hl.fr hfr hKD) hKD' hm.le (by omega) hf hm.sec (box_fr y1 g1D hfr) (box_fr y2 g2D hfr) (new_not hD (lt_of_cell y1) g1D) (new_not hD (lt_of_cell y2) g2D)
  | 3, _ => exact flush_st W p g s' log down D' hW (by omega)
  | 4, _ => exact fin_step w p g s log down D A n c l K hl hKD hm hlog b1 b2 x1 x2 h1D h2D M hM 0 (by omega) W s' D' hW hf hd hz hD hfr
  | 5, _ => exact fin_step w p g s log down D A n c l K hl hKD hm hlog b1 b2 x1 x2 h1D h2D M hM 1 (by omega) W s' D' hW hf hd hz hD hfr
  | 6, _ => exact fin_step w p g s log down D A n c l K hl hKD hm hlog b1 b2 x1 x2 h1D h2D M hM 2 (by omega) W s' D' hW hf hd hz hD hfr
  | 7, _ => exact fin_step w p g s log down D A n c l K hl hKD hm hlog b1 b2 x1 x2 h1D h2D M hM 3 (by omega) W s' D' hW hf hd hz hD hfr

theorem below_grown6 {N b : Nat} {w a c : World} (h : Below N w a) (hg : a.grownBy c (some b)) (hb : N ≤ b) (hN : N ≤ a.heap.size) : Below N w c :=
  ⟨hg.os.trans h.os, hg.tape.trans h.tape, hg.output.trans h.output, Nat.le_trans h.size hg.size, fun k hk => (hg.block k (by omega) (fun e => by cases e; omega)).trans (h.block k hk)⟩
/-- what a call on the wal at p leaves. -/
def Wp (D : Nat → Prop) (p g : Nat) (s : S) (log : Nat) (down : Bool) (w w' : World) : Prop := ∃ D', WalAt w' p g s log down D' ∧ (∀ k, D' k → D k ∨ w.heap.size ≤ k) ∧ Fr (fun k => D k ∨ k = p) w w'
theorem op_append_fn {o : Oper} {a : Act} {w w' : World} {K : Act → World → Prop} {Q : Exit → Act → World → Prop} (s x : Operand) (hop : o.op = Op.call { callee := Callee.builtin Builtin.append, args := #[s, x], argTypes := #[63, 63] })
    (v1 v2 v' : Value) (hs : a.eval s = v1) (hx : a.eval x = v2) (hrun : (Builtin.append_ #[63, 63] o.type #[v1, v2]).run Try.prog w = .ok v' w') (h : K (a.put o.dst v') w') : o.wp Try.prog a w K Q := by
  unfold Oper.wp
  simp [execOp, hop, resolve, invoke, builtin, hs, hx, hrun, Result.andThen]
  exact h
theorem WalAt.heed {w : World} {p g : Nat} {s : S} {log : Nat} {down : Bool} {D : Nat → Prop} (h : WalAt w p g s log down D) (b : Bool) : WalAt (w.setCell ⟨p, 2, none⟩ (.bool b)) p g s log b D :=
  ⟨wc_set h.row b, h.disk.keep (by rw [setCell_size]; exact Nat.le_refl _) (fun k hk => setCell_other _ _ _ _ _ (fun e => h.pD (e ▸ hk))), h.pD, h.l0, h.l1, h.l2⟩
theorem Wp.still {D : Nat → Prop} {p g : Nat} {s : S} {log : Nat} {down : Bool} {w w' : World} (h : WalAt w p g s log down D) (hb : Below w.heap.size w w') : Wp D p g s log down w w' := ⟨D, h.below hb, fun _ h => .inl h, Fr.of hb⟩
end Go.Proofs.Ytabffjahelogkaa
