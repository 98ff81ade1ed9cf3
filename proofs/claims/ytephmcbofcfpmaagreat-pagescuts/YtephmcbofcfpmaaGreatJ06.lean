/- A region that draws its order, in a round over a function. Conditions: none. What is undone and done again at a crash, as plain functions. Conditions: none. -/
import Derived.Test.YtephmcbofcfpmaaGreatJ05
import Derived.StillTailTactics
import Derived.OrdersIn
set_option maxRecDepth 8000
set_option linter.unusedSimpArgs false
set_option linter.unusedVariables false
namespace Go.Dk
open Go

theorem rows_in {n : Nat} {P : Program} {row : String} {args : Array Value} {w : World} {R : Value → World → Prop} (l : Nat) (h : Rows P row args w R) : RowsIn (Fence.wide.inRound l) n P row args w R :=
  fun c cs _ => let ⟨v, w', r, s⟩ := h c cs; ⟨v, w', r, stepsIn_wide.2 s⟩
theorem op_in {n : Nat} {P : Program} {o : Oper} {a : Act} {w : World} {K : Act → World → Prop} {Q : Exit → Act → World → Prop} (l : Nat) (hd : ∀ c, o.op ≠ .defer c) (h : o.wp P a w K Q) : o.wpIn (Fence.wide.inRound l) n P a w K Q := by
  refine ⟨fun _ _ => trivial, ?_⟩
  rw [Oper.semAt_eq _ _ _ hd]
  unfold Oper.wp at h
  generalize (execOp a.eval o).run P w = r at h
  cases r with
  | ok x w' =>
    cases x <;> simp only [Oper.upon, Oper.uponIn] at h ⊢
    all_goals first
      | exact h
      | exact h.elim
      | exact ⟨fun h => (by simp [Fence.wide] at h), CallsIn.inRound l (callsIn_wide.2 h)⟩
      | exact ⟨fun h => (by simp [Fence.wide] at h), rows_in l h⟩
  | halt x w' => cases x <;> simp only [Oper.upon, Oper.uponIn] at h ⊢ <;> exact h
theorem any_in {n : Nat} {P : Program} {md : Region.Mode} {ops : Array Oper} {Q : Exit → Act → World → Prop} (l : Nat) (hd : ∀ (i : Nat) (o : Oper) c, ops[i]? = some o → o.op ≠ .defer c) (hQ : ¬ LetsOut Q) :
    ∀ (fuel : Nat) (listed : Array Bool) (a : Act) (w : World), wpAny P md ops Q fuel listed a w → wpAnyIn (Fence.wide.inRound l) n P md ops Q fuel listed a w
  | 0, _, _, _, h => h
  | fuel + 1, listed, a, w, h => by
    refine ⟨h.1, fun i hi => ?_⟩
    have h2 := h.2 i hi
    unfold wpOp at h2
    unfold wpOpIn
    cases ho : ops[i]? with
    | none => simp only [ho] at h2 ⊢; exact any_in l hd hQ fuel _ _ _ h2
    | some o =>
      simp only [ho] at h2 ⊢
      split
      · rename_i hw
        rw [if_pos hw] at h2
        rcases h2 with h2 | h2
        · exact Oper.wpIn_mono (fun a w hh => any_in l hd hQ fuel _ _ _ hh) (op_in l (fun c => hd i o c ho) h2)
        · exact absurd h2.2 hQ
      · rename_i hw
        rw [if_neg hw] at h2
        exact ⟨fun _ _ => trivial, any_in l hd hQ fuel _ _ _ h2⟩
theorem wpIn_round_still_tail {P : Program} {id nn : Nat} {Q : Exit → Act → World → Prop} {a : Act} {w : World} {l : List Oper} (l0 n : Nat) (hm : P.follows .mixedOrders = true) (hB : Region.lexTailB .any l.toArray n = true) (hd : l.all (fun o => match o.op with | .defer _ => false | _ => true) = true) (hQ : ¬ LetsOut Q)
    (h : wpStill P l.toArray { w with drawn := w.drawn + 1 } (fun a' => wpList P l.toArray Q (l.drop n) a' { w with drawn := w.drawn + 1 }) (l.take n) a) : (Code.region id l.toArray true).wpIn (Fence.wide.inRound l0) nn P Q a w := by
  simp only [Region.lexTailB, Bool.and_eq_true, decide_eq_true_eq] at hB
  obtain ⟨⟨⟨⟨hsel, hn⟩, hs⟩, hc⟩, hlex⟩ := hB
  have hn' : n < l.length := by simpa using hn
  have htl : (l.take n).length = n := by simp; omega
  have hdl : (l.drop n).length = l.toArray.size - n := by simp
  have inv0 : HeadInv .any l.toArray n (Array.replicate l.toArray.size false) :=
    ⟨by simp, fun j oj _ hl => (by rw [getD_replicate_false] at hl; cases hl), fun t _ ht => getD_in (by simpa using ht) (getD_replicate_false _ _)⟩
  have H := wpAnyL_lex (md := .any) (g := l.toArray.size - n) hsel hs hc hn (l.take n) 0 _ a (fun j hj => by
    have hj' : j < n := by rw [htl] at hj; exact hj
    simp [hj']) (by simpa using htl) inv0 (by rw [htl]; exact hlex) h
  refine wpIn_region_any hm ?_
  have := wpAny_of_head (Q' := Q) (g := l.toArray.size - n) (fun listed a' hL => by
    have := wpAny_of_seq (md := .any) (Q' := Q) (l.drop n) n listed a' { w with drawn := w.drawn + 1 } (fun j => by simp [List.getElem?_drop]) (by rw [hdl]; exact hL.1) hL.2
    rwa [hdl] at this) _ _ _ H
  rw [htl, show n + (l.toArray.size - n) = l.toArray.size by omega] at this
  refine any_in l0 (fun i o c ho e => ?_) hQ _ _ _ _ this
  have hm : o ∈ l := by
    have : l[i]? = some o := by simpa using ho
    exact List.mem_of_getElem? this
  have := List.all_eq_true.1 hd o hm
  rw [e] at this
  cases this
end Go.Dk

set_option maxRecDepth 8000
set_option linter.unusedSimpArgs false
set_option linter.unusedVariables false
namespace Go.Proofs.YtephmcbofcfpmaaGreat
open Go.RowKit Go.Bs Go.Dk Go.Shelf

/-- what is undone. -/
def undo {N : Nat} (M : Nat → Value) (xs : List (Al N)) : Nat → Value := xs.foldl (fun M x => upd M x.1.2.1 (sv x.1.2.2.1)) M
theorem undo_snoc {N : Nat} (M : Nat → Value) (xs : List (Al N)) (x : Al N) : undo M (xs ++ [x]) = upd (undo M xs) x.1.2.1 (sv x.1.2.2.1) := by simp [undo]
/-- what is done again. -/
def redo (M : Nat → Value) (E : List Ent) (ks : List Bool) : Nat → Nat → Value
  | 0 => M
  | k + 1 => if ks.getD k false then upd (redo M E ks k) (eAt E k).1 (sv (eAt E k).2.2) else redo M E ks k

theorem take_wAt (c : List Wr) (i : Nat) (h : i < c.length) : c.take (i + 1) = c.take i ++ [wAt c i] := by
  rw [List.take_succ_eq_append_getElem h]
  simp [wAt, List.getD, List.getElem?_eq_getElem h]

theorem undo_reads {w : World} {K : Nat → Prop} {s : S} {kv : Value} {M : Nat → Value} {E : List Ent} (h : Data w K s kv M E) (hl : E.length = s.c.length) (N : Nat) (hN : N = s.sectors) (hE : ∀ i, i < E.length → (eAt E i).1 < N) :
    ∀ j, j ≤ E.length → ∀ k, k < N → RdZ w K (undo M (back E N hE j) k) s.bytes (cur s.L (s.c.take (E.length - j)) k)
  | 0, _, k, hk => by
    rw [Nat.sub_zero, hl, List.take_length]
    exact h.vals k (by omega)
  | j + 1, hj, k, hk => by
    have ih := undo_reads h hl N hN hE j (by omega) k hk
    obtain ⟨i, hi⟩ : ∃ i, E.length - 1 - j = i := ⟨_, rfl⟩
    have e1 : E.length - j = i + 1 := by omega
    have e2 : E.length - (j + 1) = i := by omega
    have hil : i < s.c.length := by omega
    obtain ⟨h1, h2, _⟩ := h.ents i hil
    rw [back_succ E N hE j (by omega), undo_snoc, e2]
    rw [e1, take_wAt _ _ hil, cur_snoc] at ih
    simp only [hi]
    by_cases hks : k = (eAt E i).1
    · subst hks
      rw [upd_same, h1]
      exact h2
    · rw [upd_other _ _ _ _ hks]
      rw [upd_other _ _ _ _ (by rw [← h1]; exact hks)] at ih
      exact ih

theorem redo_reads {w : World} {K : Nat → Prop} {s : S} {kv : Value} {M M0 : Nat → Value} {E : List Ent} (h : Data w K s kv M0 E) (hl : E.length = s.c.length) (ks : List Bool) (hM : ∀ k, k < s.sectors → RdZ w K (M k) s.bytes (s.L k)) :
    ∀ j, j ≤ ks.length → j ≤ s.c.length → ∀ k, k < s.sectors → RdZ w K (redo M E ks j k) s.bytes (cur s.L (kept (ks.take j) s.c) k)
  | 0, _, _, k, hk => by
    rw [List.take_zero, kept_nil, cur_nil]
    exact hM k hk
  | j + 1, hj, hj2, k, hk => by
    have ih := redo_reads h hl ks hM j (by omega) (by omega) k hk
    obtain ⟨h1, _, h3⟩ := h.ents j (by omega)
    rw [kept_take_succ ks s.c j (by omega) (by omega)]
    have e : ks.getD j false = ks[j] := by simp [List.getD, List.getElem?_eq_getElem (show j < ks.length by omega)]
    have e2 : wAt s.c j = s.c[j] := by simp [wAt, List.getD, List.getElem?_eq_getElem (show j < s.c.length by omega)]
    rw [redo, e]
    cases hq : ks[j]
    · simp only [Bool.false_eq_true, if_false, List.append_nil]
      exact ih
    · simp only [if_true]
      rw [cur_snoc]
      rw [← e2]
      by_cases hks : k = (eAt E j).1
      · subst hks
        rw [upd_same, h1, upd_same]
        exact h3
      · rw [upd_other _ _ _ _ hks, upd_other _ _ _ _ (by rw [← h1]; exact hks)]
        exact ih

theorem elem33 : Tryz.prog.elem 40 = 4 := by kernel_rfl
theorem size4 (w : World) : (sizeOf 4).run Tryz.prog w = .ok 1 w := by kernel_rfl
theorem slice_to33 (A : Option Addr) (n c h : Nat) (hh : h ≤ c) (w : World) : (Instr.slice 40 (.slice A n c) none (some (.int .i64 (h : Int))) none).run Tryz.prog w = .ok (.slice A h c) w := by
  rw [run_slice_h (P := Tryz.prog) w 40 A n c (by rw [elem33]; exact Tryz.underlying40) .i64 (h : Int) (by omega) (by omega), elem33, size4, Result.andThen_ok]
  cases A <;> simp [sliced]
  rename_i a
  unfold Addr.add
  split <;> simp_all
theorem mixed : Tryz.prog.follows .mixedOrders = true := by kernel_rfl

/-- Crash's end: the disk behind it. -/
theorem crash_at {w w' : World} {g : Nat} {s : S} {D : Nat → Prop} {m : Nat} {cv kv : Value} {M : Nat → Value} {E : List Ent} (h : DB w g s D m cv kv M E) (hu : s.up = true) (hE : ∀ i, i < E.length → (eAt E i).1 < s.sectors) (ks : List Bool) (mn : Nat) (hmn : mn = min ks.length E.length)
    (cv' : Value) (e1 : cv'.ownBlock = cv.ownBlock) (hc : w'.ownsRow 0 128 3 cv' 0 []) (hrow : w'.heap[g]? = some (.cells (dc { s with up := false } m cv' kv) 100 (0, 0)))
    (nl : Nat) (hnl : E.length = nl) (hmap : MapIs w' m s.sectors (redo (undo M (back E s.sectors hE nl)) E ks mn)) (hfr : Fr (fun k => k = m ∨ k = g ∨ cv.ownBlock = some k) w w') : Did D g (s.crash ks) w w' := by
  subst hnl
  have hs : s.crash ks = { s with L := cur s.L (kept ks s.c), c := [], up := false } := by unfold S.crash; rw [if_pos hu]
  have hok := h.ok.crash ks
  rw [hs] at hok ⊢
  have hsz := hfr.size
  have hkD : ∀ k, Dd D g m cv k → w'.heap[k]? = w.heap[k]? := fun k hd => hfr.block k (h.lt k hd.1) (by rintro (e | e | e); exact hd.2.2.1 e; exact hd.2.1 e; exact hd.2.2.2 e)
  have hdd : ∀ k, Dd D g m cv k → Dd (fun k => D k ∨ (w.heap.size ≤ k ∧ k < w'.heap.size)) g m cv' k := fun k hd => ⟨.inl hd.1, hd.2.1, hd.2.2.1, by rw [e1]; exact hd.2.2.2⟩
  refine ⟨fun k => D k ∨ (w.heap.size ≤ k ∧ k < w'.heap.size), ⟨m, cv', kv, _, [], hok, hrow, hmap, hc, fun k e => ?_, rfl, ⟨fun k hk => ?_, fun i hi => absurd hi (by simp), h.data.keep.keep hsz hkD hdd⟩, .inl h.gD, .inl h.mD, h.gm, fun k hd => ?_⟩, fun k hd => hd.imp id (·.1), hfr.mono ?_⟩
  · rw [e1] at e
    exact ⟨.inl (h.cD k e).1, (h.cD k e).2⟩
  · have h1 := undo_reads h.data h.elen s.sectors rfl hE E.length (Nat.le_refl _)
    rw [Nat.sub_self, List.take_zero, cur_nil] at h1
    have h2 := redo_reads h.data h.elen ks h1 mn (by omega) (by have := h.elen; omega) k hk
    rw [kept_take_all ks s.c mn (by rw [hmn, h.elen])] at h2
    exact h2.keep hsz hkD hdd
  · rcases hd with hd | hd
    · have := h.lt k hd; omega
    · exact hd.2
  · rintro k (e | e | e)
    · subst e; exact h.mD
    · subst e; exact h.gD
    · exact (h.cD k e).1
end Go.Proofs.YtephmcbofcfpmaaGreat

