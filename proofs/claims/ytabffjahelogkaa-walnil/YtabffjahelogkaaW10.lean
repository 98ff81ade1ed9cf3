/- A set of numbers; whether changes may be committed. Conditions: none. -/
import Derived.Test.YtabffjahelogkaaW9
namespace Go.Proofs.Ytabffjahelogkaa
open Go.RowKit Go.Bs Go.Dk
open Go.WideElems (Fit rd rg pl rd_key)
open Go.MapKept Go.ChangeMaps

theorem nodup_sub : ∀ (l ks : List Int), l.Pairwise (· ≠ ·) → (∀ x ∈ l, x ∈ ks) → l.length ≤ ks.length
  | [], _, _, _ => Nat.zero_le _
  | x :: l, ks, hp, h => by
    obtain ⟨h1, h2⟩ := List.pairwise_cons.1 hp
    have hx := h x (by simp)
    have := nodup_sub l (ks.erase x) h2 fun y hy => (List.mem_erase_of_ne (h1 y hy).symm).2 (h y (by simp [hy]))
    rw [List.length_erase_of_mem hx] at this
    have := List.length_pos_of_mem hx
    simp
    omega

/-- block b is a set of the numbers ks. -/
def SetIs (w : World) (b : Nat) (ks : List Int) : Prop :=
  ∃ es clock, w.heap[b]? = some (.map es clock) ∧ Fit Try.prog 3 RT es clock ∧ (∀ e ∈ es.toList, ∃ k ∈ ks, e.key = .int .i64 k) ∧
    ∀ x : Int, (Lit.int .i64 x).wf = true → ∀ zd, (mapD Try.prog es).atKey (.int .i64 x) zd = if x ∈ ks then .held (.agg #[]) else zd
theorem SetIs.lt {w : World} {b : Nat} {ks : List Int} (h : SetIs w b ks) : b < w.heap.size := by
  obtain ⟨es, clock, hb, _⟩ := h
  exact (Array.getElem?_eq_some_iff.1 hb).1
theorem SetIs.keep {w w' : World} {b : Nat} {ks : List Int} (h : SetIs w b ks) (e : w'.heap[b]? = w.heap[b]?) : SetIs w' b ks := by
  obtain ⟨es, clock, hb, hr⟩ := h
  exact ⟨es, clock, e.trans hb, hr⟩
theorem SetIs.made (w : World) : SetIs (w.alloc (.map #[] 0)) w.heap.size [] :=
  ⟨#[], 0, (MapKept.heap_alloc w _).1, ⟨by simp, stamped_empty 0, by simp⟩, by simp, fun _ _ _ => rfl⟩
theorem zero69 (w : World) : (zeroValue 69).run Try.prog w = .ok (.agg #[]) w := by kernel_rfl
theorem SetIs.look {w : World} {b : Nat} {ks : List Int} (h : SetIs w b ks) (x : Int) (hx : -9223372036854775808 ≤ x ∧ x ≤ 9223372036854775807) :
    (Instr.lookup 68 (.map (some b)) (.int .i64 x) true).run Try.prog w = .ok (.tuple #[.agg #[], .bool (decide (x ∈ ks))]) w := by
  obtain ⟨es, clock, hb, F, hks, hM⟩ := h
  have hwf : (Lit.int .i64 x).wf = true := WalkArith.wf_i64 (by omega)
  have hkey := Maps.keyOf_int_mk (P := Try.prog) (k := 3) Try.underlying3 hwf
  have hm := hM x hwf
  rcases Maps.fit_look true intKeyed Try.underlying68 (zero69 w) hb F hkey with ⟨hrun, _, hat⟩ | ⟨e0, y, _, _, hrun, hRv, hat, _⟩
  · have hn : x ∉ ks := fun hin => by
      have h1 := hat .nil
      rw [show (DataW.map _ : DataW Value) = mapD Try.prog es from rfl, hm, if_pos hin] at h1
      cases h1
    rw [hrun]
    simp [hn]
  · injection hRv with e1
    have hin : x ∈ ks := Classical.byContradiction fun hin => by
      have h1 := hat .nil
      rw [show (DataW.map _ : DataW Value) = mapD Try.prog es from rfl, hm, if_neg hin, ← e1] at h1
      cases h1
    have h1 := hat .nil
    rw [show (DataW.map _ : DataW Value) = mapD Try.prog es from rfl, hm, if_pos hin, ← e1] at h1
    injection h1 with h2
    rw [hrun, ← h2]
    simp [hin]
theorem SetIs.put {w : World} {b : Nat} {ks : List Int} (h : SetIs w b ks) (x : Int) (hx : -9223372036854775808 ≤ x ∧ x ≤ 9223372036854775807) (hlen : ks.length ≤ 1000000) :
    ∃ w', (Instr.mapUpdate 68 (.map (some b)) (.int .i64 x) (.agg #[])).run Try.prog w = .ok () w' ∧ SetIs w' b (ks ++ [x]) ∧ w.grownBy w' (some b) := by
  obtain ⟨es, clock, hb, F, hks, hM⟩ := h
  have hwf : (Lit.int .i64 x).wf = true := WalkArith.wf_i64 (by omega)
  have hkey := Maps.keyOf_int_mk (P := Try.prog) (k := 3) Try.underlying3 hwf
  have hroom : es.size < maxLen := by
    have hst := ((stamped_iff es clock).1 F.stamped).2.2
    have hf : ∀ e : MapEntry, ∃ n : Int, e ∈ es.toList → n ∈ ks ∧ e.key = .int .i64 n := fun e => by
      by_cases he : e ∈ es.toList
      · obtain ⟨n, h1, h2⟩ := hks e he
        exact ⟨n, fun _ => ⟨h1, h2⟩⟩
      · exact ⟨0, fun h => absurd h he⟩
    obtain ⟨f, hf⟩ := Classical.axiomOfChoice hf
    have := nodup_sub (es.toList.map f) ks (by
      rw [List.pairwise_map]
      refine List.Pairwise.imp_of_mem ?_ hst
      intro a c ha hc hne e
      apply hne
      rw [(hf a ha).2, (hf c hc).2, e]) (fun x hx => by
        obtain ⟨e, he, rfl⟩ := List.mem_map.1 hx
        exact (hf e he).1)
    simp at this
    unfold maxLen
    omega
  obtain ⟨es', clock', hrun, F', hput, _, _, hwho⟩ := Maps.fit_store (R' := RT) (e := 69) (t := 68) (w := w) (b := b) intKeyed Try.underlying68 hb F hroom (fun _ _ _ _ hz => hz) hkey (val := .agg #[]) (yv := (.held (.agg #[]), [])) rfl
  have hD : mapD Try.prog es' = (mapD Try.prog es).put (.int .i64 x) (.held (.agg #[])) := by
    unfold mapD
    rw [hput, DataW.put_eq]
  refine ⟨_, hrun, ⟨es', clock', heap_setBlock_same hb _, F', fun e he => ?_, fun j hj zd => ?_⟩, ⟨rfl, rfl, rfl, by simp [setBlock], fun i _ hi => heap_setBlock_other hb _ (fun e => hi (by rw [e]))⟩⟩
  · rcases hwho e he with ⟨h1, _⟩ | ⟨h1, _⟩
    · obtain ⟨k, hk, e⟩ := hks e h1
      exact ⟨k, by simp [hk], e⟩
    · exact ⟨x, by simp, h1⟩
  · rw [hD]
    by_cases hjk : j = x
    · subst hjk
      rw [if_pos (by simp)]
      exact Maps.atKey_put_same ⟨_, rfl⟩ (intKeyed.key hkey) _ _
    · have e1 : (j ∈ ks ++ [x]) = (j ∈ ks) := by simp [hjk]
      simp only [e1]
      rw [← hM j hj zd]
      exact Maps.atKey_put_other (fun e => hjk (by injection e)) _ _
theorem wpList_setPut (w : World) {ops : Array Oper} {rest : List Oper} {o : Oper} {a : Act} {Q : Exit → Act → World → Prop}
    (hg : o.guard = none) (m x v : Operand) (hop : o.op = Op.mapUpdate 68 m x v) (b : Nat) (ks : List Int) (hm : a.eval m = .map (some b)) (h : SetIs w b ks) (k : Int) (hk : -9223372036854775808 ≤ k ∧ k ≤ 9223372036854775807) (hN : ks.length ≤ 1000000)
    (hx : a.eval x = .int .i64 k) (hv : a.eval v = .agg #[])
    (hK : ∀ w', SetIs w' b (ks ++ [k]) → w.grownBy w' (some b) → wpList Try.prog ops Q rest (a.put o.dst undef) w') : wpList Try.prog ops Q (o :: rest) a w := by
  refine wpList_plain hg fun K' hK' => ?_
  obtain ⟨w', hrun, r1, r2⟩ := h.put k hk hN
  unfold Oper.wp
  simp [execOp, hop, hm, hx, hv, hrun, Result.andThen]
  exact hK' _ _ (hK w' r1 r2)
end Go.Proofs.Ytabffjahelogkaa
