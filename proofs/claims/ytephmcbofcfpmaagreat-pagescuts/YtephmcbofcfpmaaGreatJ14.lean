/- What is left to do behind a commit that is set. Conditions: none. A set of numbers; whether changes may be committed. Conditions: none. -/
import Derived.Test.YtephmcbofcfpmaaGreatJ13
set_option maxRecDepth 8000
set_option linter.unusedSimpArgs false
set_option linter.unusedVariables false
namespace Go.Proofs.YtephmcbofcfpmaaGreat
open Go.RowKit Go.Bs Go.Dk

set_option maxHeartbeats 2000000 in
theorem finish_any (w : World) (p g : Nat) (s : S) (log : Nat) (down : Bool) (D : Nat → Prop) (h : WalAt w p g s log down D) (A : Option Addr) (n c : Nat) :
    Calls Tryz.prog 119 #[.pointer (some ⟨p, 0, none⟩), .slice A n c] w fun e w' => ∃ q b1 b2, e = .returned (.slice (some ⟨q, 0, none⟩) 4 4) ∧ Below w.heap.size w w' ∧ w.heap.size ≤ q ∧ w.heap.size ≤ b1 ∧ w.heap.size ≤ b2 ∧
      w'.heap[q]? = some (.cells #[.func (.func 144) #[] #[.pointer (some ⟨b1, 0, none⟩), .pointer (some ⟨b2, 0, none⟩)], .func (.func 115) #[.pointer (some ⟨g, 0, none⟩)] #[], .func (.func 146) #[.pointer (some ⟨p, 0, none⟩)] #[], .func (.func 115) #[.pointer (some ⟨g, 0, none⟩)] #[]] 51 (0, 0)) ∧
      w'.cell? ⟨b1, 0, none⟩ = some (.pointer (some ⟨p, 0, none⟩)) ∧ w'.cell? ⟨b2, 0, none⟩ = some (.slice A n c) := by
  obtain ⟨z, hz⟩ : ∃ z, w.heap.size = z := ⟨_, rfl⟩
  obtain ⟨W1, hW1⟩ : ∃ W1, w.alloc (.cells #[.pointer (some ⟨p, 0, none⟩)] 90) = W1 := ⟨_, rfl⟩
  have hs1 : W1.heap.size = z + 1 := by rw [← hW1, World.size_alloc, hz]
  have hb1 : Below w.heap.size w W1 := by rw [← hW1]; exact (Below.refl _ _).alloc (Nat.le_refl _) _
  have hn1 : W1.heap[z]? = some (.cells #[.pointer (some ⟨p, 0, none⟩)] 90 (0, 0)) := by rw [← hW1, ← hz]; exact heap_alloc_new w _
  obtain ⟨W2, hW2⟩ : ∃ W2, W1.alloc (.cells #[.slice A n c] 115) = W2 := ⟨_, rfl⟩
  have hs2 : W2.heap.size = z + 2 := by rw [← hW2, World.size_alloc, hs1]
  have hb12 : Below W1.heap.size W1 W2 := by rw [← hW2]; exact (Below.refl _ _).alloc (Nat.le_refl _) _
  have hb2 : Below w.heap.size w W2 := bstep hb1 hb12
  have hn2 : W2.heap[z + 1]? = some (.cells #[.slice A n c] 115 (0, 0)) := by rw [← hW2, ← hs1]; exact heap_alloc_new W1 _
  have hn2' : W2.heap[z]? = some (.cells #[.pointer (some ⟨p, 0, none⟩)] 90 (0, 0)) := (hb12.block z (by omega)).trans hn1
  have x0 : W2.cell? ⟨z, 0, none⟩ = some (.pointer (some ⟨p, 0, none⟩)) := by rw [cell_of_row W2 z _ _ 90 (0, 0) hn2']; rfl
  have x1 : W2.cell? ⟨z + 1, 0, none⟩ = some (.slice A n c) := by rw [cell_of_row W2 (z + 1) _ _ 115 (0, 0) hn2]; rfl
  have x2 := (wc_cells (h.below hb2).row).1
  have HB2 := Lib.hid hb2
  clear h hb1 hn1 hb12 hb2 hn2 hn2'
  have hmf : ∀ (fn : Fn) (first cap : Array Value) (w : World), (Instr.makeFunc fn first cap).run Tryz.prog w = .ok (.func fn first cap) w := fun _ _ _ _ => rfl
  go_enter Tryz.func119, Tryz.ntmps119
  go_wp2_with fail
  go_still_tail 13, mixed
  go_wp2
  go_ret
  refine ⟨z + 2, z, z + 1, rfl, ?_, by omega, by omega, by omega, ?_, ?_, ?_⟩
  · exact HB2.out.drew.alloc HB2.out.size _
  · rw [← hs2]; exact heap_alloc_new W2.drew _
  · exact (((Below.refl _ W2).drew.alloc (Nat.le_refl _) _).cell (p := ⟨z, 0, none⟩) (by show z < W2.heap.size; omega)).trans x0
  · exact (((Below.refl _ W2).drew.alloc (Nat.le_refl _) _).cell (p := ⟨z + 1, 0, none⟩) (by show z + 1 < W2.heap.size; omega)).trans x1

def finL (log : Nat) (l : List Ch) : List Dd1 := [fun s => s.puts (blkL log l), S.flush, fun s => s.write 0 (zeros s.bytes), S.flush]
def comL (log : Nat) (l : List Ch) : List Dd1 := [fun s => s.puts (logL l), S.flush, fun s => s.write 0 (cmt s.bytes l), S.flush] ++ finL log l
theorem logL_length (l : List Ch) : (logL l).length = l.length := by simp [logL]
theorem blkL_length (log : Nat) (l : List Ch) : (blkL log l).length = l.length := by simp [blkL]
theorem comL_good (log : Nat) (l : List Ch) (M : Nat) (h : l.length + 1 ≤ M) : ∀ i, i < 8 → GoodD M (dAt (comL log l) i) := by
  intro i hi
  match i, hi with
  | 0, _ => exact puts_good (logL l) M (by rw [logL_length]; omega)
  | 1, _ => exact flush_good M (by omega)
  | 2, _ => exact write_good M (by omega) 0 (fun s => cmt s.bytes l)
  | 3, _ => exact flush_good M (by omega)
  | 4, _ => exact puts_good (blkL log l) M (by rw [blkL_length]; omega)
  | 5, _ => exact flush_good M (by omega)
  | 6, _ => exact write_good M (by omega) 0 (fun s => zeros s.bytes)
  | 7, _ => exact flush_good M (by omega)
theorem finL_good (log : Nat) (l : List Ch) (M : Nat) (h : l.length + 1 ≤ M) : ∀ i, i < 4 → GoodD M (dAt (finL log l) i) := fun i hi => comL_good log l M h (i + 4) (by omega)

/-- what the steps of a Commit ask of the changes, in any world that deeds leave. -/
structure MayC (log n : Nat) (l : List Ch) : Prop where
  le : n ≤ log
  len : ∀ j, j < n → (chAt l j).2.length ≤ 100000
  sec : ∀ j, j < n → 0 ≤ (chAt l j).1 ∧ (chAt l j).1 < 65536
theorem box_fr {w W : World} {D : Nat → Prop} {b : Nat} {v : Value} (h : w.cell? ⟨b, 0, none⟩ = some v) (hD : ¬ D b) (hf : Fr D w W) : W.cell? ⟨b, 0, none⟩ = some v :=
  (World.cell?_of_block (a := ⟨b, 0, none⟩) (hf.block b (lt_of_cell h) hD)).trans h
theorem new_not {w : World} {D D' : Nat → Prop} {k : Nat} (h : ∀ k, D' k → D k ∨ w.heap.size ≤ k) (hk : k < w.heap.size) (hD : ¬ D k) : ¬ D' k := fun hd => (h k hd).elim hD (by omega)
theorem wd_of {D : Nat → Prop} {p g : Nat} {s s' : S} {log : Nat} {down : Bool} {W W' : World} (h : WalAt W p g s log down D) (hd : Did D g s' W W') (hz : s'.sectors = s.sectors ∧ s'.bytes = s.bytes) : Wd D p g s' log down W W' :=
  h.did (fun _ h => .inl h) (Fr.refl _ _) hd hz
theorem flush_st (W : World) (p g : Nat) (s : S) (log : Nat) (down : Bool) (D : Nat → Prop) (h : WalAt W p g s log down D) (hd : s.deeds < 900000) :
    Calls Tryz.prog 115 #[.pointer (some ⟨g, 0, none⟩)] W fun e W' => e = .returned (.int .i64 s.flush.2) ∧ Wd D p g s.flush.1 log down W W' :=
  (Flush_any W g s D h.disk hd).mono fun _ _ hh => ⟨hh.1, wd_of h hh.2 (S.flush_sz s)⟩
def fnF (i : Nat) : Nat := [144, 115, 146, 115].getD i 0
def fbF (g p : Nat) (i : Nat) : Array Value := [#[], #[.pointer (some ⟨g, 0, none⟩)], #[.pointer (some ⟨p, 0, none⟩)], #[.pointer (some ⟨g, 0, none⟩)]].getD i #[]
def cpF (b1 b2 : Nat) (i : Nat) : Array Value := [#[.pointer (some ⟨b1, 0, none⟩), .pointer (some ⟨b2, 0, none⟩)], #[], #[], #[]].getD i #[]
theorem ent38 (args : Array Value) (W : World) : (callFunc 144 args).run Tryz.prog W = .ok (.enter 144 args) W := by
  have h := Tryz.func144
  simp [callFunc, h, Tryz.f144]
theorem ent27 (args : Array Value) (W : World) : (callFunc 115 args).run Tryz.prog W = .ok (.enter 115 args) W := by
  have h := Tryz.func115
  simp [callFunc, h, Tryz.f115]
theorem ent40 (args : Array Value) (W : World) : (callFunc 146 args).run Tryz.prog W = .ok (.enter 146 args) W := by
  have h := Tryz.func146
  simp [callFunc, h, Tryz.f146]
theorem ent25 (args : Array Value) (W : World) : (callFunc 113 args).run Tryz.prog W = .ok (.enter 113 args) W := by
  have h := Tryz.func113
  simp [callFunc, h, Tryz.f113]
theorem ent28 (args : Array Value) (W : World) : (callFunc 116 args).run Tryz.prog W = .ok (.enter 116 args) W := by
  have h := Tryz.func116
  simp [callFunc, h, Tryz.f116]
theorem entF : ∀ i, i < 4 → ∀ args W, (callFunc (fnF i) args).run Tryz.prog W = .ok (.enter (fnF i) args) W := by
  intro i hi args W
  match i, hi with
  | 0, _ => exact ent38 args W
  | 1, _ => exact ent27 args W
  | 2, _ => exact ent40 args W
  | 3, _ => exact ent27 args W
theorem fin_step (w : World) (p g : Nat) (s : S) (log : Nat) (down : Bool) (D : Nat → Prop) (A : Option Addr) (n c : Nat) (l : List Ch) (K : Nat → Prop) (hl : Chs w A n c l K) (hKD : ∀ k, K k → ¬ D k) (hm : MayC log n l) (hlog : log ≤ 65536)
    (b1 b2 : Nat) (x1 : w.cell? ⟨b1, 0, none⟩ = some (.pointer (some ⟨p, 0, none⟩))) (x2 : w.cell? ⟨b2, 0, none⟩ = some (.slice A n c)) (h1D : ¬ D b1) (h2D : ¬ D b2) (M : Nat) (hM : n + 1 ≤ M) :
    ∀ i, i < 4 → ∀ W s' D', WalAt W p g s' log down D' → s'.Fine → s'.deeds + M < 900000 → (s'.sectors = s.sectors ∧ s'.bytes = s.bytes) → (∀ k, D' k → D k ∨ w.heap.size ≤ k) → Fr D w W →
      Calls Tryz.prog (fnF i) (fbF g p i ++ cpF b1 b2 i) W fun e W' => e = .returned (.int .i64 (dAt (finL log l) i s').2) ∧ Wd D' p g (dAt (finL log l) i s').1 log down W W' := by
  intro i hi W s' D' hW hf hd hz hD hfr
  match i, hi with
  | 0, _ => exact f1_any W b1 b2 p g s' log down D' hW A n c l K (hl.fr hfr hKD) (fun k hk => new_not hD (hl.lt k hk) (hKD k hk)) (by have := hm.le; omega) (by omega) hf hm.len (fun j hj => ⟨(hm.sec j hj).1, Int.le_of_lt (hm.sec j hj).2⟩) (box_fr x1 h1D hfr) (box_fr x2 h2D hfr)
  | 1, _ => exact flush_st W p g s' log down D' hW (by omega)
  | 2, _ => exact unset_any W p g s' log down D' hW (by omega) hf
  | 3, _ => exact flush_st W p g s' log down D' hW (by omega)
end Go.Proofs.YtephmcbofcfpmaaGreat

set_option maxRecDepth 8000
set_option linter.unusedSimpArgs false
set_option linter.unusedVariables false
namespace Go.Proofs.YtephmcbofcfpmaaGreat
open Go.RowKit Go.Bs Go.Dk
open Go.WideElems (Fit rd rg pl rd_key)
open Go.MapKept Go.ChangeMaps

theorem nodup_sub : ∀ (l ks : List Int), l.Pairwise (· ≠ ·) → (∀ x ∈ l, x ∈ ks) → l.length ≤ ks.length
  | [], _, _, _ => Nat.zero_le _
  | x :: l, ks, hp, h => by
    obtain ⟨h1, h2⟩ := List.pairwise_cons.1 hp
    have hx := h x (by simp)
    have := nodup_sub l (ks.erase x) h2 fun y hy => (List.mem_erase_of_ne (h1 y hy).symm).2 (h y (by simp [hy]))
    rw [List.length_erase_of_mem hx] at this
    have := List.length_pos_of_mem hx
    simp
    omega

/-- block b is a set of the numbers ks. -/
def SetIs (w : World) (b : Nat) (ks : List Int) : Prop :=
  ∃ es clock, w.heap[b]? = some (.map es clock) ∧ Fit Tryz.prog 3 RT es clock ∧ (∀ e ∈ es.toList, ∃ k ∈ ks, e.key = .int .i64 k) ∧
    ∀ x : Int, (Lit.int .i64 x).wf = true → ∀ zd, (mapD Tryz.prog es).atKey (.int .i64 x) zd = if x ∈ ks then .held (.agg #[]) else zd
theorem SetIs.lt {w : World} {b : Nat} {ks : List Int} (h : SetIs w b ks) : b < w.heap.size := by
  obtain ⟨es, clock, hb, _⟩ := h
  exact (Array.getElem?_eq_some_iff.1 hb).1
theorem SetIs.keep {w w' : World} {b : Nat} {ks : List Int} (h : SetIs w b ks) (e : w'.heap[b]? = w.heap[b]?) : SetIs w' b ks := by
  obtain ⟨es, clock, hb, hr⟩ := h
  exact ⟨es, clock, e.trans hb, hr⟩
theorem SetIs.made (w : World) : SetIs (w.alloc (.map #[] 0)) w.heap.size [] :=
  ⟨#[], 0, (MapKept.heap_alloc w _).1, ⟨by simp, stamped_empty 0, by simp⟩, by simp, fun _ _ _ => rfl⟩
theorem zero69 (w : World) : (zeroValue 202).run Tryz.prog w = .ok (.agg #[]) w := by kernel_rfl
set_option maxRecDepth 4000 in
theorem SetIs.look {w : World} {b : Nat} {ks : List Int} (h : SetIs w b ks) (x : Int) (hx : -9223372036854775808 ≤ x ∧ x ≤ 9223372036854775807) :
    (Instr.lookup 201 (.map (some b)) (.int .i64 x) true).run Tryz.prog w = .ok (.tuple #[.agg #[], .bool (decide (x ∈ ks))]) w := by
  obtain ⟨es, clock, hb, F, hks, hM⟩ := h
  have hwf : (Lit.int .i64 x).wf = true := WalkArith.wf_i64 (by omega)
  have hkey := Maps.keyOf_int_mk (P := Tryz.prog) (k := 3) Tryz.underlying3 hwf
  have hm := hM x hwf
  rcases Maps.fit_look true intKeyed Tryz.underlying201 (zero69 w) hb F hkey with ⟨hrun, _, hat⟩ | ⟨e0, y, _, _, hrun, hRv, hat, _⟩
  · have hn : x ∉ ks := fun hin => by
      have h1 := hat .nil
      rw [show (DataW.map _ : DataW Value) = mapD Tryz.prog es from rfl, hm, if_pos hin] at h1
      cases h1
    rw [hrun]
    simp [hn]
  · injection hRv with e1
    have hin : x ∈ ks := Classical.byContradiction fun hin => by
      have h1 := hat .nil
      rw [show (DataW.map _ : DataW Value) = mapD Tryz.prog es from rfl, hm, if_neg hin, ← e1] at h1
      cases h1
    have h1 := hat .nil
    rw [show (DataW.map _ : DataW Value) = mapD Tryz.prog es from rfl, hm, if_pos hin, ← e1] at h1
    injection h1 with h2
    rw [hrun, ← h2]
    simp [hin]
set_option maxRecDepth 4000 in
theorem SetIs.put {w : World} {b : Nat} {ks : List Int} (h : SetIs w b ks) (x : Int) (hx : -9223372036854775808 ≤ x ∧ x ≤ 9223372036854775807) (hlen : ks.length ≤ 1000000) :
    ∃ w', (Instr.mapUpdate 201 (.map (some b)) (.int .i64 x) (.agg #[])).run Tryz.prog w = .ok () w' ∧ SetIs w' b (ks ++ [x]) ∧ w.grownBy w' (some b) := by
  obtain ⟨es, clock, hb, F, hks, hM⟩ := h
  have hwf : (Lit.int .i64 x).wf = true := WalkArith.wf_i64 (by omega)
  have hkey := Maps.keyOf_int_mk (P := Tryz.prog) (k := 3) Tryz.underlying3 hwf
  have hroom : es.size < maxLen := by
    have hst := ((stamped_iff es clock).1 F.stamped).2.2
    have hf : ∀ e : MapEntry, ∃ n : Int, e ∈ es.toList → n ∈ ks ∧ e.key = .int .i64 n := fun e => by
      by_cases he : e ∈ es.toList
      · obtain ⟨n, h1, h2⟩ := hks e he
        exact ⟨n, fun _ => ⟨h1, h2⟩⟩
      · exact ⟨0, fun h => absurd h he⟩
    obtain ⟨f, hf⟩ := Classical.axiomOfChoice hf
    have := nodup_sub (es.toList.map f) ks (by
      rw [List.pairwise_map]
      refine List.Pairwise.imp_of_mem ?_ hst
      intro a c ha hc hne e
      apply hne
      rw [(hf a ha).2, (hf c hc).2, e]) (fun x hx => by
        obtain ⟨e, he, rfl⟩ := List.mem_map.1 hx
        exact (hf e he).1)
    simp at this
    unfold maxLen
    omega
  obtain ⟨es', clock', hrun, F', hput, _, _, hwho⟩ := Maps.fit_store (R' := RT) (e := 202) (t := 201) (w := w) (b := b) intKeyed Tryz.underlying201 hb F hroom (fun _ _ _ _ hz => hz) hkey (val := .agg #[]) (yv := (.held (.agg #[]), [])) rfl
  have hD : mapD Tryz.prog es' = (mapD Tryz.prog es).put (.int .i64 x) (.held (.agg #[])) := by
    unfold mapD
    rw [hput, DataW.put_eq]
  refine ⟨_, hrun, ⟨es', clock', heap_setBlock_same hb _, F', fun e he => ?_, fun j hj zd => ?_⟩, ⟨rfl, rfl, rfl, by simp [setBlock], fun i _ hi => heap_setBlock_other hb _ (fun e => hi (by rw [e]))⟩⟩
  · rcases hwho e he with ⟨h1, _⟩ | ⟨h1, _⟩
    · obtain ⟨k, hk, e⟩ := hks e h1
      exact ⟨k, by simp [hk], e⟩
    · exact ⟨x, by simp, h1⟩
  · rw [hD]
    by_cases hjk : j = x
    · subst hjk
      rw [if_pos (by simp)]
      exact Maps.atKey_put_same ⟨_, rfl⟩ (intKeyed.key hkey) _ _
    · have e1 : (j ∈ ks ++ [x]) = (j ∈ ks) := by simp [hjk]
      simp only [e1]
      rw [← hM j hj zd]
      exact Maps.atKey_put_other (fun e => hjk (by injection e)) _ _
theorem wpList_setPut (w : World) {ops : Array Oper} {rest : List Oper} {o : Oper} {a : Act} {Q : Exit → Act → World → Prop}
    (hg : o.guard = none) (m x v : Operand) (hop : o.op = Op.mapUpdate 201 m x v) (b : Nat) (ks : List Int) (hm : a.eval m = .map (some b)) (h : SetIs w b ks) (k : Int) (hk : -9223372036854775808 ≤ k ∧ k ≤ 9223372036854775807) (hN : ks.length ≤ 1000000)
    (hx : a.eval x = .int .i64 k) (hv : a.eval v = .agg #[])
    (hK : ∀ w', SetIs w' b (ks ++ [k]) → w.grownBy w' (some b) → wpList Tryz.prog ops Q rest (a.put o.dst undef) w') : wpList Tryz.prog ops Q (o :: rest) a w := by
  refine wpList_plain hg fun K' hK' => ?_
  obtain ⟨w', hrun, r1, r2⟩ := h.put k hk hN
  unfold Oper.wp
  simp [execOp, hop, hm, hx, hv, hrun, Result.andThen]
  exact hK' _ _ (hK w' r1 r2)
end Go.Proofs.YtephmcbofcfpmaaGreat

