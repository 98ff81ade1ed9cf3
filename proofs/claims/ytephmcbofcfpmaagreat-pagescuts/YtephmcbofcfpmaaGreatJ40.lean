/- The document's pages: Begin. Conditions: none. The document's pages: New. Conditions: none. -/
import Derived.Test.YtephmcbofcfpmaaGreatJ39
import Derived.Deep.RegionLaw
set_option maxRecDepth 8000
set_option linter.unusedSimpArgs false
set_option linter.unusedVariables false
namespace Go.Proofs.YtephmcbofcfpmaaGreat.Rp
open Go.RowKit Go.Bs Go.Dk

theorem step_app {P : Program} {ops : Array Oper} {o : Oper} {a : Act} {w : World} {K : Act → World → Prop} {Q : Exit → Act → World → Prop} {E : Prop} (hgd : o.guard = none) (s x : Operand) (t : TypeId)
    (ho : o.op = .call { callee := .builtin .append, args := #[s, x], argTypes := #[t, t] }) (v1 v2 v' : Value) (w' : World) (hs : a.eval s = v1) (hx : a.eval x = v2) (hrun : ∀ ty, (Builtin.append_ #[t, t] ty #[v1, v2]).run P w = .ok v' w') (h : K (a.put o.dst v') w') :
    if Region.wanted o (yielded ops a.tmps) = true then Oper.wp P o a w K Q else E := by
  have hw : Region.wanted o (yielded ops a.tmps) = true := by simp [Region.wanted, hgd]
  rw [if_pos hw]
  unfold Oper.wp execOp
  simp only [ho, resolve, invoke, builtin, Sem.run_bind, Sem.run_pure, Result.andThen_ok, List.map_toArray, List.map_cons, List.map_nil, hs, hx, hrun]
  exact h
theorem wpList_run_appT {P : Program} (w : World) {ops : Array Oper} {rest : List Oper} {o : Oper} {a : Act} {Q : Exit → Act → World → Prop} (hgd : o.guard = none) (s x : Operand) (t : TypeId)
    (ho : o.op = .call { callee := .builtin .append, args := #[s, x], argTypes := #[t, t] }) (v1 v2 v' : Value) (w' : World) (hs : a.eval s = v1) (hx : a.eval x = v2) (hrun : (Builtin.append_ #[t, t] o.type #[v1, v2]).run P w = .ok v' w') (h : wpList P ops Q rest (a.put o.dst v') w') :
    wpList P ops Q (o :: rest) a w := by
  refine wpList_plain hgd fun K hK => ?_
  unfold Oper.wp execOp
  simp only [ho, resolve, invoke, builtin, Sem.run_bind, Sem.run_pure, Result.andThen_ok, List.map_toArray, List.map_cons, List.map_nil, hs, hx, hrun]
  exact hK _ _ h
/-- a copy of a row of texts. -/
theorem app_texts (w : World) (lb n cap : Nat) (L : Nat → List UInt8) (h : lS w (sl lb n cap) n L) (hn : 0 < n) (hm : n ≤ 100000) :
    ∃ g c w', (Builtin.append_ #[54, 54] 54 #[.slice none 0 0, sl lb n cap]).run Tryz.prog w = .ok (sl g n c) w' ∧ lS w' (sl g n c) n L ∧ w.heap.size ≤ g ∧ Below w.heap.size w w' := by
  obtain ⟨i0, hi, hz0, hz1, hz2⟩ := info_parts string_info
  obtain ⟨lb', cap', e, hcap, hlb, hcell, _⟩ := h.form hn
  cases e
  obtain ⟨g, c, w', hrun, hown, hgr, hat, hlt⟩ := run_append_lies (P := Tryz.prog) w 54 54 w.heap.size 9 i0 _ 1 16 Tryz.underlying54 hi hz0 hz1 hz2 rfl (by omega) (.slice none 0 0) 0 [] ⟨rfl, .inl ⟨rfl, rfl⟩⟩ ⟨lb, 0, none⟩ n cap ((List.range n).map fun k => .string ⟨(L k).toArray⟩) (by simp)
    (fun j u hj => by
      rw [addr_add, Nat.zero_add]
      have hjn : j < n := by
        have := (List.getElem?_eq_some_iff.1 hj).1
        simpa using this
      rw [hcell j hjn, ← hj]
      simp [hjn]) (by intro u hu; obtain ⟨k, _, rfl⟩ := List.mem_map.1 hu; rfl) hn (by unfold maxLen; omega) (by omega) (Nat.le_refl _) _ rfl
  rw [Nat.zero_add] at hrun hown
  refine ⟨g, c, w', hrun, ?_, ?_, ⟨hgr.os, hgr.tape, hgr.output, hgr.size, fun k hk => hgr.block k hk (by simp [Value.ownBlock])⟩⟩
  · refine ⟨by simp, ?_⟩
    rcases hown.2 with ⟨e, h0⟩ | ⟨g', c', cur, e, h1, h2⟩
    · cases e
    · exact .inr ⟨g', c', cur, e, Nat.zero_le _, by simpa using h2⟩
  · rcases hat with e | e
    · cases e
    · omega
theorem op_append39 {o : Oper} {a : Act} {w w' : World} {K : Act → World → Prop} {Q : Exit → Act → World → Prop} (s x : Operand) (hop : o.op = Op.call { callee := Callee.builtin Builtin.append, args := #[s, x], argTypes := #[54, 54] })
    (v1 v2 v' : Value) (hs : a.eval s = v1) (hx : a.eval x = v2) (hrun : (Builtin.append_ #[54, 54] o.type #[v1, v2]).run Tryz.prog w = .ok v' w') (h : K (a.put o.dst v') w') : o.wp Tryz.prog a w K Q := by
  unfold Oper.wp
  simp [execOp, hop, resolve, invoke, builtin, hs, hx, hrun, Result.andThen]
  exact h
theorem madeCells_false (n : Nat) : madeCells #[.bool false] n = ((List.range n).map fun _ => Value.bool false).toArray := by
  apply Array.ext
  · simp [madeCells]
  · intro i h1 h2
    simp [madeCells, Nat.mod_one]
theorem make_false (n : Nat) (hn : n ≤ 281474976710656) (w : World) :
    (Instr.makeSlice 40 (.int .i64 (n : Int)) (.int .i64 (n : Int))).run Tryz.prog w = .ok (.slice (some ⟨w.heap.size, 0, none⟩) n n) (w.alloc (.cells ((List.range n).map fun _ => Value.bool false).toArray 4 (0, 0))) := by
  rw [run_make_row' (P := Tryz.prog) 40 4 (.bool false) 1 Tryz.underlying40 bool_info rfl .i64 .i64 n (by omega) (by omega) w, madeCells_false]
theorem zero44 (w : World) : (zeroValue 56).run Tryz.prog w = .ok (.agg #[.pointer none, .slice none 0 0, .slice none 0 0, .bool false, .bool false]) w := by kernel_rfl
/-- the pages by themselves. -/
structure PG (w : World) (r N B M Log : Nat) (L : Nat → List UInt8) (D : Nat → Prop) (lb cap : Nat) : Prop where
  rowP : w.heap[r]? = some (.cells (pc N B M Log (sl lb N cap)) 59 (0, 0))
  lP : lS w (sl lb N cap) N L
  dP : Dm N B M L
  inD : D r ∧ D lb
  blw : ∀ k, D k → k < w.heap.size
theorem PT.pg {w : World} {r t N B M Log : Nat} {L : Nat → List UInt8} {T : TX} {D : Nat → Prop} {lb cap lt capt wb capw : Nat} (h : PT w r t N B M Log L T D lb cap lt capt wb capw) : PG w r N B M Log L D lb cap := ⟨h.rowP, h.lP, h.dP, ⟨h.inD.1, h.inD.2.2.1⟩, h.blw⟩
set_option maxHeartbeats 2000000 in
theorem Begin_any (w : World) (r N B M Log : Nat) (L : Nat → List UInt8) (D : Nat → Prop) (lb cap : Nat) (h : PG w r N B M Log L D lb cap) :
    Calls Tryz.prog 17 #[.pointer (some ⟨r, 0, none⟩)] w fun e w' => ∃ t D', e = .returned (.pointer (some ⟨t, 0, none⟩)) ∧ PTAt w' r t N B M Log L (TX.new L) D' ∧ (∀ k, D' k → D k ∨ w.heap.size ≤ k) ∧ Below w.heap.size w w' := by
  have HPG := Lib.hid h
  have hn1 := h.dP.n1
  have hmn := h.dP.mn
  obtain ⟨c0, _, _, _, c4, _⟩ := pc_cells h.rowP
  obtain ⟨z, hz⟩ : ∃ z, w.heap.size = z := ⟨_, rfl⟩
  have hmk := make_false N (by omega) w
  obtain ⟨W1, hW1⟩ : ∃ W1, w.alloc (.cells ((List.range N).map fun _ => Value.bool false).toArray 4 (0, 0)) = W1 := ⟨_, rfl⟩
  have hs1 : W1.heap.size = z + 1 := by rw [← hW1, World.size_alloc, hz]
  have hb1 : Below w.heap.size w W1 := by rw [← hW1]; exact (Below.refl _ _).alloc (Nat.le_refl _) _
  have hn1' : W1.heap[z]? = some (.cells ((List.range N).map fun _ => Value.bool false).toArray 4 (0, 0)) := by rw [← hW1, ← hz]; exact heap_alloc_new w _
  rw [hW1, hz] at hmk
  obtain ⟨W2, hW2⟩ : ∃ W2, W1.alloc (.cells #[.pointer (some ⟨r, 0, none⟩), .slice none 0 0, .slice (some ⟨z, 0, none⟩) N N, .bool false, .bool false] 56) = W2 := ⟨_, rfl⟩
  have hs2 : W2.heap.size = z + 2 := by rw [← hW2, World.size_alloc, hs1]
  have hb12 : Below W1.heap.size W1 W2 := by rw [← hW2]; exact (Below.refl _ _).alloc (Nat.le_refl _) _
  have hb2 : Below w.heap.size w W2 := bstep hb1 hb12
  have hrow2 : W2.heap[z + 1]? = some (.cells (tc r (.slice none 0 0) (sl z N N) false false) 56 (0, 0)) := by rw [← hW2, ← hs1]; exact heap_alloc_new W1 _
  have hbw2 : W2.heap[z]? = some (.cells ((List.range N).map fun _ => Value.bool false).toArray 4 (0, 0)) := (hb12.block z (by omega)).trans hn1'
  obtain ⟨t, ht⟩ : ∃ t, z + 1 = t := ⟨_, rfl⟩
  rw [ht] at hrow2 hs1
  have hlt : lb < z := by have := h.blw lb h.inD.2; omega
  have hrt : r < z := by have := h.blw r h.inD.1; omega
  have hlP2 : lS W2.drew (sl lb N cap) N L := lS.keep h.lP (hb2.block lb (by omega))
  obtain ⟨g, c, W3, hrun, hl3, hg3, hb3⟩ := app_texts W2.drew lb N cap L hlP2 (by omega) hn1
  have HRUN : Hid (∀ ty, (Builtin.append_ #[54, 54] ty #[.slice none 0 0, .slice (some ⟨lb, 0, none⟩) N cap]).run Tryz.prog W2.drew = .ok (.slice (some ⟨g, 0, none⟩) N c) W3) := fun ty => hrun
  have hsz2 : W2.drew.heap.size = z + 2 := hs2
  rw [hsz2] at hg3 hb3
  have hrow3 : W3.heap[t]? = some (.cells (tc r (.slice none 0 0) (sl z N N) false false) 56 (0, 0)) := (hb3.block t (by omega)).trans hrow2
  have hrp3 : W3.heap[r]? = some (.cells (pc N B M Log (sl lb N cap)) 59 (0, 0)) := (hb3.block r (by omega)).trans ((hb2.block r (by omega)).trans h.rowP)
  have hS2 : W2.drew.cell? ⟨t, 1, none⟩ = some (.slice none 0 0) ∧ W2.drew.cell? ⟨r, 4, none⟩ = some (.slice (some ⟨lb, 0, none⟩) N cap) := ⟨(tc_cells (w := W2.drew) hrow2).2.1, (pc_cells (w := W2.drew) ((hb2.block r (by omega)).trans h.rowP)).2.2.2.2.1⟩
  have hS3 : W3.cell? ⟨t, 1, none⟩ = some (.slice none 0 0) ∧ W3.cell? ⟨r, 4, none⟩ = some (.slice (some ⟨lb, 0, none⟩) N cap) := ⟨(tc_cells hrow3).2.1, (pc_cells hrp3).2.2.2.2.1⟩
  have hf3 : W3.frozen? ⟨t, 1, none⟩ = false := (tc_cells hrow3).2.2.2.2.2 1
  obtain ⟨W4, hW4⟩ : ∃ W4, W3.setCell ⟨t, 1, none⟩ (.slice (some ⟨g, 0, none⟩) N c) = W4 := ⟨_, rfl⟩
  have h4 : ∀ k, k ≠ t → W4.heap[k]? = W3.heap[k]? := fun k hk => by rw [← hW4]; exact setCell_other _ _ _ _ _ hk
  have hs4 : W4.heap.size = W3.heap.size := by rw [← hW4]; exact setCell_size _ _ _
  have hs3 := hb3.size
  have HPT : Hid (PT W4 r t N B M Log L (TX.new L) (fun k => D k ∨ (z ≤ k ∧ k < W4.heap.size)) lb cap g c z N) := by
    refine ⟨(h4 r (by omega)).trans hrp3, ?_, lS.keep h.lP ((h4 lb (by omega)).trans ((hb3.block lb (by omega)).trans (hb2.block lb (by omega)))), lS.keep hl3 (h4 g (by omega)), ?_, by omega, h.dP, h.dP, ⟨.inl h.inD.1, .inr ⟨by omega, by omega⟩, .inl h.inD.2, .inr ⟨by omega, ?_⟩, .inr ⟨by omega, by omega⟩⟩, fun k hk => ?_⟩
    · rw [← hW4]; exact tc_set hrow3 1 _ _ _ _ _ rfl
    · have hzz : W4.heap[z]? = some (.cells ((List.range N).map fun _ => Value.bool false).toArray 4 (0, 0)) := (h4 z (by omega)).trans ((hb3.block z (by omega)).trans hbw2)
      exact ⟨by simp, .inr ⟨z, N, _, rfl, Nat.zero_le _, hzz, Nat.le_refl _, by unfold maxLen; omega, by simp, by simp [TX.new]; exact List.take_of_length_le (by simp)⟩⟩
    · obtain ⟨cur, hcur⟩ := hl3.blk (by omega)
      have := (Array.getElem?_eq_some_iff.1 hcur).1
      omega
    · rcases hk with hk | hk
      · have := h.blw k hk; omega
      · exact hk.2
  have HB4 : Hid (Below w.heap.size w W4) := by
    show Below _ _ _
    rw [hz]
    have hb2' : Below z w W2 := by rw [← hz]; exact hb2
    have : Below z w W3 := hb2'.drew.trans (hb3.mono (by omega))
    rw [← hW4]
    exact this.setCell (p := ⟨t, 1, none⟩) (by show z ≤ t; omega) _
  have HXX : Hid True := trivial
  have hz44 := zero44
  clear hrun hl3 hb3 hrow3 hrp3 h4 hlP2 hb2 hb12 hb1 hn1' hrow2 hbw2 h
  go_enter Tryz.func17, Tryz.ntmps17
  go_wp2_with fail
  have hx1 := hS2.1
  have hx2 := hS2.2
  have hx3 := hS3.1
  clear hS2 hS3
  go_region_law (refine step_app rfl (.tmp 16) (.tmp 20) 54 rfl _ _ _ _ (by simp [Act.eval, Act.put]) (by simp [Act.eval, Act.put]) HRUN.out ?_)
  all_goals (go_wp2)
  all_goals (go_ret)
  all_goals exact ⟨t, _, rfl, ⟨lb, cap, g, c, z, N, HPT.out⟩, fun k hk => hk.imp id (fun h => by omega), HB4.out⟩
end Go.Proofs.YtephmcbofcfpmaaGreat.Rp

set_option maxRecDepth 8000
set_option linter.unusedSimpArgs false
set_option linter.unusedVariables false
namespace Go.Proofs.YtephmcbofcfpmaaGreat.Rp
open Go.RowKit Go.Bs Go.Dk

theorem zero41 (w : World) : (zeroValue 59).run Tryz.prog w = .ok (.agg #[.int .i64 0, .int .i64 0, .int .i64 0, .int .i64 0, .slice none 0 0]) w := by kernel_rfl
set_option maxHeartbeats 4000000 in
theorem New_any (w : World) (n b log : Nat) (hn0 : 1 ≤ n) (hn : n ≤ 100000) (hb0 : 4 ≤ b) (hb : b ≤ 100000) (hlg : log ≤ 100000) :
    Calls Tryz.prog 14 #[.int .i64 (n : Int), .int .i64 (b : Int), .int .i64 (log : Int)] w fun e w' => ∃ r lb cap, e = .returned (.tuple #[.pointer (some ⟨r, 0, none⟩), .bool (decide (mapN n b + 2 ≤ n))]) ∧ w'.heap[r]? = some (.cells (pc n b (mapN n b) log (sl lb n cap)) 59 (0, 0)) ∧ lS w' (sl lb n cap) n (fun _ => zeros b) ∧ (w.heap.size ≤ r ∧ w.heap.size ≤ lb ∧ lb < w'.heap.size ∧ r < w'.heap.size) ∧ Below w.heap.size w w' := by
  have HM := Lib.hid (Map_any w n b (by omega) hb hn)
  have hml := mapN_le n b (by omega)
  obtain ⟨M, hM⟩ : ∃ M, mapN n b = M := ⟨_, rfl⟩
  have HM' : Hid (Calls Tryz.prog 55 #[.int .i64 (n : Int), .int .i64 (b : Int)] w fun e w' => e = .returned (.int .i64 (M : Int)) ∧ w = w') := by rw [← hM]; exact HM.out
  rw [hM] at hml ⊢
  clear HM hM
  obtain ⟨r, hr⟩ : ∃ r, w.heap.size = r := ⟨_, rfl⟩
  obtain ⟨W, hW⟩ : ∃ W, w.alloc (.cells (pc n b M log (.slice none 0 0)) 59) = W := ⟨_, rfl⟩
  have hWr : W.heap[r]? = some (.cells (pc n b M log (.slice none 0 0)) 59 (0, 0)) := by rw [← hW, ← hr]; exact heap_alloc_new w _
  have hWb : Below w.heap.size w W := by rw [← hW]; exact (Below.refl _ _).alloc (Nat.le_refl _) _
  have HWR := Lib.hid hWr
  have HWB := Lib.hid hWb
  have HS := Lib.hid hr
  have HWS : Hid (W.heap.size = r + 1) := by show W.heap.size = r + 1; rw [← hW, World.size_alloc, hr]
  have hW' : w.alloc (.cells #[.int .i64 (n : Int), .int .i64 (b : Int), .int .i64 (M : Int), .int .i64 (log : Int), .slice none 0 0] 59) = W := hW
  have hz41 := zero41
  rw [hr]
  clear hWr hWb hW
  go_enter Tryz.func14, Tryz.ntmps14
  go_wp2_with fail
  refine HM'.out.mono ?_
  rintro e w1 ⟨rfl, rfl⟩
  go_wp2
  go_loopw [9] (fun i wr => ∃ k : Nat, k ≤ n ∧ i = .int .i64 k ∧ r + 1 ≤ wr.heap.size ∧ Below r w wr ∧ ∃ A cap, wr.heap[r]? = some (.cells (pc n b M log (.slice A k cap)) 59 (0, 0)) ∧ lS wr (.slice A k cap) k (fun _ => zeros b) ∧ ∀ j, Value.ownBlock (.slice A k cap) = some j → r < j ∧ j < wr.heap.size) (fun i _ => n - (RowKit.intOf i).toNat)
  case atStart => exact ⟨0, Nat.zero_le _, rfl, by rw [HWS.out]; exact Nat.le_refl _, by rw [← HS.out]; exact HWB.out, none, 0, HWR.out, ⟨rfl, .inl ⟨rfl, rfl⟩⟩, fun j e => by cases e⟩
  case round =>
    obtain ⟨k, hk, rfl, hsz, hB, A, cap, hrow, hL, hown⟩ := hrel
    obtain ⟨_, _, d2, _, d1, df⟩ := pc_cells hrow
    have df1 := df 4
    by_cases hlt : k < n
    · obtain ⟨z, hz⟩ : ∃ z, wr.heap.size = z := ⟨_, rfl⟩
      have hmk := make_zeros b (by omega) wr.drew
      obtain ⟨X1, hX1⟩ : ∃ X1, wr.drew.alloc (rowObj 5 (zeros b)) = X1 := ⟨_, rfl⟩
      have hX1b : Below z wr X1 := by rw [← hX1, ← hz]; exact (Below.refl _ wr).drew.alloc (Nat.le_refl _) _
      have hX1s : X1.heap.size = z + 1 := by rw [← hX1, World.size_alloc, ← hz]; rfl
      have hst := string_rd X1 (some ⟨z, 0, none⟩) b b (zeros b) (by rw [← hX1, ← hz]; exact (Blk.new wr.drew 5 (zeros b)).all' b b (zeros_length b) (Nat.le_refl _))
      obtain ⟨X2, hX2⟩ : ∃ X2, X1.alloc (.cells #[.string ⟨(zeros b).toArray⟩] 9) = X2 := ⟨_, rfl⟩
      have hX2b : Below z wr X2 := by rw [← hX2]; exact hX1b.alloc (by omega) _
      have hX2s : X2.heap.size = z + 2 := by rw [← hX2, World.size_alloc, hX1s]
      have hX2n : X2.heap[z + 1]? = some (.cells #[.string ⟨(zeros b).toArray⟩] 9 (0, 0)) := by rw [← hX2, ← hX1s]; exact heap_alloc_new X1 _
      have hcX := ownsRow_keepB (w' := X2) hL fun j e => hX2b.block j (by have := (hown j e).2; omega)
      obtain ⟨i0, hi, hz0, hz1, hz2⟩ := info_parts string_info
      obtain ⟨g', cap', w4, hrun, hown4, hgr4, hat, hlt4⟩ := run_append_lies (P := Tryz.prog) X2 54 54 0 9 i0 _ 1 16 Tryz.underlying54 hi hz0 hz1 hz2 rfl (by omega) (.slice A k cap) k _ hcX ⟨z + 1, 0, none⟩ 1 1 [.string ⟨(zeros b).toArray⟩] rfl
        (fun j u hj => by rw [addr_add, Nat.zero_add, cell_of_row X2 (z + 1) j _ 9 (0, 0) hX2n, ← hj]; exact List.getElem?_toArray) (by simp [Value.oneCell']) (by omega) (by unfold maxLen; omega) (by omega) (by omega) _ hX2s
      have hrX : ∀ i, X2.cell? ⟨r, i, none⟩ = wr.cell? ⟨r, i, none⟩ := fun i => hX2b.cell (p := ⟨r, i, none⟩) (by show r < z; omega)
      have hrX1 : ∀ i, X1.cell? ⟨r, i, none⟩ = wr.cell? ⟨r, i, none⟩ := fun i => hX1b.cell (p := ⟨r, i, none⟩) (by show r < z; omega)
      have e1 := (hrX1 4).trans d1
      have e2 := (hrX 4).trans d1
      have hrow4 : w4.heap[r]? = some (.cells (pc n b M log (.slice A k cap)) 59 (0, 0)) := (hgr4.block r (by omega) (fun e => by have := (hown r e.symm).1; omega)).trans ((hX2b.block r (by omega)).trans hrow)
      obtain ⟨_, _, _, _, f1, ff⟩ := pc_cells hrow4
      have ff1 := ff 4
      have hrow5 := pc_set hrow4 (.slice (some ⟨g', 0, none⟩) (k + 1) cap')
      have hg'r : r < g' := by
        rcases hat with e | e
        · exact (hown g' e).1
        · omega
      have hgs := hgr4.size
      have HR5 := Lib.hid hrow5
      have HL5 : Hid (lS (w4.setCell ⟨r, 4, none⟩ (.slice (some ⟨g', 0, none⟩) (k + 1) cap')) (.slice (some ⟨g', 0, none⟩) (k + 1) cap') (k + 1) (fun _ => zeros b)) := by
        unfold lS Hid
        rw [List.range_succ, List.map_append]
        exact ownsRow_keepB hown4 fun j e => setCell_other _ _ _ _ _ (by
          have e' : g' = j := by simpa [Value.ownBlock] using e
          omega)
      have HB5 : Hid (Below r w (w4.setCell ⟨r, 4, none⟩ (.slice (some ⟨g', 0, none⟩) (k + 1) cap'))) := by
        show Below _ _ _
        refine (hB.trans (hX2b.mono (by omega))).trans ?_
        refine Below.trans (b := w4) ⟨hgr4.os, hgr4.tape, hgr4.output, hgr4.size, fun j hj => hgr4.block j (by omega) (fun e => by have := (hown j e.symm).1; omega)⟩ ?_
        exact ⟨rfl, rfl, rfl, by rw [setCell_size]; exact Nat.le_refl _, fun j hj => setCell_other _ _ _ _ _ (by omega)⟩
      have HS5 : Hid (r + 1 ≤ (w4.setCell ⟨r, 4, none⟩ (.slice (some ⟨g', 0, none⟩) (k + 1) cap')).heap.size) := by show _ ≤ _; rw [setCell_size]; omega
      have HG5 : Hid (r < g' ∧ g' < (w4.setCell ⟨r, 4, none⟩ (.slice (some ⟨g', 0, none⟩) (k + 1) cap')).heap.size) := by show _ ∧ _; rw [setCell_size]; exact ⟨hg'r, hlt4⟩
      have hrun' : ∀ ty, (Builtin.append_ #[54, 54] ty #[.slice A k cap, .slice (some ⟨z + 1, 0, none⟩) 1 1]).run Tryz.prog X2 = .ok (.slice (some ⟨g', 0, none⟩) (k + 1) cap') w4 := fun _ => hrun
      have HRUN := Lib.hid hrun'
      have hmk' : (Instr.makeSlice 39 (.int .i64 (b : Int)) (.int .i64 (b : Int))).run Tryz.prog wr.drew = .ok (.slice (some ⟨z, 0, none⟩) b b) X1 := by rw [← hX1, ← hz]; exact hmk
      have hX1s' := hX1s
      clear hrun hrun' hown4 hgr4 hat hlt4 hrX hrX1 hrow4 ff hrow5 hcX hX2n hX2s hX2b hX1b hmk hi hz0 hz1 hz2 hL hrow df hB hown hgs hX1 hg'r hX1s d2
      go_wp2_with fail
      go_region_law (refine step_app rfl (.tmp 27) (.tmp 31) 54 rfl _ _ _ _ (by simp [Act.eval, Act.put]) (by simp [Act.eval, Act.put]) HRUN.out ?_)
      all_goals (go_wp2; go_roundw)
      all_goals first
        | exact ⟨k + 1, by omega, by go_num, HS5.out, HB5.out, some ⟨g', 0, none⟩, cap', HR5.out, HL5.out, fun j e => by
            have e' : g' = j := by simpa [Value.ownBlock] using e
            subst e'
            exact HG5.out⟩
        | (simp [RowKit.intOf]; omega)
    · obtain rfl : k = n := by omega
      obtain ⟨lb, cap', e, _, hlb, _, _⟩ := hL.form (by omega)
      cases e
      have hob := hown lb rfl
      have HROW := Lib.hid hrow
      have HLL := Lib.hid hL
      have HBB := Lib.hid hB
      have hrs : r < wr.heap.size := by omega
      clear hL hrow df hB hown d1
      by_cases hM2 : M + 2 ≤ k
      · go_wp2_with fail
        go_quiet (fail)
        go_wp2
        go_ret2
        exact ⟨r, lb, cap, by simp; omega, HROW.out, HLL.out.keep rfl, ⟨Nat.le_refl _, by omega, hob.2, hrs⟩, below_drewN HBB.out _⟩
      · go_wp2_with fail
        go_quiet (fail)
        go_wp2
        go_ret2
        exact ⟨r, lb, cap, by simp; omega, HROW.out, HLL.out.keep rfl, ⟨Nat.le_refl _, by omega, hob.2, hrs⟩, below_drewN HBB.out _⟩
end Go.Proofs.YtephmcbofcfpmaaGreat.Rp

