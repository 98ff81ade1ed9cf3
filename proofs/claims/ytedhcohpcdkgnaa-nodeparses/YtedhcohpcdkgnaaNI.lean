/- The readers by their kinds: a map of function values. Conditions: none. -/
import Derived.Test.YtedhcohpcdkgnaaNH
import Derived.Maps.Own
import Derived.Maps.OwnIn
import Derived.Maps.Views
namespace Go.Proofs.Ytedhcohpcdkgnaa
open Go.RowKit Go.Bs
open Go.WideElems (Fit rd rg pl rd_key)
open Go.MapKept Go.ChangeMaps

theorem nodup_sub : ∀ (l ks : List Int), l.Pairwise (· ≠ ·) → (∀ x ∈ l, x ∈ ks) → l.length ≤ ks.length
  | [], _, _, _ => Nat.zero_le _
  | x :: l, ks, hp, h => by
    obtain ⟨h1, h2⟩ := List.pairwise_cons.1 hp
    have hx := h x (by simp)
    have := nodup_sub l (ks.erase x) h2 fun y hy => (List.mem_erase_of_ne (h1 y hy).symm).2 (h y (by simp [hy]))
    rw [List.length_erase_of_mem hx] at this
    have := List.length_pos_of_mem hx
    simp
    omega
/-- every element reads as itself. -/
def RT (v : Value) : Option (DataW Value × List MemPlace) := some (.held v, [])
def mapD (P : Program) (es : Array MapEntry) : DataW Value := .map ((es.toList.map (rg P 3 RT)).foldr DataW.insert [])
theorem intKeyed : Maps.Keyed Try.prog 3 := Maps.int_keyed Try.underlying3
theorem zero59 (w : World) : (zeroValue 59).run Try.prog w = .ok .nilFunc w := by kernel_rfl
/-- block b is a map with the keys ks: F tells what is at each number. -/
def FM (w : World) (b : Nat) (ks : List Int) (F : Int → Option Value) : Prop :=
  ∃ es clock, w.heap[b]? = some (.map es clock) ∧ Fit Try.prog 3 RT es clock ∧ (∀ e ∈ es.toList, ∃ k ∈ ks, e.key = .int .i64 k) ∧
    ∀ x : Int, (Lit.int .i64 x).wf = true → ∀ zd, (mapD Try.prog es).atKey (.int .i64 x) zd = match F x with | some v => .held v | none => zd
theorem FM.made (w : World) : FM (w.alloc (.map #[] 0)) w.heap.size [] (fun _ => none) :=
  ⟨#[], 0, (MapKept.heap_alloc w _).1, ⟨by simp, stamped_empty 0, by simp⟩, by simp, fun _ _ _ => rfl⟩
theorem FM.keep {w w' : World} {b : Nat} {ks : List Int} {F : Int → Option Value} (h : FM w b ks F) (e : w'.heap[b]? = w.heap[b]?) : FM w' b ks F := by
  obtain ⟨es, clock, hb, hr⟩ := h
  exact ⟨es, clock, e.trans hb, hr⟩
theorem FM.lt {w : World} {b : Nat} {ks : List Int} {F : Int → Option Value} (h : FM w b ks F) : b < w.heap.size := by
  obtain ⟨es, clock, hb, _⟩ := h
  exact (Array.getElem?_eq_some_iff.1 hb).1
set_option maxRecDepth 4000 in
theorem FM.look {w : World} {b : Nat} {ks : List Int} {F : Int → Option Value} (h : FM w b ks F) (x : Int) (hx : -9223372036854775808 ≤ x ∧ x ≤ 9223372036854775807) :
    (Instr.lookup 61 (.map (some b)) (.int .i64 x) true).run Try.prog w = .ok (.tuple #[(F x).getD .nilFunc, .bool (F x).isSome]) w := by
  obtain ⟨es, clock, hb, FF, hks, hM⟩ := h
  have hwf : (Lit.int .i64 x).wf = true := WalkArith.wf_i64 (by omega)
  have hkey := Maps.keyOf_int_mk (P := Try.prog) (k := 3) Try.underlying3 hwf
  have hm := hM x hwf
  rcases Maps.fit_look true intKeyed Try.underlying61 (zero59 w) hb FF hkey with ⟨hrun, _, hat⟩ | ⟨e0, y, _, _, hrun, hRv, hat, _⟩
  · have hn : F x = none := by
      cases hF : F x with
      | none => rfl
      | some v =>
        have h1 := hat .nil
        rw [show (DataW.map _ : DataW Value) = mapD Try.prog es from rfl, hm, hF] at h1
        cases h1
    rw [hrun, hn]
    rfl
  · injection hRv with e1
    have h1 := hat .nil
    rw [show (DataW.map _ : DataW Value) = mapD Try.prog es from rfl, hm, ← e1] at h1
    cases hF : F x with
    | none => rw [hF] at h1; cases h1
    | some v =>
      rw [hF] at h1
      injection h1 with h2
      rw [hrun, ← h2]
      rfl
set_option maxRecDepth 4000 in
theorem FM.put {w : World} {b : Nat} {ks : List Int} {F : Int → Option Value} (h : FM w b ks F) (x : Int) (hx : -9223372036854775808 ≤ x ∧ x ≤ 9223372036854775807) (hlen : ks.length ≤ 1000000) (v : Value) :
    ∃ w', (Instr.mapUpdate 61 (.map (some b)) (.int .i64 x) v).run Try.prog w = .ok () w' ∧ FM w' b (ks ++ [x]) (fun y => if y = x then some v else F y) ∧ w.grownBy w' (some b) := by
  obtain ⟨es, clock, hb, FF, hks, hM⟩ := h
  have hwf : (Lit.int .i64 x).wf = true := WalkArith.wf_i64 (by omega)
  have hkey := Maps.keyOf_int_mk (P := Try.prog) (k := 3) Try.underlying3 hwf
  have hroom : es.size < maxLen := by
    have hst := ((stamped_iff es clock).1 FF.stamped).2.2
    have hf : ∀ e : MapEntry, ∃ n : Int, e ∈ es.toList → n ∈ ks ∧ e.key = .int .i64 n := fun e => by
      by_cases he : e ∈ es.toList
      · obtain ⟨n, h1, h2⟩ := hks e he
        exact ⟨n, fun _ => ⟨h1, h2⟩⟩
      · exact ⟨0, fun h => absurd h he⟩
    obtain ⟨f, hf⟩ := Classical.axiomOfChoice hf
    have := nodup_sub (es.toList.map f) ks (by
      rw [List.pairwise_map]
      refine List.Pairwise.imp_of_mem ?_ hst
      intro a c ha hc hne e
      apply hne
      rw [(hf a ha).2, (hf c hc).2, e]) (fun x hx => by
        obtain ⟨e, he, rfl⟩ := List.mem_map.1 hx
        exact (hf e he).1)
    simp at this
    unfold maxLen
    omega
  obtain ⟨es', clock', hrun, F', hput, _, _, hwho⟩ := Maps.fit_store (R' := RT) (e := 59) (t := 61) (w := w) (b := b) intKeyed Try.underlying61 hb FF hroom (fun _ _ _ _ hz => hz) hkey (val := v) (yv := (.held v, [])) rfl
  have hD : mapD Try.prog es' = (mapD Try.prog es).put (.int .i64 x) (.held v) := by
    unfold mapD
    rw [hput, DataW.put_eq]
  refine ⟨_, hrun, ⟨es', clock', heap_setBlock_same hb _, F', fun e he => ?_, fun j hj zd => ?_⟩, ⟨rfl, rfl, rfl, by simp [setBlock], fun i _ hi => heap_setBlock_other hb _ (fun e => hi (by rw [e]))⟩⟩
  · rcases hwho e he with ⟨h1, _⟩ | ⟨h1, _⟩
    · obtain ⟨k, hk, e⟩ := hks e h1
      exact ⟨k, by simp [hk], e⟩
    · exact ⟨x, by simp, h1⟩
  · rw [hD]
    by_cases hjk : j = x
    · subst hjk
      rw [show (fun y => if y = j then some v else F y) j = some v from if_pos rfl]
      exact Maps.atKey_put_same ⟨_, rfl⟩ (intKeyed.key hkey) _ _
    · rw [show (fun y => if y = x then some v else F y) j = F j from if_neg hjk, ← hM j hj zd]
      exact Maps.atKey_put_other (fun e => hjk (by injection e)) _ _
theorem wpList_fmPut (w : World) {ops : Array Oper} {rest : List Oper} {o : Oper} {a : Act} {Q : Exit → Act → World → Prop}
    (hg : o.guard = none) (m x v : Operand) (hop : o.op = Op.insert 61 m x v) (b : Nat) (ks : List Int) (F : Int → Option Value) (hm : a.eval m = .map (some b)) (h : FM w b ks F) (k : Int) (hk : -9223372036854775808 ≤ k ∧ k ≤ 9223372036854775807) (hN : ks.length ≤ 1000000)
    (u : Value) (hx : a.eval x = .int .i64 k) (hv : a.eval v = u)
    (hK : ∀ w', FM w' b (ks ++ [k]) (fun y => if y = k then some u else F y) → w.grownBy w' (some b) → wpList Try.prog ops Q rest (a.put o.dst undef) w') : wpList Try.prog ops Q (o :: rest) a w := by
  refine wpList_plain hg fun K' hK' => ?_
  obtain ⟨w', hrun, r1, r2⟩ := h.put k hk hN u
  unfold Oper.wp
  simp [execOp, hop, hm, hx, hv, hrun, Result.andThen]
  exact hK' _ _ (hK w' r1 r2)
/-- what the readers tell at a kind. -/
def rdF (bx : Nat) (x : Int) : Option Value := if x = 2 then some (.func (.func 43) #[] #[.pointer (some ⟨bx, 0, none⟩)]) else if x = 1 then some (.func (.func 41) #[] #[.pointer (some ⟨bx, 0, none⟩)]) else none
theorem readers_any (w : World) (z : Nat) : Calls Try.prog 27 #[.pointer (some ⟨z, 0, none⟩)] w fun e w' => ∃ b, e = .returned (.map (some b)) ∧ FM w' b [1, 2] (rdF w.heap.size) ∧ w'.cell? ⟨w.heap.size, 0, none⟩ = some (.pointer (some ⟨z, 0, none⟩)) ∧ Below w.heap.size w w' := by
  obtain ⟨g, hg⟩ : ∃ g, w.heap.size = g := ⟨_, rfl⟩
  have HG := Lib.hid hg
  obtain ⟨W1, hW1⟩ : ∃ W1, w.alloc (.cells #[.pointer (some ⟨z, 0, none⟩)] 56) = W1 := ⟨_, rfl⟩
  have hs1 : W1.heap.size = g + 1 := by rw [← hW1]; simp [hg]
  have hc1 : W1.cell? ⟨g, 0, none⟩ = some (.pointer (some ⟨z, 0, none⟩)) := by
    rw [← hW1, cell_of_row _ g 0 #[.pointer (some ⟨z, 0, none⟩)] 56 (0, 0) (by rw [← hg]; exact heap_alloc_new w _)]; rfl
  have hb1 : Below g w W1 := by rw [← hW1, ← hg]; exact (Below.refl _ _).alloc (Nat.le_refl _) _
  obtain ⟨W2, hW2⟩ : ∃ W2, W1.alloc (.map #[] 0) = W2 := ⟨_, rfl⟩
  have hmk : (Instr.makeMap 61 none).run Try.prog W1 = .ok (.map (some (g + 1))) W2 := by rw [← hW2, ← hs1]; rfl
  have hfm : FM W2 (g + 1) [] (fun _ => none) := by rw [← hW2, ← hs1]; exact FM.made W1
  have hb2 : Below g w W2 := by rw [← hW2]; exact hb1.alloc (by omega) _
  have hc2 : W2.cell? ⟨g, 0, none⟩ = some (.pointer (some ⟨z, 0, none⟩)) := by
    rw [← hW2]; exact ((Below.refl W1.heap.size W1).alloc (Nat.le_refl _) _).cell (p := ⟨g, 0, none⟩) (by show g < _; omega) |>.trans hc1
  have HB2 := Lib.hid hb2
  have HC2 := Lib.hid hc2
  have HS2 : Hid (g + 1 < W2.heap.size) := hfm.lt
  clear hb1 hb2 hc1 hc2 hs1 hW2
  rw [hg]
  go_enter Try.func27, Try.ntmps27
  go_wp2_with (first
    | (refine wpList_fmPut _ rfl (.tmp 3) _ (.tmp 4) rfl (g + 1) [] (fun _ => none) rfl hfm 1 (by omega) (by simp) _ rfl rfl ?_; intro w3 hf3 hg3)
    | (refine wpList_fmPut _ rfl (.tmp 3) _ (.tmp 5) rfl (g + 1) _ _ rfl hf3 2 (by omega) (by simp) _ rfl rfl ?_; intro w4 hf4 hg4))
  go_ret
  have hg34 : ∀ k, k < g + 1 → w4.heap[k]? = W2.heap[k]? := fun k hk => (hg4.block k (by have := hg3.size; have := HS2.out; omega) (by simp; omega)).trans (hg3.block k (by have := HS2.out; omega) (by simp; omega))
  refine ⟨_, rfl, ?_, (cell_of_blk (hg34 g (by omega))).trans HC2.out, ?_⟩
  · exact hf4
  · rw [HG.out] at *
    exact ⟨hg4.os.trans (hg3.os.trans HB2.out.os), hg4.tape.trans (hg3.tape.trans HB2.out.tape), hg4.output.trans (hg3.output.trans HB2.out.output), Nat.le_trans HB2.out.size (Nat.le_trans hg3.size hg4.size), fun k hk => (hg34 k (by omega)).trans (HB2.out.block k hk)⟩
end Go.Proofs.Ytedhcohpcdkgnaa
