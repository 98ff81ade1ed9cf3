/- Arming, power, the cache emptied. Conditions: none. slices.Backward over the cache. Conditions: none. -/
import Derived.Test.YtephmcbofcfpmaaGreatJ04
import Derived.Laws.CopyRow
import Derived.RangeFuncNested
import Derived.RangeFuncBound
import Derived.RangeFuncCalls
import Derived.RangeFuncLeaves
import Derived.Shelf.Abstract
import Derived.Shelf.RegionOpen
import Derived.WalkKit
import Derived.OwnWalkIn
import Derived.TacticsInMore
import Derived.LoopNIn
import Derived.LoopIn
import Derived.Maps.OwnIn
set_option maxRecDepth 8000
set_option linter.unusedSimpArgs false
set_option linter.unusedVariables false
namespace Go.Proofs.YtephmcbofcfpmaaGreat
open Go.RowKit Go.Bs Go.Dk

theorem dc_set {w : World} {g : Nat} {s : S} {m : Nat} {cv kv : Value} (h : w.heap[g]? = some (.cells (dc s m cv kv) 100 (0, 0))) (i : Nat) (v : Value) (s' : S) (m' : Nat) (cv' kv' : Value) (e : (dc s m cv kv).setIfInBounds i v = dc s' m' cv' kv') :
    (w.setCell ⟨g, i, none⟩ v).heap[g]? = some (.cells (dc s' m' cv' kv') 100 (0, 0)) := by
  rw [setCell_eq_setRow w g i _ 100 (0, 0) v h, setRow_heap w g _ _ 100 _ h, e]
theorem setCell_other (w : World) (g i k : Nat) (v : Value) (h : k ≠ g) : (w.setCell ⟨g, i, none⟩ v).heap[k]? = w.heap[k]? := Below.heap_setCell w ⟨g, i, none⟩ v k h
theorem setCell_size (w : World) (a : Addr) (v : Value) : (w.setCell a v).heap.size = w.heap.size := by simp [World.setCell]

/-- the disk's own block alone turned, and not in what the map and the cache tell. -/
theorem DB.own {w w' : World} {g : Nat} {s s' : S} {D : Nat → Prop} {m : Nat} {cv kv kv' : Value} {M : Nat → Value} {E : List Ent} (h : DB w g s D m cv kv M E) (hok : s'.Ok)
    (e1 : s'.sectors = s.sectors) (e2 : s'.bytes = s.bytes) (e3 : s'.L = s.L) (e4 : s'.c = s.c) (hrow : w'.heap[g]? = some (.cells (dc s' m cv kv') 100 (0, 0))) (hs : w.heap.size ≤ w'.heap.size)
    (hk : ∀ k, D k → k ≠ g → w'.heap[k]? = w.heap[k]?) (D' : Nat → Prop) (hD : ∀ k, D k → D' k) (hlt : ∀ k, D' k → k < w'.heap.size) (hkeep : KeepAt w' (Dd D' g m cv) kv' s'.keep) : DB w' g s' D' m cv kv' M E := by
  have hdd : ∀ k, Dd D g m cv k → Dd D' g m cv k := fun k hd => ⟨hD k hd.1, hd.2⟩
  have hmv := h.data.move hs (fun k hd => hk k hd.1 hd.2.1) hdd
  refine ⟨hok, hrow, by rw [e1]; exact h.map.keep (hk m h.mD (fun e => h.gm e.symm)), ownsRow_keepB h.cache fun k e => hk k (h.cD k e).1 (h.cD k e).2.1, fun k e => ⟨hD k (h.cD k e).1, (h.cD k e).2⟩, by rw [e4]; exact h.elen,
    ⟨fun k hk' => ?_, fun i hi => ?_, hkeep⟩, hD g h.gD, hD m h.mD, h.gm, hlt⟩
  · rw [e2, e3, e4]; exact hmv.vals k (by rw [← e1]; exact hk')
  · rw [e2, e3, e4]; exact hmv.ents i (by rw [← e4]; exact hi)
/-- the same list armed. -/
theorem DB.own' {w w' : World} {g : Nat} {s s' : S} {D : Nat → Prop} {m : Nat} {cv kv : Value} {M : Nat → Value} {E : List Ent} (h : DB w g s D m cv kv M E) (hok : s'.Ok)
    (e1 : s'.sectors = s.sectors) (e2 : s'.bytes = s.bytes) (e3 : s'.L = s.L) (e4 : s'.c = s.c) (e5 : s'.keep = s.keep) (hrow : w'.heap[g]? = some (.cells (dc s' m cv kv) 100 (0, 0))) (hs : w.heap.size = w'.heap.size)
    (hk : ∀ k, k ≠ g → w'.heap[k]? = w.heap[k]?) : DB w' g s' D m cv kv M E :=
  h.own hok e1 e2 e3 e4 hrow (by omega) (fun k _ hn => hk k hn) D (fun _ h => h) (fun k hd => by rw [← hs]; exact h.lt k hd) (by rw [e5]; exact h.data.keep.keep (by omega) (fun k hd => hk k hd.2.1) (fun _ h => h))

theorem _root_.Go.Dk.S.Ok.arm {s : S} (h : s.Ok) (n : Int) (hn : n ≤ 9223372036854775807) (ks : List Bool) : (s.arm n ks).Ok :=
  ⟨h.s0, h.s1, h.b0, h.b1, h.cd, by show n.toNat ≤ _; omega, h.cs, h.ls⟩

theorem _root_.Go.Dk.S.Ok.on {s : S} (h : s.Ok) : s.on.Ok := ⟨h.s0, h.s1, h.b0, h.b1, h.cd, Nat.zero_le _, h.cs, h.ls⟩
/-! ### forget -/
theorem elem60 : Tryz.prog.elem 98 = 128 := by kernel_rfl
theorem size66 (w : World) : (sizeOf 128).run Tryz.prog w = .ok 3 w := by kernel_rfl
theorem zero66 (w : World) : (zeroValue 128).run Tryz.prog w = .ok (.agg #[.int .i64 0, .slice none 0 0, .slice none 0 0]) w := by kernel_rfl
theorem slice_none60 (A : Option Addr) (n c : Nat) (w : World) : (Instr.slice 98 (.slice A n c) none (some (.int .i64 0)) none).run Tryz.prog w = .ok (.slice A 0 c) w := by
  rw [run_slice_h (P := Tryz.prog) w 98 A n c (by rw [elem60]; exact Tryz.underlying98) .i64 0 (by omega) (by omega), elem60, size66, Result.andThen_ok]
  cases A <;> simp [sliced]
  rename_i a
  unfold Addr.add
  split <;> simp_all
theorem zc_one (n : Nat) : ∀ v ∈ (Builtin.zeroCells #[.int .i64 0, .slice none 0 0, .slice none 0 0] n).toList, v.oneCell' = true := by
  intro v hv
  simp only [Builtin.zeroCells, Array.toList_map, List.mem_map] at hv
  obtain ⟨i, _, rfl⟩ := hv
  have : i % 3 < 3 := Nat.mod_lt _ (by omega)
  show ((#[Value.int .i64 0, .slice none 0 0, .slice none 0 0] : Array Value)[i % 3]!).oneCell' = true
  match h : i % 3, this with
  | 0, _ => rfl
  | 1, _ => rfl
  | 2, _ => rfl
theorem run_clear (w : World) (cv : Value) (n : Nat) (xs : List Value) (h : w.ownsRow 0 128 3 cv n xs) (ty : TypeId) :
    ∃ w' xs', (Builtin.clear_ #[98] ty #[cv]).run Tryz.prog w = .ok (.tuple #[]) w' ∧ w'.ownsRow 0 128 3 cv n xs' ∧ w.grownBy w' cv.ownBlock := by
  have hr : w.grownBy w cv.ownBlock := ⟨rfl, rfl, rfl, Nat.le_refl _, fun _ _ _ => rfl⟩
  rcases h.2 with ⟨rfl, rfl⟩ | ⟨g, cap, cur, rfl, h1, h2, h3, h4, h5, h6⟩
  · exact ⟨w, xs, by simp [Builtin.clear_, run_underlying Tryz.underlying98], h, hr⟩
  · rcases n with _ | n
    · exact ⟨w, xs, by simp [Builtin.clear_, run_underlying Tryz.underlying98], h, hr⟩
    · have hst := run_storeCells_at Tryz.prog g 0 128 (Builtin.zeroCells #[.int .i64 0, .slice none 0 0, .slice none 0 0] (n + 1)).toList 0 cur w h2 (by rw [Array.length_toList, size_zeroCells, h5]; simp; omega) (zc_one _)
      obtain ⟨cs, hcs⟩ : ∃ cs : Array Value, (cur.toList.take (0 + 0) ++ (Builtin.zeroCells #[.int .i64 0, .slice none 0 0, .slice none 0 0] (n + 1)).toList ++ cur.toList.drop (0 + 0 + (Builtin.zeroCells #[.int .i64 0, .slice none 0 0, .slice none 0 0] (n + 1)).toList.length)).toArray = cs := ⟨_, rfl⟩
      have hsz : cs.size = cap * 3 := by
        rw [← hcs]
        simp only [List.size_toArray, List.length_append, List.length_take, List.length_drop, Array.length_toList, size_zeroCells, h5]
        simp
        omega
      rw [hcs] at hst
      refine ⟨w.setRow g cs, cs.toList.take ((n + 1) * 3), ?_, ⟨?_, .inr ⟨g, cap, cs, rfl, h1, setRow_heap w g _ _ 128 _ h2, h3, h4, hsz, rfl⟩⟩, grown_setRow w g cs⟩
      · simp [Builtin.clear_, run_underlying Tryz.underlying98, zero66, Value.cells, hst]
      · simp [hsz]; omega

set_option maxHeartbeats 1000000 in
theorem forget_any (w : World) (g : Nat) (s : S) (m : Nat) (cv kv : Value) (n : Nat) (xs : List Value) (hrow : w.heap[g]? = some (.cells (dc s m cv kv) 100 (0, 0))) (hc : w.ownsRow 0 128 3 cv n xs) (hne : cv.ownBlock ≠ some g) :
    Calls Tryz.prog 82 #[.pointer (some ⟨g, 0, none⟩)] w fun e w' => (∃ v, e = .returned v) ∧ ∃ cv', w'.heap[g]? = some (.cells (dc s m cv' kv) 100 (0, 0)) ∧ w'.ownsRow 0 128 3 cv' 0 [] ∧ cv'.ownBlock = cv.ownBlock ∧ Fr (fun k => k = g ∨ cv.ownBlock = some k) w w' := by
  obtain ⟨w1, xs', hrun, ho1, hg1⟩ := run_clear w cv n xs hc 0
  have hrow1 := (hg1.block g (Array.getElem?_eq_some_iff.1 hrow).1 (fun e => hne e.symm)).trans hrow
  obtain ⟨_, _, _, c3, _⟩ := dc_cells hrow
  obtain ⟨_, _, _, c3', _, _, _, _, hf⟩ := dc_cells hrow1
  have hf3 := hf 3
  obtain ⟨A, cap, rfl, hcap⟩ : ∃ A cap, cv = .slice A n cap ∧ w1.ownsRow 0 128 3 (.slice A 0 cap) 0 [] := by
    rcases ho1.2 with ⟨rfl, rfl⟩ | ⟨g', cap, cur, rfl, h1, h2, h3, h4, h5, h6⟩
    · exact ⟨none, 0, rfl, rfl, .inl ⟨rfl, rfl⟩⟩
    · exact ⟨_, cap, rfl, rfl, .inr ⟨g', cap, cur, rfl, h1, h2, Nat.zero_le _, h4, h5, by simp⟩⟩
  have hsl := slice_none60 A n cap
  have HG := Lib.hid hg1
  have HC := Lib.hid hcap
  have HR := Lib.hid hrow1
  have HN := Lib.hid hne
  clear hg1 hcap hrow1 hne hrow hc ho1 hf
  go_enter Tryz.func82, Tryz.ntmps82
  go_wp2
  go_end0
  refine ⟨⟨_, rfl⟩, .slice A 0 cap, dc_set HR.out 3 _ s m _ kv rfl, ownsRow_keepB HC.out fun k e => setCell_other _ _ _ _ _ (fun e2 => HN.out ?_), by cases A <;> rfl, ?_⟩
  · subst e2; rw [← e]; cases A <;> rfl
  · exact Fr.setCell ((Fr.refl _ _).grown HG.out fun k e => .inl (.inr e)) (.inl (.inl rfl)) _
end Go.Proofs.YtephmcbofcfpmaaGreat

set_option maxRecDepth 8000
set_option linter.unusedSimpArgs false
set_option linter.unusedVariables false
namespace Go.Proofs.YtephmcbofcfpmaaGreat
open Go.RowKit Go.Bs Go.Dk Go.Shelf
attribute [local go_sem] Oper.semAt_some

/-- an entry of the cache with its place, whose sector is one of N. -/
abbrev Al (N : Nat) := { x : Nat × Ent // x.2.1 < N }
def encA {N : Nat} (x : Al N) : Array Value := #[.int .i64 (x.1.1 : Int), .agg #[.int .i64 (x.1.2.1 : Int), sv x.1.2.2.1, sv x.1.2.2.2]]
/-- what has come when k are over, the last first. -/
def back (E : List Ent) (N : Nat) (hE : ∀ i, i < E.length → (eAt E i).1 < N) : Nat → List (Al N)
  | 0 => []
  | k + 1 => if h : k < E.length then back E N hE k ++ [⟨(E.length - 1 - k, eAt E (E.length - 1 - k)), hE _ (by omega)⟩] else back E N hE k
theorem back_length (E : List Ent) (N : Nat) (hE : ∀ i, i < E.length → (eAt E i).1 < N) (k : Nat) (hk : k ≤ E.length) : (back E N hE k).length = k := by
  induction k with
  | zero => rfl
  | succ k ih => rw [back, dif_pos (by omega), List.length_append, ih (by omega)]; rfl
theorem back_succ (E : List Ent) (N : Nat) (hE : ∀ i, i < E.length → (eAt E i).1 < N) (k : Nat) (hk : k < E.length) : back E N hE (k + 1) = back E N hE k ++ [⟨(E.length - 1 - k, eAt E (E.length - 1 - k)), hE _ (by omega)⟩] := by
  rw [back, dif_pos hk]

/-- the cells of entry j. -/
theorem flat_get (E : List Ent) (j : Nat) (hj : j < E.length) : (E.flatMap ent)[j * 3]? = some (.int .i64 ((eAt E j).1 : Int)) ∧ (E.flatMap ent)[j * 3 + 1]? = some (sv (eAt E j).2.1) ∧ (E.flatMap ent)[j * 3 + 2]? = some (sv (eAt E j).2.2) := by
  induction E generalizing j with
  | nil => simp at hj
  | cons e E ih =>
    cases j with
    | zero => exact ⟨rfl, rfl, rfl⟩
    | succ j =>
      have h := ih j (by simpa using hj)
      have e1 : (j + 1) * 3 = j * 3 + 3 := by omega
      rw [e1]
      have e2 : eAt (e :: E) (j + 1) = eAt E j := by simp [eAt]
      rw [e2]
      simpa [List.flatMap_cons, ent] using h
theorem cache_cells {w : World} {A : Option Addr} {n cap : Nat} {E : List Ent} (h : w.ownsRow 0 128 3 (.slice A n cap) E.length (E.flatMap ent)) (hn : 0 < n) :
    ∃ b, A = some ⟨b, 0, none⟩ ∧ n = E.length ∧ n ≤ cap ∧ cap ≤ maxLen ∧ b < w.heap.size ∧ (∀ j, j < E.length → w.cell? ⟨b, j * 3, none⟩ = some (.int .i64 ((eAt E j).1 : Int)) ∧ w.cell? ⟨b, j * 3 + 1, none⟩ = some (sv (eAt E j).2.1) ∧ w.cell? ⟨b, j * 3 + 2, none⟩ = some (sv (eAt E j).2.2)) := by
  rcases h.2 with ⟨e, _⟩ | ⟨b, cap', cur, e, h1, h2, h3, h4, h5, h6⟩
  · cases e; omega
  · cases e
    refine ⟨b, rfl, rfl, h3, h4, (Array.getElem?_eq_some_iff.1 h2).1, fun j hj => ?_⟩
    obtain ⟨f1, f2, f3⟩ := flat_get E j hj
    have hc := h.cells (g := b) rfl
    refine ⟨?_, ?_, ?_⟩
    · have := hc _ _ f1; rwa [addr_add, Nat.zero_add] at this
    · have := hc _ _ f2; rwa [addr_add, Nat.zero_add] at this
    · have := hc _ _ f3; rwa [addr_add, Nat.zero_add] at this

/-- what a round must leave: the box of the slice, and the cache's row. -/
def KpA (Bs : Nat) (cv : Value) (W W' : World) : Prop := W'.heap[Bs]? = W.heap[Bs]? ∧ ∀ k, cv.ownBlock = some k → W'.heap[k]? = W.heap[k]?

set_option maxRecDepth 100000 in
set_option maxHeartbeats 2000000 in
theorem back1_in (F : Fence) (nn : Nat) (h38 : F.fn 122) (hro : F.round = none) (hn : 1 ≤ nn) (l Bs : Nat) (A : Option Addr) (len cap : Nat) (E : List Ent) (N : Nat) (hE : ∀ i, i < E.length → (eAt E i).1 < N) (hlen : E.length = len) (J Jx : List (Al N) → World → Prop)
    (hY : ∀ pre x W, J pre W → pre.length < len → YieldAt F (nn - 1) Tryz.prog l (encA x) W fun e W' =>
      (e = .returned (.bool true) ∧ J (pre ++ [x]) W' ∧ KpA Bs (.slice A len cap) W W') ∨ (e = .returned (.bool false) ∧ Jx (pre ++ [x]) W'))
    (W : World) (hBs : Boxed W Bs 98 (.slice A len cap)) (hc : W.ownsRow 0 128 3 (.slice A len cap) E.length (E.flatMap ent)) (hl : len ≤ 1000000) (h0 : J [] W) :
    CallsIn F nn Tryz.prog 122 #[.func (.yield l) #[] #[], .pointer (some ⟨Bs, 0, none⟩)] W fun e W' => (∃ v, e = .returned v) ∧
      ((∃ ys, ys = back E N hE len ∧ J ys W') ∨ (∃ pre, True ∧ Jx pre W')) := by
  have HLEN := Lib.hid hlen
  have HBs := Lib.hid hBs
  have HC := Lib.hid hc
  have hbc := hBs.cell
  clear hBs hc
  refine callsIn_of_wp Tryz.func122 rfl h38 ?_ hro
  simp only [Tryz.ntmps122, List.size_toArray, List.length_cons, List.length_nil, Nat.reduceAdd, Nat.reduceSub, Array.replicate_succ, Array.replicate_zero, List.push_toArray, List.append_toArray, List.nil_append, List.cons_append]
  gi_wp2
  gi_loopw [3] (fun i wr => ∃ k : Nat, k ≤ len ∧ i = .int .i64 ((len : Int) - 1 - k) ∧ J (back E N hE k) wr ∧ KpA Bs (.slice A len cap) W wr)
    (fun i _ => ((RowKit.intOf i) + 1).toNat)
  case atStart => exact ⟨0, Nat.zero_le _, by simp, h0, rfl, fun _ _ => rfl⟩
  case round =>
    obtain ⟨k, hk, rfl, hJs, hnx⟩ := hrel
    have hb' : Boxed wr Bs 98 (.slice A len cap) := hnx.1.trans HBs.out
    have hbc' := hb'.cell
    have hc' := ownsRow_keepB HC.out fun k e => hnx.2 k e
    by_cases hlt : k < len
    · obtain ⟨b, rfl, hxx, hcap, hcm, hbw, hcells⟩ := cache_cells hc' (by omega)
      clear hxx
      obtain ⟨j, hj⟩ : ∃ j, len - 1 - k = j := ⟨_, rfl⟩
      have hjl : j < len := by omega
      have hij : (len : Int) - 1 - k = (j : Int) := by omega
      obtain ⟨e1, e2, e3⟩ := hcells j (by omega)
      have hw0 : (eAt E (E.length - 1 - k)).1 < N := hE _ (by omega)
      obtain ⟨x, hx⟩ : ∃ x : Al N, x = ⟨(E.length - 1 - k, eAt E (E.length - 1 - k)), hw0⟩ := ⟨⟨_, hw0⟩, rfl⟩
      obtain ⟨fn, tmps, assign, body, hy, hR⟩ := hY _ x wr hJs (by rw [back_length _ _ _ _ (by omega)]; exact hlt)
      have hxe : encA x = #[.int .i64 (j : Int), .agg #[.int .i64 ((eAt E j).1 : Int), sv (eAt E j).2.1, sv (eAt E j).2.2]] := by
        rw [hx]; simp only [encA, hlen, hj]
      rw [hxe] at hy
      have HX : Hid (back E N hE (k + 1) = back E N hE k ++ [x]) := by show _ = _; rw [back_succ _ _ _ _ (by omega), hx]
      rw [hij]
      have HIJ := Lib.hid hij
      clear hx hxe hij hcells hc' hJs
      obtain ⟨⟨A1, n1, c1⟩, hs1⟩ : ∃ x, (eAt E j).2.1 = x := ⟨_, rfl⟩
      obtain ⟨⟨A2, n2, c2⟩, hs2⟩ : ∃ x, (eAt E j).2.2 = x := ⟨_, rfl⟩
      obtain ⟨q, hq⟩ : ∃ q, (eAt E j).1 = q := ⟨_, rfl⟩
      rw [hs1, hs2, hq] at hy
      rw [hq] at e1
      rw [hs1] at e2
      rw [hs2] at e3
      unfold sv at hy e2 e3
      dsimp only at hy e2 e3
      have HNX := Lib.hid hnx
      have HJ := Lib.hid hj
      have HE' := Lib.hid hE
      clear hs1 hs2 hq hb' hnx hY hbc hw0 hj hlen
      gi_wp2
      refine hR.mono ?_
      rintro e W3 (⟨rfl, hJ3, hk3⟩ | ⟨rfl, hJx3⟩)
      · gi_wp2
        go_roundw
        case rel => exact ⟨k + 1, by omega, congrArg (Value.int .i64) (by have := HIJ.out; omega), by rw [HX.out]; exact hJ3, hk3.1.trans HNX.out.1, fun i e => (hk3.2 i e).trans (HNX.out.2 i e)⟩
        case measure => simp [RowKit.intOf]
      · gi_wp2
        refine bodyPost_ret (results_none rfl _ _ _) rfl ?_
        exact ⟨⟨_, rfl⟩, .inr ⟨_, trivial, hJx3⟩⟩
    · obtain rfl : k = len := by omega
      gi_wp2
      go_end0
      exact ⟨⟨_, rfl⟩, .inl ⟨_, rfl, hJs⟩⟩

theorem back_stops (F : Fence) (nn : Nat) (h38 : F.fn 122) (hro : F.round = none) (hn : 1 ≤ nn) (Bs : Nat) (A : Option Addr) (len cap : Nat) (E : List Ent) (N : Nat) (hE : ∀ i, i < E.length → (eAt E i).1 < N) (hlen : E.length = len) (w : World)
    (hBs : Boxed w Bs 98 (.slice A len cap)) (hc : w.ownsRow 0 128 3 (.slice A len cap) E.length (E.flatMap ent)) (hl : len ≤ 1000000) :
    SeqStopsK F nn Tryz.prog 122 #[.pointer (some ⟨Bs, 0, none⟩)] (encA (N := N)) (KpA Bs (.slice A len cap)) (fun ys => ys = back E N hE len) (fun _ => True) len w := fun l J Jx W hW _ _ hY h0 =>
  back1_in F nn h38 hro hn l Bs A len cap E N hE hlen J Jx hY W ((hW.block Bs hBs.lt).trans hBs) (ownsRow_keepB hc fun k e => hW.block k (by
    rcases hc.2 with ⟨e1, _⟩ | ⟨b, c', cur, e1, _, h2, _⟩
    · rw [e1] at e; cases e
    · rw [e1] at e
      have : b = k := by simpa [Value.ownBlock] using e
      subst this
      exact (Array.getElem?_eq_some_iff.1 h2).1)) hl h0

set_option maxHeartbeats 1000000 in
theorem back_any (a : Option Addr) (len cap : Nat) (w : World) :
    Calls Tryz.prog 81 #[.slice a len cap] w fun e w' => e = .returned (.func (.func 122) #[] #[.pointer (some ⟨w.heap.size, 0, none⟩)]) ∧ w' = w.alloc (.cells #[.slice a len cap] 98) := by
  go_enter Tryz.func81, Tryz.ntmps81
  go_wp2
  go_ret
  exact ⟨rfl, rfl⟩
end Go.Proofs.YtephmcbofcfpmaaGreat

