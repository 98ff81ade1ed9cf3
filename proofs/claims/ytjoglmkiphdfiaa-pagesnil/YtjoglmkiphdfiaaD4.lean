/- Arming, power, the cache emptied. Conditions: none. -/
import Derived.Test.YtjoglmkiphdfiaaD3
import Derived.Laws.CopyRow
set_option maxRecDepth 8000
namespace Go.Proofs.Ytjoglmkiphdfiaa
open Go.RowKit Go.Bs Go.Dk

theorem dc_set {w : World} {g : Nat} {s : S} {m : Nat} {cv kv : Value} (h : w.heap[g]? = some (.cells (dc s m cv kv) 53 (0, 0))) (i : Nat) (v : Value) (s' : S) (m' : Nat) (cv' kv' : Value) (e : (dc s m cv kv).setIfInBounds i v = dc s' m' cv' kv') :
    (w.setCell ⟨g, i, none⟩ v).heap[g]? = some (.cells (dc s' m' cv' kv') 53 (0, 0)) := by
  rw [setCell_eq_setRow w g i _ 53 (0, 0) v h, setRow_heap w g _ _ 53 _ h, e]
theorem setCell_other (w : World) (g i k : Nat) (v : Value) (h : k ≠ g) : (w.setCell ⟨g, i, none⟩ v).heap[k]? = w.heap[k]? := Below.heap_setCell w ⟨g, i, none⟩ v k h
theorem setCell_size (w : World) (a : Addr) (v : Value) : (w.setCell a v).heap.size = w.heap.size := by simp [World.setCell]

/-- the disk's own block alone turned, and not in what the map and the cache tell. -/
theorem DB.own {w w' : World} {g : Nat} {s s' : S} {D : Nat → Prop} {m : Nat} {cv kv kv' : Value} {M : Nat → Value} {E : List Ent} (h : DB w g s D m cv kv M E) (hok : s'.Ok)
    (e1 : s'.sectors = s.sectors) (e2 : s'.bytes = s.bytes) (e3 : s'.L = s.L) (e4 : s'.c = s.c) (hrow : w'.heap[g]? = some (.cells (dc s' m cv kv') 53 (0, 0))) (hs : w.heap.size ≤ w'.heap.size)
    (hk : ∀ k, D k → k ≠ g → w'.heap[k]? = w.heap[k]?) (D' : Nat → Prop) (hD : ∀ k, D k → D' k) (hlt : ∀ k, D' k → k < w'.heap.size) (hkeep : KeepAt w' (Dd D' g m cv) kv' s'.keep) : DB w' g s' D' m cv kv' M E := by
  have hdd : ∀ k, Dd D g m cv k → Dd D' g m cv k := fun k hd => ⟨hD k hd.1, hd.2⟩
  have hmv := h.data.move hs (fun k hd => hk k hd.1 hd.2.1) hdd
  refine ⟨hok, hrow, by rw [e1]; exact h.map.keep (hk m h.mD (fun e => h.gm e.symm)), ownsRow_keepB h.cache fun k e => hk k (h.cD k e).1 (h.cD k e).2.1, fun k e => ⟨hD k (h.cD k e).1, (h.cD k e).2⟩, by rw [e4]; exact h.elen,
    ⟨fun k hk' => ?_, fun i hi => ?_, hkeep⟩, hD g h.gD, hD m h.mD, h.gm, hlt⟩
  · rw [e2, e3, e4]; exact hmv.vals k (by rw [← e1]; exact hk')
  · rw [e2, e3, e4]; exact hmv.ents i (by rw [← e4]; exact hi)
/-- the same list armed. -/
theorem DB.own' {w w' : World} {g : Nat} {s s' : S} {D : Nat → Prop} {m : Nat} {cv kv : Value} {M : Nat → Value} {E : List Ent} (h : DB w g s D m cv kv M E) (hok : s'.Ok)
    (e1 : s'.sectors = s.sectors) (e2 : s'.bytes = s.bytes) (e3 : s'.L = s.L) (e4 : s'.c = s.c) (e5 : s'.keep = s.keep) (hrow : w'.heap[g]? = some (.cells (dc s' m cv kv) 53 (0, 0))) (hs : w.heap.size = w'.heap.size)
    (hk : ∀ k, k ≠ g → w'.heap[k]? = w.heap[k]?) : DB w' g s' D m cv kv M E :=
  h.own hok e1 e2 e3 e4 hrow (by omega) (fun k _ hn => hk k hn) D (fun _ h => h) (fun k hd => by rw [← hs]; exact h.lt k hd) (by rw [e5]; exact h.data.keep.keep (by omega) (fun k hd => hk k hd.2.1) (fun _ h => h))

theorem _root_.Go.Dk.S.Ok.arm {s : S} (h : s.Ok) (n : Int) (hn : n ≤ 9223372036854775807) (ks : List Bool) : (s.arm n ks).Ok :=
  ⟨h.s0, h.s1, h.b0, h.b1, h.cd, by show n.toNat ≤ _; omega, h.cs, h.ls⟩

theorem _root_.Go.Dk.S.Ok.on {s : S} (h : s.Ok) : s.on.Ok := ⟨h.s0, h.s1, h.b0, h.b1, h.cd, Nat.zero_le _, h.cs, h.ls⟩
/-! ### forget -/
theorem elem60 : Try.prog.elem 51 = 99 := by kernel_rfl
theorem size66 (w : World) : (sizeOf 99).run Try.prog w = .ok 3 w := by kernel_rfl
theorem zero66 (w : World) : (zeroValue 99).run Try.prog w = .ok (.agg #[.int .i64 0, .slice none 0 0, .slice none 0 0]) w := by kernel_rfl
theorem slice_none60 (A : Option Addr) (n c : Nat) (w : World) : (Instr.slice 51 (.slice A n c) none (some (.int .i64 0)) none).run Try.prog w = .ok (.slice A 0 c) w := by
  rw [run_slice_h (P := Try.prog) w 51 A n c (by rw [elem60]; exact Try.underlying51) .i64 0 (by omega) (by omega), elem60, size66, Result.andThen_ok]
  cases A <;> simp [sliced]
  rename_i a
  unfold Addr.add
  split <;> simp_all
theorem zc_one (n : Nat) : ∀ v ∈ (Builtin.zeroCells #[.int .i64 0, .slice none 0 0, .slice none 0 0] n).toList, v.oneCell' = true := by
  intro v hv
  simp only [Builtin.zeroCells, Array.toList_map, List.mem_map] at hv
  obtain ⟨i, _, rfl⟩ := hv
  have : i % 3 < 3 := Nat.mod_lt _ (by omega)
  show ((#[Value.int .i64 0, .slice none 0 0, .slice none 0 0] : Array Value)[i % 3]!).oneCell' = true
  match h : i % 3, this with
  | 0, _ => rfl
  | 1, _ => rfl
  | 2, _ => rfl
theorem run_clear (w : World) (cv : Value) (n : Nat) (xs : List Value) (h : w.ownsRow 0 99 3 cv n xs) (ty : TypeId) :
    ∃ w' xs', (Builtin.clear_ #[51] ty #[cv]).run Try.prog w = .ok (.tuple #[]) w' ∧ w'.ownsRow 0 99 3 cv n xs' ∧ w.grownBy w' cv.ownBlock := by
  have hr : w.grownBy w cv.ownBlock := ⟨rfl, rfl, rfl, Nat.le_refl _, fun _ _ _ => rfl⟩
  rcases h.2 with ⟨rfl, rfl⟩ | ⟨g, cap, cur, rfl, h1, h2, h3, h4, h5, h6⟩
  · exact ⟨w, xs, by simp [Builtin.clear_, run_underlying Try.underlying51], h, hr⟩
  · rcases n with _ | n
    · exact ⟨w, xs, by simp [Builtin.clear_, run_underlying Try.underlying51], h, hr⟩
    · have hst := run_storeCells_at Try.prog g 0 99 (Builtin.zeroCells #[.int .i64 0, .slice none 0 0, .slice none 0 0] (n + 1)).toList 0 cur w h2 (by rw [Array.length_toList, size_zeroCells, h5]; simp; omega) (zc_one _)
      obtain ⟨cs, hcs⟩ : ∃ cs : Array Value, (cur.toList.take (0 + 0) ++ (Builtin.zeroCells #[.int .i64 0, .slice none 0 0, .slice none 0 0] (n + 1)).toList ++ cur.toList.drop (0 + 0 + (Builtin.zeroCells #[.int .i64 0, .slice none 0 0, .slice none 0 0] (n + 1)).toList.length)).toArray = cs := ⟨_, rfl⟩
      have hsz : cs.size = cap * 3 := by
        rw [← hcs]
        simp only [List.size_toArray, List.length_append, List.length_take, List.length_drop, Array.length_toList, size_zeroCells, h5]
        simp
        omega
      rw [hcs] at hst
      refine ⟨w.setRow g cs, cs.toList.take ((n + 1) * 3), ?_, ⟨?_, .inr ⟨g, cap, cs, rfl, h1, setRow_heap w g _ _ 99 _ h2, h3, h4, hsz, rfl⟩⟩, grown_setRow w g cs⟩
      · simp [Builtin.clear_, run_underlying Try.underlying51, zero66, Value.cells, hst]
      · simp [hsz]; omega

set_option maxHeartbeats 1000000 in
theorem forget_any (w : World) (g : Nat) (s : S) (m : Nat) (cv kv : Value) (n : Nat) (xs : List Value) (hrow : w.heap[g]? = some (.cells (dc s m cv kv) 53 (0, 0))) (hc : w.ownsRow 0 99 3 cv n xs) (hne : cv.ownBlock ≠ some g) :
    Calls Try.prog 70 #[.pointer (some ⟨g, 0, none⟩)] w fun e w' => (∃ v, e = .returned v) ∧ ∃ cv', w'.heap[g]? = some (.cells (dc s m cv' kv) 53 (0, 0)) ∧ w'.ownsRow 0 99 3 cv' 0 [] ∧ cv'.ownBlock = cv.ownBlock ∧ Fr (fun k => k = g ∨ cv.ownBlock = some k) w w' := by
  obtain ⟨w1, xs', hrun, ho1, hg1⟩ := run_clear w cv n xs hc 0
  have hrow1 := (hg1.block g (Array.getElem?_eq_some_iff.1 hrow).1 (fun e => hne e.symm)).trans hrow
  obtain ⟨_, _, _, c3, _⟩ := dc_cells hrow
  obtain ⟨_, _, _, c3', _, _, _, _, hf⟩ := dc_cells hrow1
  have hf3 := hf 3
  obtain ⟨A, cap, rfl, hcap⟩ : ∃ A cap, cv = .slice A n cap ∧ w1.ownsRow 0 99 3 (.slice A 0 cap) 0 [] := by
    rcases ho1.2 with ⟨rfl, rfl⟩ | ⟨g', cap, cur, rfl, h1, h2, h3, h4, h5, h6⟩
    · exact ⟨none, 0, rfl, rfl, .inl ⟨rfl, rfl⟩⟩
    · exact ⟨_, cap, rfl, rfl, .inr ⟨g', cap, cur, rfl, h1, h2, Nat.zero_le _, h4, h5, by simp⟩⟩
  have hsl := slice_none60 A n cap
  have HG := Lib.hid hg1
  have HC := Lib.hid hcap
  have HR := Lib.hid hrow1
  have HN := Lib.hid hne
  clear hg1 hcap hrow1 hne hrow hc ho1 hf
  go_enter Try.func70, Try.ntmps70
  go_wp2
  go_end0
  refine ⟨⟨_, rfl⟩, .slice A 0 cap, dc_set HR.out 3 _ s m _ kv rfl, ownsRow_keepB HC.out fun k e => setCell_other _ _ _ _ _ (fun e2 => HN.out ?_), by cases A <;> rfl, ?_⟩
  · subst e2; rw [← e]; cases A <;> rfl
  · exact Fr.setCell ((Fr.refl _ _).grown HG.out fun k e => .inl (.inr e)) (.inl (.inl rfl)) _
end Go.Proofs.Ytjoglmkiphdfiaa
