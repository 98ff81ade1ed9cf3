/- Arming, power, the cache emptied. Conditions: none. -/
import Derived.Test.YtikajhfaoccicaaD3
import Derived.Laws.CopyRow
namespace Go.Proofs.Ytikajhfaoccicaa
open Go.RowKit Go.Bs Go.Dk

theorem dc_set {w : World} {g : Nat} {s : S} {m : Nat} {cv kv : Value} (h : w.heap[g]? = some (.cells (dc s m cv kv) 62 (0, 0))) (i : Nat) (v : Value) (s' : S) (m' : Nat) (cv' kv' : Value) (e : (dc s m cv kv).setIfInBounds i v = dc s' m' cv' kv') :
    (w.setCell ⟨g, i, none⟩ v).heap[g]? = some (.cells (dc s' m' cv' kv') 62 (0, 0)) := by
  rw [setCell_eq_setRow w g i _ 62 (0, 0) v h, setRow_heap w g _ _ 62 _ h, e]
theorem setCell_other (w : World) (g i k : Nat) (v : Value) (h : k ≠ g) : (w.setCell ⟨g, i, none⟩ v).heap[k]? = w.heap[k]? := Below.heap_setCell w ⟨g, i, none⟩ v k h
theorem setCell_size (w : World) (a : Addr) (v : Value) : (w.setCell a v).heap.size = w.heap.size := by simp [World.setCell]

/-- the disk's own block alone turned, and not in what the map and the cache tell. -/
theorem DB.own {w w' : World} {g : Nat} {s s' : S} {D : Nat → Prop} {m : Nat} {cv kv kv' : Value} {M : Nat → Value} {E : List Ent} (h : DB w g s D m cv kv M E) (hok : s'.Ok)
    (e1 : s'.sectors = s.sectors) (e2 : s'.bytes = s.bytes) (e3 : s'.L = s.L) (e4 : s'.c = s.c) (hrow : w'.heap[g]? = some (.cells (dc s' m cv kv') 62 (0, 0))) (hs : w.heap.size ≤ w'.heap.size)
    (hk : ∀ k, D k → k ≠ g → w'.heap[k]? = w.heap[k]?) (D' : Nat → Prop) (hD : ∀ k, D k → D' k) (hlt : ∀ k, D' k → k < w'.heap.size) (hkeep : KeepAt w' (Dd D' g m cv) kv' s'.keep) : DB w' g s' D' m cv kv' M E := by
  have hdd : ∀ k, Dd D g m cv k → Dd D' g m cv k := fun k hd => ⟨hD k hd.1, hd.2⟩
  have hmv := h.data.move hs (fun k hd => hk k hd.1 hd.2.1) hdd
  refine ⟨hok, hrow, by rw [e1]; exact h.map.keep (hk m h.mD (fun e => h.gm e.symm)), ownsRow_keepB h.cache fun k e => hk k (h.cD k e).1 (h.cD k e).2.1, fun k e => ⟨hD k (h.cD k e).1, (h.cD k e).2⟩, by rw [e4]; exact h.elen,
    ⟨fun k hk' => ?_, fun i hi => ?_, hkeep⟩, hD g h.gD, hD m h.mD, h.gm, hlt⟩
  · rw [e2, e3, e4]; exact hmv.vals k (by rw [← e1]; exact hk')
  · rw [e2, e3, e4]; exact hmv.ents i (by rw [← e4]; exact hi)
/-- the same list armed. -/
theorem DB.own' {w w' : World} {g : Nat} {s s' : S} {D : Nat → Prop} {m : Nat} {cv kv : Value} {M : Nat → Value} {E : List Ent} (h : DB w g s D m cv kv M E) (hok : s'.Ok)
    (e1 : s'.sectors = s.sectors) (e2 : s'.bytes = s.bytes) (e3 : s'.L = s.L) (e4 : s'.c = s.c) (e5 : s'.keep = s.keep) (hrow : w'.heap[g]? = some (.cells (dc s' m cv kv) 62 (0, 0))) (hs : w.heap.size = w'.heap.size)
    (hk : ∀ k, k ≠ g → w'.heap[k]? = w.heap[k]?) : DB w' g s' D m cv kv M E :=
  h.own hok e1 e2 e3 e4 hrow (by omega) (fun k _ hn => hk k hn) D (fun _ h => h) (fun k hd => by rw [← hs]; exact h.lt k hd) (by rw [e5]; exact h.data.keep.keep (by omega) (fun k hd => hk k hd.2.1) (fun _ h => h))

theorem _root_.Go.Dk.S.Ok.arm {s : S} (h : s.Ok) (n : Int) (hn : n ≤ 9223372036854775807) (ks : List Bool) : (s.arm n ks).Ok :=
  ⟨h.s0, h.s1, h.b0, h.b1, h.cd, by show n.toNat ≤ _; omega, h.cs, h.ls⟩

set_option maxHeartbeats 1000000 in
theorem Arm_any (w : World) (g : Nat) (s : S) (D : Nat → Prop) (h : DiskAt w g s D) (i : Int) (hi : i ≤ 9223372036854775807) (A : Option Addr) (n c : Nat) (ks : List Bool) (hr : RdQ w A n c ks) (hn : n ≤ 17592186044416) :
    Calls Try.prog 17 #[.pointer (some ⟨g, 0, none⟩), .int .i64 i, .slice A n c] w fun e w' => (∃ v, e = .returned v) ∧ Did D g (s.arm i ks) w w' := by
  obtain ⟨m, cv, kv, M, E, h⟩ := h
  have HC := Lib.hid (CloneQ_any A n c ks w hr hn)
  have HD := Lib.hid h
  have HL := Lib.hid hr.len
  clear h hr
  have hmax : ∀ W, (Builtin.max_ #[3, 3] 3 #[.int .i64 i, .int .i64 0]).run Try.prog W = .ok (.int .i64 ((i.toNat : Nat) : Int)) W := fun W => by
    rw [run_max_int2]
    congr 2
    split <;> omega
  obtain ⟨i', hi'⟩ : ∃ i' : Nat, i.toNat = i' := ⟨_, rfl⟩
  rw [hi'] at hmax
  have HI := Lib.hid hi'
  clear hi'
  go_enter Try.func17, Try.ntmps17
  go_wp2_with fail
  refine HC.out.mono ?_
  rintro e w1 ⟨A', c', rfl, hq, ha, hb⟩
  have hrow1 := (hb.block g (HD.out.lt g HD.out.gD)).trans HD.out.row
  obtain ⟨_, _, _, _, _, _, c6, c7, hf⟩ := dc_cells hrow1
  have hf6 := hf 6
  have hf7 := hf 7
  have HQ := Lib.hid hq
  have HA := Lib.hid ha
  have HB := Lib.hid hb
  have HR1 := Lib.hid hrow1
  clear hf hq ha hb hrow1
  go_wp2
  go_end0
  refine ⟨⟨_, rfl⟩, ?_⟩
  have hsz := HB.out.size
  have hrow2 := dc_set HR1.out 6 (.int .i64 (i' : Int)) { s with left := i' } m cv kv rfl
  have hrow3 := dc_set hrow2 7 (.slice A' n c') { s with left := i', keep := ks } m cv (.slice A' n c') rfl
  obtain ⟨W3, hW3⟩ : ∃ W3, (w1.setCell ⟨g, 6, none⟩ (.int .i64 (i' : Int))).setCell ⟨g, 7, none⟩ (.slice A' n c') = W3 := ⟨_, rfl⟩
  have hsz3 : W3.heap.size = w1.heap.size := by rw [← hW3, setCell_size, setCell_size]
  have hoth : ∀ k, k ≠ g → W3.heap[k]? = w1.heap[k]? := fun k hk => by rw [← hW3, setCell_other _ _ _ _ _ hk, setCell_other _ _ _ _ _ hk]
  rw [hW3] at hrow3
  have hs' : s.arm i ks = { s with left := i', keep := ks } := by unfold S.arm; rw [HI.out]
  show Did D g (s.arm i ks) w ((w1.setCell ⟨g, 6, none⟩ (.int .i64 (i' : Int))).setCell ⟨g, 7, none⟩ (.slice A' n c'))
  rw [hW3]
  have hD := HD.out
  refine ⟨fun k => D k ∨ (w.heap.size ≤ k ∧ k < w1.heap.size), ⟨m, cv, .slice A' n c', M, E, hD.own (hD.ok.arm i hi ks) rfl rfl rfl rfl (by rw [hs']; exact hrow3) (by omega) (fun k hd hn => (hoth k hn).trans (HB.out.block k (hD.lt k hd))) _ (fun k hd => .inl hd) (fun k hd => ?_) ⟨A', c', ?_, ?_, fun a e => ?_⟩⟩, fun k hd => hd.imp id (·.1), ?_⟩
  · rcases hd with hd | hd
    · have := hD.lt k hd; omega
    · omega
  · show _ = Value.slice A' ks.length c'
    rw [HL.out]
  · have := HQ.out.keepB (w' := W3) (by omega) fun a e => hoth _ (fun e2 => by have := (HA.out a e).1; have := hD.lt g hD.gD; omega)
    show RdQ W3 A' ks.length c' ks
    rw [HL.out]; exact this
  · have h1 := HA.out a e
    refine ⟨.inr h1, fun e2 => ?_, fun e2 => ?_, fun e2 => ?_⟩
    · have := hD.lt g hD.gD; omega
    · have := hD.lt m hD.mD; omega
    · have := hD.lt _ (hD.cD _ e2).1; omega
  · refine (Fr.of HB.out).step (D' := fun k => k = g) ⟨by rw [← hW3]; rfl, by rw [← hW3]; rfl, by rw [← hW3]; rfl, by omega, fun k _ hn => hoth k hn⟩ (fun k e => by subst e; exact .inl hD.gD)
theorem Arm_nil (w : World) (i : Int) (v : Value) : Calls Try.prog 17 #[.pointer none, .int .i64 i, v] w fun e w' => (∃ v, e = .returned v) ∧ w = w' := by
  go_enter Try.func17, Try.ntmps17
  go_wp2
  first | go_end0 | refine bodyPost_ret (results_none rfl _ _ _) rfl ?_
  exact ⟨⟨_, rfl⟩, rfl⟩
theorem _root_.Go.Dk.S.Ok.on {s : S} (h : s.Ok) : s.on.Ok := ⟨h.s0, h.s1, h.b0, h.b1, h.cd, Nat.zero_le _, h.cs, h.ls⟩
set_option maxHeartbeats 1000000 in
theorem On_any (w : World) (g : Nat) (s : S) (D : Nat → Prop) (h : DiskAt w g s D) :
    Calls Try.prog 21 #[.pointer (some ⟨g, 0, none⟩)] w fun e w' => (∃ v, e = .returned v) ∧ Did D g s.on w w' := by
  obtain ⟨m, cv, kv, M, E, h⟩ := h
  obtain ⟨_, _, _, _, c4, _, _, _, hf⟩ := dc_cells h.row
  have hf4 := hf 4
  have hrow2 := dc_set h.row 4 (.bool true) { s with up := true } m cv kv rfl
  have h2 : DB (w.setCell ⟨g, 4, none⟩ (.bool true)) g { s with up := true } D m cv kv M E :=
    h.own' ⟨h.ok.s0, h.ok.s1, h.ok.b0, h.ok.b1, h.ok.cd, h.ok.lf, h.ok.cs, h.ok.ls⟩ rfl rfl rfl rfl rfl hrow2 (setCell_size _ _ _).symm (fun k hk => setCell_other _ _ _ _ _ hk)
  have HA := Lib.hid (Arm_any _ g { s with up := true } D ⟨m, cv, kv, M, E, h2⟩ 0 (by omega) none 0 0 [] (RdQ.nil _ _ _) (by omega))
  have HF : Hid (Fr D w (w.setCell ⟨g, 4, none⟩ (.bool true))) := (Fr.refl _ _).setCell (.inl h.gD) _
  clear h h2 hrow2 hf
  go_enter Try.func21, Try.ntmps21
  go_wp2_with fail
  refine HA.out.mono ?_
  rintro e w2 ⟨⟨v, rfl⟩, hd⟩
  have HD := Lib.hid hd
  clear hd
  go_wp2
  go_end0
  exact ⟨⟨_, rfl⟩, Did.step (fun k h => .inl h) HF.out HD.out⟩
theorem On_nil (w : World) : Calls Try.prog 21 #[.pointer none] w fun e w' => (∃ v, e = .returned v) ∧ w = w' := by
  go_enter Try.func21, Try.ntmps21
  go_wp2
  first | go_end0 | refine bodyPost_ret (results_none rfl _ _ _) rfl ?_
  exact ⟨⟨_, rfl⟩, rfl⟩

/-! ### forget -/
theorem elem60 : Try.prog.elem 60 = 66 := by kernel_rfl
theorem size66 (w : World) : (sizeOf 66).run Try.prog w = .ok 3 w := by kernel_rfl
theorem zero66 (w : World) : (zeroValue 66).run Try.prog w = .ok (.agg #[.int .i64 0, .slice none 0 0, .slice none 0 0]) w := by kernel_rfl
theorem slice_none60 (A : Option Addr) (n c : Nat) (w : World) : (Instr.slice 60 (.slice A n c) none (some (.int .i64 0)) none).run Try.prog w = .ok (.slice A 0 c) w := by
  rw [run_slice_h (P := Try.prog) w 60 A n c (by rw [elem60]; exact Try.underlying60) .i64 0 (by omega) (by omega), elem60, size66, Result.andThen_ok]
  cases A <;> simp [sliced]
  rename_i a
  unfold Addr.add
  split <;> simp_all
theorem zc_one (n : Nat) : ∀ v ∈ (Builtin.zeroCells #[.int .i64 0, .slice none 0 0, .slice none 0 0] n).toList, v.oneCell' = true := by
  intro v hv
  simp only [Builtin.zeroCells, Array.toList_map, List.mem_map] at hv
  obtain ⟨i, _, rfl⟩ := hv
  have : i % 3 < 3 := Nat.mod_lt _ (by omega)
  show ((#[Value.int .i64 0, .slice none 0 0, .slice none 0 0] : Array Value)[i % 3]!).oneCell' = true
  match h : i % 3, this with
  | 0, _ => rfl
  | 1, _ => rfl
  | 2, _ => rfl
theorem run_clear (w : World) (cv : Value) (n : Nat) (xs : List Value) (h : w.ownsRow 0 66 3 cv n xs) (ty : TypeId) :
    ∃ w' xs', (Builtin.clear_ #[60] ty #[cv]).run Try.prog w = .ok (.tuple #[]) w' ∧ w'.ownsRow 0 66 3 cv n xs' ∧ w.grownBy w' cv.ownBlock := by
  have hr : w.grownBy w cv.ownBlock := ⟨rfl, rfl, rfl, Nat.le_refl _, fun _ _ _ => rfl⟩
  rcases h.2 with ⟨rfl, rfl⟩ | ⟨g, cap, cur, rfl, h1, h2, h3, h4, h5, h6⟩
  · exact ⟨w, xs, by simp [Builtin.clear_, run_underlying Try.underlying60], h, hr⟩
  · rcases n with _ | n
    · exact ⟨w, xs, by simp [Builtin.clear_, run_underlying Try.underlying60], h, hr⟩
    · have hst := run_storeCells_at Try.prog g 0 66 (Builtin.zeroCells #[.int .i64 0, .slice none 0 0, .slice none 0 0] (n + 1)).toList 0 cur w h2 (by rw [Array.length_toList, size_zeroCells, h5]; simp; omega) (zc_one _)
      obtain ⟨cs, hcs⟩ : ∃ cs : Array Value, (cur.toList.take (0 + 0) ++ (Builtin.zeroCells #[.int .i64 0, .slice none 0 0, .slice none 0 0] (n + 1)).toList ++ cur.toList.drop (0 + 0 + (Builtin.zeroCells #[.int .i64 0, .slice none 0 0, .slice none 0 0] (n + 1)).toList.length)).toArray = cs := ⟨_, rfl⟩
      have hsz : cs.size = cap * 3 := by
        rw [← hcs]
        simp only [List.size_toArray, List.length_append, List.length_take, List.length_drop, Array.length_toList, size_zeroCells, h5]
        simp
        omega
      rw [hcs] at hst
      refine ⟨w.setRow g cs, cs.toList.take ((n + 1) * 3), ?_, ⟨?_, .inr ⟨g, cap, cs, rfl, h1, setRow_heap w g _ _ 66 _ h2, h3, h4, hsz, rfl⟩⟩, grown_setRow w g cs⟩
      · simp [Builtin.clear_, run_underlying Try.underlying60, zero66, Value.cells, hst]
      · simp [hsz]; omega

set_option maxHeartbeats 1000000 in
theorem forget_any (w : World) (g : Nat) (s : S) (m : Nat) (cv kv : Value) (n : Nat) (xs : List Value) (hrow : w.heap[g]? = some (.cells (dc s m cv kv) 62 (0, 0))) (hc : w.ownsRow 0 66 3 cv n xs) (hne : cv.ownBlock ≠ some g) :
    Calls Try.prog 34 #[.pointer (some ⟨g, 0, none⟩)] w fun e w' => (∃ v, e = .returned v) ∧ ∃ cv', w'.heap[g]? = some (.cells (dc s m cv' kv) 62 (0, 0)) ∧ w'.ownsRow 0 66 3 cv' 0 [] ∧ cv'.ownBlock = cv.ownBlock ∧ Fr (fun k => k = g ∨ cv.ownBlock = some k) w w' := by
  obtain ⟨w1, xs', hrun, ho1, hg1⟩ := run_clear w cv n xs hc 0
  have hrow1 := (hg1.block g (Array.getElem?_eq_some_iff.1 hrow).1 (fun e => hne e.symm)).trans hrow
  obtain ⟨_, _, _, c3, _⟩ := dc_cells hrow
  obtain ⟨_, _, _, c3', _, _, _, _, hf⟩ := dc_cells hrow1
  have hf3 := hf 3
  obtain ⟨A, cap, rfl, hcap⟩ : ∃ A cap, cv = .slice A n cap ∧ w1.ownsRow 0 66 3 (.slice A 0 cap) 0 [] := by
    rcases ho1.2 with ⟨rfl, rfl⟩ | ⟨g', cap, cur, rfl, h1, h2, h3, h4, h5, h6⟩
    · exact ⟨none, 0, rfl, rfl, .inl ⟨rfl, rfl⟩⟩
    · exact ⟨_, cap, rfl, rfl, .inr ⟨g', cap, cur, rfl, h1, h2, Nat.zero_le _, h4, h5, by simp⟩⟩
  have hsl := slice_none60 A n cap
  have HG := Lib.hid hg1
  have HC := Lib.hid hcap
  have HR := Lib.hid hrow1
  have HN := Lib.hid hne
  clear hg1 hcap hrow1 hne hrow hc ho1 hf
  go_enter Try.func34, Try.ntmps34
  go_wp2
  go_end0
  refine ⟨⟨_, rfl⟩, .slice A 0 cap, dc_set HR.out 3 _ s m _ kv rfl, ownsRow_keepB HC.out fun k e => setCell_other _ _ _ _ _ (fun e2 => HN.out ?_), by cases A <;> rfl, ?_⟩
  · subst e2; rw [← e]; cases A <;> rfl
  · exact Fr.setCell ((Fr.refl _ _).grown HG.out fun k e => .inl (.inr e)) (.inl (.inl rfl)) _
end Go.Proofs.Ytikajhfaoccicaa
