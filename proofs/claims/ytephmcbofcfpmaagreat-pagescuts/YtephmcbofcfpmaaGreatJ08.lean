/- Flush, Write. Conditions: none. A wal in memory; what is asked of it without a change. Conditions: none. -/
import Derived.Test.YtephmcbofcfpmaaGreatJ07
import Derived.BigRegion
import Derived.Deep.RegionLaw
set_option maxRecDepth 8000
set_option linter.unusedSimpArgs false
set_option linter.unusedVariables false
namespace Go.Proofs.YtephmcbofcfpmaaGreat
open Go.RowKit Go.Bs Go.Dk

theorem forget_did (w : World) (g : Nat) (s : S) (D : Nat → Prop) (h : DiskAt w g s D) :
    Calls Tryz.prog 82 #[.pointer (some ⟨g, 0, none⟩)] w fun e w' => (∃ v, e = .returned v) ∧ Did D g { s with L := cur s.L s.c, c := [] } w w' := by
  obtain ⟨m, cv, kv, M, E, h⟩ := h
  refine (forget_any w g s m cv kv _ _ h.row h.cache (fun e => (h.cD g e).2.1 rfl)).mono ?_
  rintro e w' ⟨he, cv', hrow, hc, hcb, hfr⟩
  have hk : ∀ k, Dd D g m cv k → w'.heap[k]? = w.heap[k]? := fun k hd => hfr.block k (h.lt k hd.1) (by rintro (e | e); exact hd.2.1 e; exact hd.2.2.2 e)
  have hdd : ∀ k, Dd D g m cv k → Dd D g m cv' k := fun k hd => ⟨hd.1, hd.2.1, hd.2.2.1, by rw [hcb]; exact hd.2.2.2⟩
  refine ⟨he, D, ⟨m, cv', kv, M, [], ⟨h.ok.s0, h.ok.s1, h.ok.b0, h.ok.b1, Nat.zero_le _, h.ok.lf, fun p hp => (by cases hp), fun k => h.ok.curLen k⟩, hrow, h.map.keep (hfr.block m (h.lt m h.mD) ?_), hc, fun k e => h.cD k (by rw [← hcb]; exact e), rfl,
    ⟨fun k hk' => (h.data.vals k hk').keep hfr.size hk hdd, fun i hi => absurd hi (by simp), h.data.keep.keep hfr.size hk hdd⟩, h.gD, h.mD, h.gm, fun k hd => Nat.lt_of_lt_of_le (h.lt k hd) hfr.size⟩, fun _ h => .inl h, hfr.mono ?_⟩
  · rintro (e | e)
    · exact h.gm e.symm
    · exact (h.cD m e).2.2 rfl
  · rintro k (e | e)
    · subst e; exact h.gD
    · exact (h.cD k e).1

theorem deed_zero {s : S} (h : s.deed.2 = 0) : s.deed.1.L = s.L ∧ s.deed.1.c = s.c := by
  unfold S.deed at h ⊢
  split
  · exact ⟨rfl, rfl⟩
  · rename_i h0
    rw [if_neg h0] at h
    split
    · rename_i h1
      rw [if_pos h1] at h
      cases h
    · exact ⟨rfl, rfl⟩
theorem deed_two (s : S) : s.deed.2 = 0 ∨ s.deed.2 = 50 := by
  unfold S.deed
  split
  · exact .inl rfl
  · split
    · exact .inr rfl
    · exact .inl rfl

set_option maxHeartbeats 1000000 in
theorem Flush_any (w : World) (g : Nat) (s : S) (D : Nat → Prop) (h : DiskAt w g s D) (hd : s.deeds < 900000) :
    Calls Tryz.prog 115 #[.pointer (some ⟨g, 0, none⟩)] w fun e w' => e = .returned (.int .i64 s.flush.2) ∧ Did D g s.flush.1 w w' := by
  have HDA := Lib.hid h
  obtain ⟨m, cv, kv, M, E, hb⟩ := h
  have HR := Lib.hid (ready_any w g s m cv kv hb.row)
  have HDE := Lib.hid (deed_any w g s D HDA.out hd)
  clear hb
  unfold S.flush
  cases hu : s.up
  · go_enter Tryz.func115, Tryz.ntmps115
    go_wp2_with fail
    refine HR.out.mono ?_
    rintro e w1 ⟨rfl, rfl⟩
    unfold rdy
    rw [hu]
    go_wp2
    go_ret
    exact ⟨rfl, Did.refl HDA.out⟩
  · simp only [Bool.true_eq_false, if_false]
    rcases deed_two s with h0 | h0
    · rw [if_pos h0]
      rw [h0] at HDE
      have e1 := deed_zero h0
      clear h0
      go_enter Tryz.func115, Tryz.ntmps115
      go_wp2_with fail
      refine HR.out.mono ?_
      rintro e w1 ⟨rfl, rfl⟩
      unfold rdy
      rw [hu]
      go_wp2_with fail
      refine HDE.out.mono ?_
      rintro e w2 ⟨rfl, D2, hd2, hk2, hf2⟩
      have HF := Lib.hid (forget_did w2 g s.deed.1 D2 hd2)
      have HK2 := Lib.hid hk2
      have HF2 := Lib.hid hf2
      have HE1 := Lib.hid e1
      clear hd2 hk2 hf2 e1
      go_wp2_with fail
      refine HF.out.mono ?_
      rintro e w3 ⟨⟨v, rfl⟩, hd3⟩
      rw [HE1.out.1, HE1.out.2] at hd3
      have HD3 := Lib.hid hd3
      clear hd3
      go_wp2
      go_ret
      exact ⟨rfl, Did.step HK2.out HF2.out HD3.out⟩
    · rw [if_neg (by rw [h0]; omega), h0]
      rw [h0] at HDE
      clear h0
      go_enter Tryz.func115, Tryz.ntmps115
      go_wp2_with fail
      refine HR.out.mono ?_
      rintro e w1 ⟨rfl, rfl⟩
      unfold rdy
      rw [hu]
      go_wp2_with fail
      refine HDE.out.mono ?_
      rintro e w2 ⟨rfl, hd2⟩
      have HD2 := Lib.hid hd2
      clear hd2
      go_wp2
      go_ret
      exact ⟨rfl, HD2.out⟩
theorem Flush_nil (w : World) : Calls Tryz.prog 115 #[.pointer none] w fun e w' => e = .returned (.int .i64 3) ∧ w = w' := by
  have H := Lib.hid (ready_nil w)
  go_enter Tryz.func115, Tryz.ntmps115
  go_wp2_with fail
  refine H.out.mono ?_
  rintro e w1 ⟨rfl, rfl⟩
  go_wp2
  go_ret
  exact ⟨rfl, rfl⟩
theorem Write_nil (w : World) (i : Int) (v : Value) : Calls Tryz.prog 117 #[.pointer none, .int .i64 i, v] w fun e w' => e = .returned (.int .i64 3) ∧ w = w' := by
  have H := Lib.hid (ready_nil w)
  go_enter Tryz.func117, Tryz.ntmps117
  go_wp2_with fail
  refine H.out.mono ?_
  rintro e w1 ⟨rfl, rfl⟩
  go_wp2
  go_ret
  exact ⟨rfl, rfl⟩

theorem step_app {P : Program} {ops : Array Oper} {o : Oper} {a : Act} {w : World} {K : Act → World → Prop} {Q : Exit → Act → World → Prop} {E : Prop} (hgd : o.guard = none) (s x : Operand) (t : TypeId)
    (ho : o.op = .call { callee := .builtin .append, args := #[s, x], argTypes := #[t, t] }) (v1 v2 v' : Value) (w' : World) (hs : a.eval s = v1) (hx : a.eval x = v2) (hrun : ∀ ty, (Builtin.append_ #[t, t] ty #[v1, v2]).run P w = .ok v' w') (h : K (a.put o.dst v') w') :
    if Region.wanted o (yielded ops a.tmps) = true then Oper.wp P o a w K Q else E := by
  have hw : Region.wanted o (yielded ops a.tmps) = true := by simp [Region.wanted, hgd]
  rw [if_pos hw]
  unfold Oper.wp execOp
  simp only [ho, resolve, invoke, builtin, Sem.run_bind, Sem.run_pure, Result.andThen_ok, List.map_toArray, List.map_cons, List.map_nil, hs, hx, hrun]
  exact h
theorem write_info : (Tryz.prog.info? 128).map (fun i => (i.zero, i.size, i.bytes)) = some (some (.agg #[.int .i64 0, .slice none 0 0, .slice none 0 0]), 3, 56) := by kernel_rfl

theorem eAt_old (E : List Ent) (e : Ent) (i : Nat) (h : i < E.length) : eAt (E ++ [e]) i = eAt E i := by simp [eAt, List.getD, List.getElem?_append_left h]
theorem eAt_new (E : List Ent) (e : Ent) : eAt (E ++ [e]) E.length = e := by simp [eAt, List.getD]
theorem wAt_old (c : List Wr) (e : Wr) (i : Nat) (h : i < c.length) : wAt (c ++ [e]) i = wAt c i := by simp [wAt, List.getD, List.getElem?_append_left h]
theorem wAt_new (c : List Wr) (e : Wr) : wAt (c ++ [e]) c.length = e := by simp [wAt, List.getD]

/-- one write more in the cache. -/
theorem write_at {w w' : World} {g : Nat} {s : S} {D : Nat → Prop} {m : Nat} {cv kv : Value} {M : Nat → Value} {E : List Ent} (h : DB w g s D m cv kv M E) (hfine : s.c.length ≤ s.deeds) (k : Nat) (hk : k < s.sectors) (bs : List UInt8) (hbs : bs.length = s.bytes)
    (Ao : Option Addr) (no co : Nat) (hMk : M k = .slice Ao no co) (g' cap' gc cc : Nat)
    (hown : w'.ownsRow 0 128 3 (.slice (some ⟨g', 0, none⟩) (E.length + 1) cap') (E.length + 1) (E.flatMap ent ++ [.int .i64 (k : Int), .slice Ao no co, .slice (some ⟨gc, 0, none⟩) s.bytes cc]))
    (hg' : cv.ownBlock = some g' ∨ w.heap.size ≤ g') (hg'lt : g' < w'.heap.size) (hgc : w.heap.size ≤ gc) (hgcg : gc ≠ g') (hgclt : gc < w'.heap.size) (hrc : Rd w' (some ⟨gc, 0, none⟩) s.bytes cc bs)
    (hrow : w'.heap[g]? = some (.cells (dc s m (.slice (some ⟨g', 0, none⟩) (E.length + 1) cap') kv) 100 (0, 0))) (hmap : MapIs w' m s.sectors (upd M k (.slice (some ⟨gc, 0, none⟩) s.bytes cc)))
    (hfr : Fr (fun j => j = g ∨ j = m ∨ cv.ownBlock = some j) w w') :
    DB w' g { s with c := s.c ++ [(k, bs)] } (fun j => D j ∨ (w.heap.size ≤ j ∧ j < w'.heap.size)) m (.slice (some ⟨g', 0, none⟩) (E.length + 1) cap') kv (upd M k (.slice (some ⟨gc, 0, none⟩) s.bytes cc)) (E ++ [(k, (Ao, no, co), (some ⟨gc, 0, none⟩, s.bytes, cc))]) := by
  have hsz := hfr.size
  have hglt := h.lt g h.gD
  have hmlt := h.lt m h.mD
  have hkD : ∀ j, Dd D g m cv j → w'.heap[j]? = w.heap[j]? := fun j hd => hfr.block j (h.lt j hd.1) (by rintro (e | e | e); exact hd.2.1 e; exact hd.2.2.1 e; exact hd.2.2.2 e)
  have hdd : ∀ j, Dd D g m cv j → Dd (fun j => D j ∨ (w.heap.size ≤ j ∧ j < w'.heap.size)) g m (.slice (some ⟨g', 0, none⟩) (E.length + 1) cap') j := fun j hd => ⟨.inl hd.1, hd.2.1, hd.2.2.1, fun e => by
    have e' : g' = j := by simpa [Value.ownBlock] using e
    subst e'
    rcases hg' with h1 | h1
    · exact hd.2.2.2 h1
    · have := h.lt g' hd.1; omega⟩
  have hnew : RdZ w' (Dd (fun j => D j ∨ (w.heap.size ≤ j ∧ j < w'.heap.size)) g m (.slice (some ⟨g', 0, none⟩) (E.length + 1) cap')) (.slice (some ⟨gc, 0, none⟩) s.bytes cc) s.bytes bs :=
    .inr ⟨gc, cc, rfl, ⟨Or.inr ⟨hgc, hgclt⟩, (by omega), (by omega), (fun e => hgcg (by
      have : g' = gc := by simpa [Value.ownBlock] using e
      exact this.symm))⟩, hrc⟩
  refine ⟨⟨h.ok.s0, h.ok.s1, h.ok.b0, h.ok.b1, by simp; exact hfine, h.ok.lf, fun p hp => ?_, h.ok.ls⟩, hrow, hmap, ?_, fun j e => ?_, by simp [h.elen], ⟨fun j hj => ?_, fun i hi => ?_, h.data.keep.keep hsz hkD hdd⟩, .inl h.gD, .inl h.mD, h.gm, fun j hd => ?_⟩
  · rcases List.mem_append.1 hp with hp | hp
    · exact h.ok.cs p hp
    · obtain rfl : p = (k, bs) := by simpa using hp
      exact ⟨hk, hbs⟩
  · rw [List.length_append, List.flatMap_append]
    simpa [ent, sv] using hown
  · have e' : g' = j := by simpa [Value.ownBlock] using e
    subst e'
    rcases hg' with h1 | h1
    · exact ⟨.inl (h.cD g' h1).1, (h.cD g' h1).2⟩
    · exact ⟨.inr ⟨h1, hg'lt⟩, by omega, by omega⟩
  · show RdZ w' _ (upd M k _ j) s.bytes (cur s.L (s.c ++ [(k, bs)]) j)
    rw [cur_snoc]
    by_cases hjk : j = k
    · subst hjk
      rw [upd_same, upd_same]
      exact hnew
    · rw [upd_other _ _ _ _ hjk, upd_other _ _ _ _ hjk]
      exact (h.data.vals j hj).keep hsz hkD hdd
  · show (eAt _ i).1 = (wAt (s.c ++ [(k, bs)]) i).1 ∧ RdZ w' _ (sv (eAt _ i).2.1) s.bytes (cur s.L ((s.c ++ [(k, bs)]).take i) (wAt (s.c ++ [(k, bs)]) i).1) ∧ RdZ w' _ (sv (eAt _ i).2.2) s.bytes (wAt (s.c ++ [(k, bs)]) i).2
    have hi' : i < s.c.length + 1 := by simpa using hi
    by_cases hic : i < s.c.length
    · rw [eAt_old _ _ _ (by rw [h.elen]; exact hic), wAt_old _ _ _ hic, List.take_append_of_le_length (by omega)]
      have := h.data.ents i hic
      exact ⟨this.1, this.2.1.keep hsz hkD hdd, this.2.2.keep hsz hkD hdd⟩
    · obtain rfl : i = s.c.length := by omega
      rw [wAt_new]
      have e2 : eAt (E ++ [(k, (Ao, no, co), (some ⟨gc, 0, none⟩, s.bytes, cc))]) s.c.length = (k, (Ao, no, co), (some ⟨gc, 0, none⟩, s.bytes, cc)) := by rw [← h.elen]; exact eAt_new _ _
      rw [e2, List.take_left]
      refine ⟨rfl, ?_, hnew⟩
      have := (h.data.vals k hk).keep hsz hkD hdd
      rw [hMk] at this
      exact this
  · rcases hd with hd | hd
    · have := h.lt j hd; omega
    · exact hd.2

set_option maxRecDepth 100000 in
set_option maxHeartbeats 2000000 in
theorem Write_yes (w : World) (g : Nat) (s : S) (D : Nat → Prop) (h : DiskAt w g s D) (hfine : s.c.length ≤ s.deeds) (hd : s.deeds < 900000) (hu : s.up = true) (k : Nat) (hk : k < s.sectors) (ga : Nat) (oa n c : Nat) (bs : List UInt8) (hr : Rd w (some ⟨ga, oa, none⟩) n c bs) (hn : n = s.bytes) :
    Calls Tryz.prog 117 #[.pointer (some ⟨g, 0, none⟩), .int .i64 (k : Int), .slice (some ⟨ga, oa, none⟩) n c] w fun e w' => e = .returned (.int .i64 ({ s with c := s.c ++ [(k, bs)] } : S).deed.2) ∧ Did D g ({ s with c := s.c ++ [(k, bs)] } : S).deed.1 w w' := by
  have HDA := Lib.hid h
  obtain ⟨m, cv, kv, M, E, hb⟩ := h
  have HDB := Lib.hid hb
  have hb1 := hb.ok.b1
  have hb0 := hb.ok.b0
  have hs1 := hb.ok.s1
  obtain ⟨_, c1, c2, c3, _⟩ := dc_cells hb.row
  have HR := Lib.hid (ready_any w g s m cv kv hb.row)
  have hhas : s.has (k : Int) = true := by simp [S.has]; omega
  have HH := has_any w g s m cv kv hb.row hs1 (k : Int)
  rw [hhas] at HH
  have HH := Lib.hid HH
  have HCL := Lib.hid (CloneB_any _ n c bs w hr (by omega) rfl)
  have HLB := Lib.hid hr.len
  have HU := Lib.hid hu
  have HN := Lib.hid hn
  rw [← hn] at c1 hb1 hb0
  obtain ⟨A', len, cap, rfl, hEl⟩ : ∃ A' len cap, cv = .slice A' len cap ∧ E.length = len := by
    rcases hb.cache.2 with ⟨e, e0⟩ | ⟨b, cap, cur, e, _⟩
    · exact ⟨none, 0, 0, e, e0⟩
    · exact ⟨_, _, cap, e, rfl⟩
  have HEL := Lib.hid hEl
  have hlen : len ≤ 900000 := by rw [← hEl, hb.elen]; omega
  clear hb hr hu hhas hn hEl
  go_enter Tryz.func117, Tryz.ntmps117
  go_wp2_with fail
  refine HR.out.mono ?_
  rintro e w1 ⟨rfl, rfl⟩
  unfold rdy
  rw [HU.out]
  go_wp2_with fail
  refine HH.out.mono ?_
  rintro e w1 ⟨rfl, rfl⟩
  go_wp2_with fail
  refine HCL.out.mono ?_
  rintro e w2 ⟨v, rfl, ho, hbel⟩
  obtain ⟨gc, cc, rfl, hgc, hgc2, hrc⟩ : ∃ gc cc, v = .slice (some ⟨gc, 0, none⟩) n cc ∧ w.heap.size ≤ gc ∧ gc < w2.heap.size ∧ Rd w2 (some ⟨gc, 0, none⟩) n cc bs := by
    obtain ⟨A, c', hv, hrd⟩ := ho.slice n HLB.out
    rcases ho.2 with ⟨e1, e2⟩ | ⟨b, cap, cur, e1, e2, e3, _⟩
    · rw [HLB.out] at e2; omega
    · rw [hv] at e1
      cases e1
      exact ⟨b, _, hv, e2, (Array.getElem?_eq_some_iff.1 e3).1, hrd⟩
  have hrow2 := (hbel.block g (HDB.out.lt g HDB.out.gD)).trans HDB.out.row
  obtain ⟨_, a1, a2, a3, _, _, _, _, af⟩ := dc_cells hrow2
  have af3 := af 3
  have hmap2 := HDB.out.map.keep (hbel.block m (HDB.out.lt m HDB.out.mD))
  obtain ⟨Ao, no, co, xo, hMk, _⟩ := (HDB.out.data.vals k hk).rd
  have hlook : (Instr.lookup 97 (.map (some m)) (.int .i64 (k : Int)) false).run Tryz.prog w2.drew = .ok (.slice Ao no co) w2.drew := by
    have := MapIs.look (w := w2.drew) (hmap2.keep rfl) k hk hs1
    rw [hMk] at this
    exact this
  have hcache2 := ownsRow_keepB (w' := w2) HDB.out.cache fun k e => hbel.block k (HDB.out.lt k (HDB.out.cD k e).1)
  have HRC := Lib.hid hrc
  have HBEL := Lib.hid hbel
  have HCA := Lib.hid hcache2
  have HMK := Lib.hid hMk
  have HMP := Lib.hid hmap2
  clear ho hrc hbel hrow2 af hmap2 hcache2 hMk
  -- the append, ahead of the region
  obtain ⟨i0, hi, hz0, hz1, hz2⟩ := info_parts write_info
  obtain ⟨z2, hz2'⟩ : ∃ z2, w2.heap.size = z2 := ⟨_, rfl⟩
  obtain ⟨X, hX⟩ : ∃ X, w2.drew.alloc (.cells #[.int .i64 (k : Int), .slice Ao no co, .slice (some ⟨gc, 0, none⟩) n cc] 128) = X := ⟨_, rfl⟩
  have hXb : Below w2.heap.size w2 X := by rw [← hX]; exact (Below.refl _ w2).drew.alloc (Nat.le_refl _) _
  have hXn : X.heap[z2]? = some (.cells #[.int .i64 (k : Int), .slice Ao no co, .slice (some ⟨gc, 0, none⟩) n cc] 128 (0, 0)) := by rw [← hX, ← hz2']; exact heap_alloc_new w2.drew _
  have hXs : X.heap.size = z2 + 1 := by rw [← hX, World.size_alloc, ← hz2']; rfl
  have hcX := ownsRow_keepB (w' := X) HCA.out fun j e => hXb.block j (Nat.lt_of_lt_of_le (HDB.out.lt j (HDB.out.cD j e).1) HBEL.out.size)
  rw [HEL.out] at hcX
  obtain ⟨g', cap', w4, hrun, hown4, hgr4, hat, hlt⟩ := run_append_lies (P := Tryz.prog) X 98 98 0 128 i0 _ 3 56 Tryz.underlying98 hi hz0 hz1 hz2 rfl (by omega) (.slice A' len cap) len (E.flatMap ent) hcX ⟨z2, 0, none⟩ 1 1 [.int .i64 (k : Int), .slice Ao no co, .slice (some ⟨gc, 0, none⟩) n cc] rfl
    (fun j u hj => by rw [addr_add, Nat.zero_add, cell_of_row X z2 j _ 128 (0, 0) hXn, ← hj]; exact List.getElem?_toArray) (by simp [Value.oneCell']) (by omega) (by unfold maxLen; omega) (by omega) (by omega) _ hXs
  have hne4 : Value.ownBlock (.slice A' len cap) ≠ some g := fun e => (HDB.out.cD g e).2.1 rfl
  have hg2 : g < w2.heap.size := Nat.lt_of_lt_of_le (HDB.out.lt g HDB.out.gD) HBEL.out.size
  have hrow4 : w4.heap[g]? = some (.cells (dc s m (.slice A' len cap) kv) 100 (0, 0)) := (hgr4.block g (by omega) (fun e => hne4 e.symm)).trans ((hXb.block g hg2).trans ((HBEL.out.block g (HDB.out.lt g HDB.out.gD)).trans HDB.out.row))
  obtain ⟨_, _, _, d3, _, _, _, _, df⟩ := dc_cells hrow4
  have df3 := df 3
  have aX3 := (hXb.cell (p := ⟨g, 3, none⟩) hg2).trans a3
  have hrun' : ∀ ty, (Builtin.append_ #[98, 98] ty #[.slice A' len cap, .slice (some ⟨z2, 0, none⟩) 1 1]).run Tryz.prog X = .ok (.slice (some ⟨g', 0, none⟩) (len + 1) cap') w4 := fun _ => hrun
  have HRUN := Lib.hid hrun'
  clear hrun hrun'
  have HOWN4 := Lib.hid hown4
  have HGR4 := Lib.hid hgr4
  have HAT := Lib.hid hat
  have HLT := Lib.hid hlt
  have HROW4 := Lib.hid hrow4
  have HXB := Lib.hid hXb
  have HXS := Lib.hid hXs
  have HZ2 := Lib.hid hz2'
  -- the store into the disk, and into the map
  have hg'w : Value.ownBlock (.slice A' len cap) = some g' ∨ w.heap.size ≤ g' := hat.imp id (fun e => by have := HBEL.out.size; omega)
  have hoc : ∀ j, Value.ownBlock (.slice A' len cap) = some j → j < w.heap.size := fun j e => HDB.out.lt j (HDB.out.cD j e).1
  have hg'g : g' ≠ g := by
    rcases hat with e | e
    · exact (HDB.out.cD g' e).2.1
    · omega
  have hg'm : g' ≠ m := by
    rcases hat with e | e
    · exact (HDB.out.cD g' e).2.2
    · have := HDB.out.lt m HDB.out.mD; have := HBEL.out.size; omega
  have hrow5 := dc_set hrow4 3 (.slice (some ⟨g', 0, none⟩) (len + 1) cap') s m (.slice (some ⟨g', 0, none⟩) (len + 1) cap') kv rfl
  obtain ⟨W5, hW5⟩ : ∃ W5, w4.setCell ⟨g, 3, none⟩ (.slice (some ⟨g', 0, none⟩) (len + 1) cap') = W5 := ⟨_, rfl⟩
  have h5 : ∀ j, j ≠ g → W5.heap[j]? = w4.heap[j]? := fun j hj => by rw [← hW5]; exact setCell_other _ _ _ _ _ hj
  have hs5 : W5.heap.size = w4.heap.size := by rw [← hW5]; exact setCell_size _ _ _
  rw [hW5] at hrow5
  obtain ⟨_, _, d2, _⟩ := dc_cells hrow5
  have hfrX : Fr (fun j => j = g ∨ j = m ∨ Value.ownBlock (.slice A' len cap) = some j) w w4 := ((Fr.of HBEL.out).trans (Fr.of hXb)).grown hgr4 (fun j e => .inl (.inr (.inr e)))
  have hfr5 : Fr (fun j => j = g ∨ j = m ∨ Value.ownBlock (.slice A' len cap) = some j) w W5 := by rw [← hW5]; exact hfrX.setCell (.inl (.inl rfl)) _
  have hm4 : MapIs w4 m s.sectors M := by
    refine (HMP.out.keep (hXb.block m ?_)).keep (hgr4.block m ?_ (fun e => (HDB.out.cD m e.symm).2.2 rfl))
    · exact Nat.lt_of_lt_of_le (HDB.out.lt m HDB.out.mD) HBEL.out.size
    · have := HDB.out.lt m HDB.out.mD; have := HBEL.out.size; omega
  obtain ⟨w6, hput, hm6, hg6⟩ := (hm4.keep (h5 m (fun e => HDB.out.gm e.symm))).put k hk hs1 (.slice (some ⟨gc, 0, none⟩) n cc)
  have hfr6 := hfr5.grown hg6 (fun j e => .inl (.inr (.inl (by cases e; rfl))))
  have hs6 := hg6.size
  have hs4 := hgr4.size
  have h46 : ∀ j, j < w4.heap.size → j ≠ g → j ≠ m → w6.heap[j]? = w4.heap[j]? := fun j h1 h2 h3 => (hg6.block j (by omega) (fun e => h3 (by cases e; rfl))).trans (h5 j h2)
  have hrc6 : Rd w6 (some ⟨gc, 0, none⟩) n cc bs := Rd.keepB (HRC.out.keep hXb) (by omega) (fun a e => by
    cases e
    have := HDB.out.lt g HDB.out.gD
    have := HDB.out.lt m HDB.out.mD
    exact (h46 gc (by omega) (by omega) (by omega)).trans (hgr4.block gc (by omega) (fun e => by have := hoc gc e.symm; omega)))
  have hDB6 : DiskAt w6 g { s with c := s.c ++ [(k, bs)] } (fun j => D j ∨ (w.heap.size ≤ j ∧ j < w6.heap.size)) := by
    refine ⟨_, _, _, _, _, write_at HDB.out hfine k hk bs (by rw [HLB.out]; exact HN.out) Ao no co HMK.out g' cap' gc cc ?_ hg'w (by omega) hgc ?_ (by omega) (by rw [← HN.out]; exact hrc6) ?_ (by rw [← HN.out]; exact hm6) hfr6⟩
    · rw [HEL.out, ← HN.out]
      exact ownsRow_keepB hown4 fun j e => by
        have e' : g' = j := by simpa [Value.ownBlock] using e
        subst e'
        exact h46 g' (by omega) hg'g hg'm
    · rcases hat with e | e
      · have := hoc g' e; omega
      · omega
    · rw [HEL.out]
      exact (hg6.block g (by omega) (fun e => HDB.out.gm (by cases e; rfl))).trans hrow5
  have HDE := Lib.hid (deed_any w6 g _ _ hDB6 hd)
  have HFR6 : Hid (Fr D w w6) := hfr6.mono (by
    rintro j (e | e | e)
    · subst e; exact HDB.out.gD
    · subst e; exact HDB.out.mD
    · exact (HDB.out.cD j e).1)
  clear hown4 hgr4 hat hlt hrow4 df hXb hXs hXn hcX hi hz0 hz1 hz2 hne4 hDB6 hrc6 h46 hm6 hg6 hm4 hfr5 hfrX hrow5 h5 hg'm hg'g hoc hg'w hfr6
  go_wp2_with fail
  go_region_law (refine step_app rfl (.tmp 33) (.tmp 43) 98 rfl _ _ _ _ (by simp [Act.eval, Act.put]) (by simp [Act.eval, Act.put]) HRUN.out ?_)
  all_goals clear hlook a1 a2 a3 af3 aX3 d3 df3 hX
  all_goals (go_wp2_with fail)
  all_goals (refine HDE.out.mono ?_; rintro e w7 ⟨rfl, hd7⟩; have HD7 := Lib.hid hd7; clear hd7; go_wp2; go_ret; exact ⟨rfl, Did.step (fun j h => h.imp id (·.1)) HFR6.out HD7.out⟩)

set_option maxHeartbeats 1000000 in
theorem Write_any (w : World) (g : Nat) (s : S) (D : Nat → Prop) (h : DiskAt w g s D) (hfine : s.Fine) (hd : s.deeds < 900000) (i : Int) (A : Option Addr) (n c : Nat) (bs : List UInt8) (hr : Rd w A n c bs) (hn : n ≤ 17592186044416) :
    Calls Tryz.prog 117 #[.pointer (some ⟨g, 0, none⟩), .int .i64 i, .slice A n c] w fun e w' => e = .returned (.int .i64 (s.write i bs).2) ∧ Did D g (s.write i bs).1 w w' := by
  have HDA := Lib.hid h
  obtain ⟨m, cv, kv, M, E, hb⟩ := h
  have HR := Lib.hid (ready_any w g s m cv kv hb.row)
  have HH := Lib.hid (has_any w g s m cv kv hb.row hb.ok.s1 i)
  obtain ⟨_, c1, _⟩ := dc_cells hb.row
  have hl := hr.len
  unfold S.write
  cases hu : s.up
  · clear hr hl hb c1
    go_enter Tryz.func117, Tryz.ntmps117
    go_wp2_with fail
    refine HR.out.mono ?_
    rintro e w1 ⟨rfl, rfl⟩
    unfold rdy
    rw [hu]
    go_wp2
    go_ret
    exact ⟨rfl, Did.refl HDA.out⟩
  simp only [Bool.true_eq_false, if_false]
  cases hh : s.has i
  · clear hr hl hb c1
    rw [if_pos (.inl rfl)]
    go_enter Tryz.func117, Tryz.ntmps117
    go_wp2_with fail
    refine HR.out.mono ?_
    rintro e w1 ⟨rfl, rfl⟩
    unfold rdy
    rw [hu]
    go_wp2_with fail
    refine HH.out.mono ?_
    rintro e w1 ⟨rfl, rfl⟩
    rw [hh]
    go_wp2
    go_ret
    exact ⟨rfl, Did.refl HDA.out⟩
  · by_cases hb2 : bs.length = s.bytes
    · rw [if_neg (by rintro (e | e); cases e; exact e hb2)]
      obtain ⟨k, rfl, hk⟩ : ∃ k : Nat, i = k ∧ k < s.sectors := by
        simp [S.has] at hh
        exact ⟨i.toNat, by omega, by omega⟩
      have hb0 := hb.ok.b0
      obtain ⟨ga, oa, rfl, _⟩ := hr.cells (by omega)
      have := Write_yes w g s D HDA.out hfine hd hu k hk ga oa n c bs hr (by omega)
      rw [hu] at this
      exact this
    · rw [if_pos (.inr hb2)]
      rw [hl] at hb2
      obtain ⟨nb, hnb⟩ : ∃ nb, s.bytes = nb := ⟨_, rfl⟩
      have hnbm := hb.ok.b1
      rw [hnb] at c1 hb2 hnbm
      clear hr hl hb hnb
      go_enter Tryz.func117, Tryz.ntmps117
      go_wp2_with fail
      refine HR.out.mono ?_
      rintro e w1 ⟨rfl, rfl⟩
      unfold rdy
      rw [hu]
      go_wp2_with fail
      refine HH.out.mono ?_
      rintro e w1 ⟨rfl, rfl⟩
      rw [hh]
      go_wp2
      go_ret
      exact ⟨rfl, Did.refl HDA.out⟩
end Go.Proofs.YtephmcbofcfpmaaGreat

set_option maxRecDepth 8000
set_option linter.unusedSimpArgs false
set_option linter.unusedVariables false
namespace Go.Proofs.YtephmcbofcfpmaaGreat
open Go.RowKit Go.Bs Go.Dk

def wc (g log : Nat) (down : Bool) : Array Value := #[.pointer (some ⟨g, 0, none⟩), .int .i64 (log : Int), .bool down]
theorem wc_cells {w : World} {p g log : Nat} {down : Bool} (h : w.heap[p]? = some (.cells (wc g log down) 163 (0, 0))) :
    w.cell? ⟨p, 0, none⟩ = some (.pointer (some ⟨g, 0, none⟩)) ∧ w.cell? ⟨p, 1, none⟩ = some (.int .i64 (log : Int)) ∧ w.cell? ⟨p, 2, none⟩ = some (.bool down) ∧ ∀ i, w.frozen? ⟨p, i, none⟩ = false := by
  refine ⟨?_, ?_, ?_, fun i => by simp [World.frozen?, h]⟩ <;> (rw [cell_of_row w p _ _ 163 (0, 0) h]; rfl)

structure WalAt (w : World) (p g : Nat) (s : S) (log : Nat) (down : Bool) (D : Nat → Prop) : Prop where
  row : w.heap[p]? = some (.cells (wc g log down) 163 (0, 0))
  disk : DiskAt w g s D
  pD : ¬ D p
  l0 : 1 ≤ log
  l1 : log + 1 < s.sectors
  l2 : 3 + 3 * log ≤ s.bytes
theorem WalAt.below {w w' : World} {p g : Nat} {s : S} {log : Nat} {down : Bool} {D : Nat → Prop} (h : WalAt w p g s log down D) (hb : Below w.heap.size w w') : WalAt w' p g s log down D :=
  ⟨(hb.block p (Array.getElem?_eq_some_iff.1 h.row).1).trans h.row, h.disk.below hb, h.pD, h.l0, h.l1, h.l2⟩
/-- how many blocks. -/
def nbl (s : S) (log : Nat) : Nat := s.sectors - 1 - log

theorem wready_any (w : World) (p g log : Nat) (down : Bool) (h : w.heap[p]? = some (.cells (wc g log down) 163 (0, 0))) :
    Calls Tryz.prog 103 #[.pointer (some ⟨p, 0, none⟩)] w fun e w' => e = .returned (.int .i64 (if down then 50 else 0)) ∧ w = w' := by
  obtain ⟨_, _, c2, _⟩ := wc_cells h
  clear h
  cases down
  · go_enter Tryz.func103, Tryz.ntmps103
    go_wp2
    go_ret
    exact ⟨rfl, rfl⟩
  · go_enter Tryz.func103, Tryz.ntmps103
    go_wp2
    go_ret
    exact ⟨rfl, rfl⟩
theorem wready_nil (w : World) : Calls Tryz.prog 103 #[.pointer none] w fun e w' => e = .returned (.int .i64 3) ∧ w = w' := by
  go_enter Tryz.func103, Tryz.ntmps103
  go_wp2
  go_ret
  exact ⟨rfl, rfl⟩
theorem wSize_nil (w : World) : Calls Tryz.prog 77 #[.pointer none] w fun e w' => e = .returned (.tuple #[.int .i64 0, .int .i64 0]) ∧ w = w' := by
  go_enter Tryz.func77, Tryz.ntmps77
  go_wp2
  go_ret2
  exact ⟨rfl, rfl⟩
set_option maxHeartbeats 1000000 in
theorem wSize_any (w : World) (p g : Nat) (s : S) (log : Nat) (down : Bool) (D : Nat → Prop) (h : WalAt w p g s log down D) :
    Calls Tryz.prog 77 #[.pointer (some ⟨p, 0, none⟩)] w fun e w' => e = .returned (.tuple #[.int .i64 (nbl s log : Int), .int .i64 (s.bytes : Int)]) ∧ ∃ k, w' = w.drewN k := by
  obtain ⟨c0, c1, _, _⟩ := wc_cells h.row
  have HS := Lib.hid (Size_any w g s D h.disk)
  have h1 := h.l1
  have hs := h.disk.ok.s1
  obtain ⟨n, hn⟩ : ∃ n, nbl s log = n := ⟨_, rfl⟩
  obtain ⟨sc, hsc⟩ : ∃ sc, s.sectors = sc := ⟨_, rfl⟩
  obtain ⟨by_, hby⟩ : ∃ by_, s.bytes = by_ := ⟨_, rfl⟩
  have hnn : (n : Int) = (sc : Int) - 1 - (log : Int) := by unfold nbl at hn; omega
  rw [hsc] at hs h1
  rw [hsc, hby] at HS
  rw [hn, hby, hnn]
  clear h hn hsc hby hnn
  go_enter Tryz.func77, Tryz.ntmps77
  go_wp2_with fail
  refine HS.out.mono ?_
  rintro e w1 ⟨rfl, k, rfl⟩
  have c1' : (w.drewN k).cell? ⟨p, 1, none⟩ = some (.int .i64 (log : Int)) := by rw [← c1]; rfl
  go_wp2
  go_ret2
  exact ⟨rfl, k, rfl⟩

set_option maxHeartbeats 1000000 in
theorem whas_any (w : World) (p g : Nat) (s : S) (log : Nat) (down : Bool) (D : Nat → Prop) (h : WalAt w p g s log down D) (i : Int) :
    Calls Tryz.prog 104 #[.pointer (some ⟨p, 0, none⟩), .int .i64 i] w fun e w' => e = .returned (.bool (decide (0 ≤ i) && decide (i < (nbl s log : Int)))) ∧ ∃ k, w' = w.drewN k := by
  have HS := Lib.hid (wSize_any w p g s log down D h)
  obtain ⟨n, hn⟩ : ∃ n, nbl s log = n := ⟨_, rfl⟩
  rw [hn] at HS ⊢
  clear h hn
  by_cases h0 : 0 ≤ i
  · by_cases h1 : i < (n : Int)
    · go_enter Tryz.func104, Tryz.ntmps104
      go_wp2_with fail
      refine HS.out.mono ?_
      rintro e w1 ⟨rfl, k, rfl⟩
      go_wp2
      go_ret
      exact ⟨by simp [h0, h1], k, rfl⟩
    · go_enter Tryz.func104, Tryz.ntmps104
      go_wp2_with fail
      refine HS.out.mono ?_
      rintro e w1 ⟨rfl, k, rfl⟩
      go_wp2
      go_ret
      exact ⟨by simp [h0, h1], k, rfl⟩
  · go_enter Tryz.func104, Tryz.ntmps104
    go_wp2_with fail
    refine HS.out.mono ?_
    rintro e w1 ⟨rfl, k, rfl⟩
    go_wp2
    go_ret
    exact ⟨by simp; omega, k, rfl⟩
theorem sector_any (w : World) (p g log : Nat) (down : Bool) (h : w.heap[p]? = some (.cells (wc g log down) 163 (0, 0))) (hl : log ≤ 65536) (i : Int) (hi : -9000000000000000000 ≤ i ∧ i ≤ 9000000000000000000) :
    Calls Tryz.prog 106 #[.pointer (some ⟨p, 0, none⟩), .int .i64 i] w fun e w' => e = .returned (.int .i64 (1 + (log : Int) + i)) ∧ w = w' := by
  obtain ⟨_, c1, _, _⟩ := wc_cells h
  clear h
  go_enter Tryz.func106, Tryz.ntmps106
  go_wp2
  go_ret
  exact ⟨rfl, rfl⟩
theorem wc_set {w : World} {p g log : Nat} {down : Bool} (h : w.heap[p]? = some (.cells (wc g log down) 163 (0, 0))) (b : Bool) :
    (w.setCell ⟨p, 2, none⟩ (.bool b)).heap[p]? = some (.cells (wc g log b) 163 (0, 0)) := by
  rw [setCell_eq_setRow w p 2 _ 163 (0, 0) _ h, setRow_heap w p _ _ 163 _ h]
  rfl
theorem heed_any (w : World) (p g log : Nat) (down : Bool) (h : w.heap[p]? = some (.cells (wc g log down) 163 (0, 0))) (x : Int) :
    Calls Tryz.prog 107 #[.pointer (some ⟨p, 0, none⟩), .int .i64 x] w fun e w' => e = .returned (.int .i64 x) ∧ w' = w.setCell ⟨p, 2, none⟩ (.bool (x == 50)) := by
  obtain ⟨_, _, c2, hf⟩ := wc_cells h
  have hf2 := hf 2
  clear h hf
  by_cases hx : x = 50
  · subst hx
    go_enter Tryz.func107, Tryz.ntmps107
    go_wp2
    go_ret
    exact ⟨rfl, rfl⟩
  · go_enter Tryz.func107, Tryz.ntmps107
    go_wp2
    go_ret
    exact ⟨rfl, rfl⟩
/-- whether a log has room. -/
def may (s : S) (log : Int) : Bool := decide (1 ≤ log) && decide (log < (s.sectors : Int) - 1) && decide (3 + 3 * log ≤ (s.bytes : Int))
set_option maxHeartbeats 1000000 in
theorem fits_any (w : World) (g : Nat) (s : S) (D : Nat → Prop) (h : DiskAt w g s D) (log : Int) :
    Calls Tryz.prog 101 #[.pointer (some ⟨g, 0, none⟩), .int .i64 log] w fun e w' => e = .returned (.bool (may s log)) ∧ ∃ k, w' = w.drewN k := by
  have HS := Lib.hid (Size_any w g s D h)
  have h1 := h.ok.s1
  have h0 := h.ok.s0
  have h2 := h.ok.b1
  unfold may
  obtain ⟨sc, hsc⟩ : ∃ sc, s.sectors = sc := ⟨_, rfl⟩
  obtain ⟨by_, hby⟩ : ∃ by_, s.bytes = by_ := ⟨_, rfl⟩
  rw [hsc, hby] at HS ⊢
  rw [hsc] at h1 h0
  rw [hby] at h2
  have hw1 : IntKind.i64.wrap ((sc : Int) - 1) = (sc : Int) - 1 := IntWalk.i64_in _ (by omega)
  clear h hsc hby
  by_cases c1 : 1 ≤ log
  · by_cases c2 : log < (sc : Int) - 1
    · by_cases c3 : 3 + 3 * log ≤ (by_ : Int)
      · go_enter Tryz.func101, Tryz.ntmps101
        go_wp2_with fail
        refine HS.out.mono ?_
        rintro e w1 ⟨rfl, k, rfl⟩
        go_wp2
        go_ret
        exact ⟨by simp [c1, c2, c3], k, rfl⟩
      · go_enter Tryz.func101, Tryz.ntmps101
        go_wp2_with fail
        refine HS.out.mono ?_
        rintro e w1 ⟨rfl, k, rfl⟩
        go_wp2
        go_ret
        exact ⟨by simp [c1, c2, c3], k, rfl⟩
    · go_enter Tryz.func101, Tryz.ntmps101
      go_wp2_with fail
      refine HS.out.mono ?_
      rintro e w1 ⟨rfl, k, rfl⟩
      go_wp2
      go_ret
      exact ⟨by simp; omega, k, rfl⟩
  · go_enter Tryz.func101, Tryz.ntmps101
    go_wp2_with fail
    refine HS.out.mono ?_
    rintro e w1 ⟨rfl, k, rfl⟩
    go_wp2
    go_ret
    exact ⟨by simp; omega, k, rfl⟩
end Go.Proofs.YtephmcbofcfpmaaGreat

