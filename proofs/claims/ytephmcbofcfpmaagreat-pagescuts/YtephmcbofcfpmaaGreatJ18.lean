/- A map of slices by numbers, of which some are there. Conditions: none. Open. Conditions: none. -/
import Derived.Test.YtephmcbofcfpmaaGreatJ03
import Derived.Test.YtephmcbofcfpmaaGreatJ04
import Derived.Lib.SlKeysI
import Derived.Test.YtephmcbofcfpmaaGreatJ16
set_option maxRecDepth 8000
set_option linter.unusedSimpArgs false
set_option linter.unusedVariables false
namespace Go.Proofs.YtephmcbofcfpmaaGreat
open Go.RowKit Go.Bs Go.Dk Rp
open Go.WideElems (Fit rd rg pl rd_key)
open Go.MapKept Go.ChangeMaps

def gtF (F : Nat → Option Value) (x : Int) : Option Value := if 0 ≤ x then F x.toNat else none
/-- block b is a map: at each number the value F, if there is one; all are below N. -/
def PMap (w : World) (b N : Nat) (F : Nat → Option Value) : Prop :=
  ∃ es clock, w.heap[b]? = some (.map es clock) ∧ Fit Tryz.prog 3 RT es clock ∧ (∀ k, N ≤ k → F k = none) ∧
    ∀ (x : Int) (zd : DataW Value), (mapD Tryz.prog es).atKey (.int .i64 x) zd = (gtF F x).elim zd DataW.held
theorem PMap.lt {w : World} {b N : Nat} {F : Nat → Option Value} (h : PMap w b N F) : b < w.heap.size := by
  obtain ⟨es, clock, hb, _⟩ := h
  exact (Array.getElem?_eq_some_iff.1 hb).1
theorem PMap.keep {w w' : World} {b N : Nat} {F : Nat → Option Value} (h : PMap w b N F) (e : w'.heap[b]? = w.heap[b]?) : PMap w' b N F := by
  obtain ⟨es, clock, hb, hr⟩ := h
  exact ⟨es, clock, e.trans hb, hr⟩
theorem PMap.made (w : World) (N : Nat) : PMap (w.alloc (.map #[] 0)) w.heap.size N (fun _ => none) :=
  ⟨#[], 0, (MapKept.heap_alloc w _).1, ⟨by simp, stamped_empty 0, by simp⟩, fun _ _ => rfl, fun x _ => by
    unfold gtF; split <;> rfl⟩
theorem pm_keys {w : World} {b N : Nat} {F : Nat → Option Value} {es : Array MapEntry} {clock : Nat} (hb : w.heap[b]? = some (.map es clock)) (Fi : Fit Tryz.prog 3 RT es clock) (hN : ∀ k, N ≤ k → F k = none) (hM : ∀ (x : Int) (zd : DataW Value), (mapD Tryz.prog es).atKey (.int .i64 x) zd = (gtF F x).elim zd DataW.held) : ∀ e ∈ es.toList, ∃ k : Nat, k < N ∧ e.key = .int .i64 (k : Int) := by
  intro e he
  obtain ⟨y, hy⟩ := Fi.reads e he
  have m1 := rd_key hy
  obtain ⟨x, hx1, hx2, _⟩ := Maps.keyOf_i64 Tryz.underlying3 m1
  rcases Maps.fit_look false intKeyed Tryz.underlying97 (zero32 w) hb Fi m1 with ⟨_, hno, _⟩ | ⟨e0, y0, _, _, _, _, hat, _⟩
  · exact absurd rfl (hno e he)
  · rw [hx2] at hat
    have h1 := hat .nil
    have h2 := hat (.held undef)
    rw [show (DataW.map _ : DataW Value) = mapD Tryz.prog es from rfl, hM] at h1 h2
    cases hg : gtF F x with
    | none => rw [hg] at h1 h2; rw [← h1] at h2; cases h2
    | some v =>
      unfold gtF at hg
      split at hg
      · refine ⟨x.toNat, ?_, by rw [hx1]; show Value.int .i64 x = _; congr 1; omega⟩
        rcases Nat.lt_or_ge x.toNat N with h | h
        · exact h
        · rw [hN _ h] at hg; cases hg
      · cases hg
theorem pm_room {N : Nat} {es : Array MapEntry} {clock : Nat} (F : Fit Tryz.prog 3 RT es clock) (hks : ∀ e ∈ es.toList, ∃ k : Nat, k < N ∧ e.key = .int .i64 (k : Int)) : es.size ≤ N := by
  have hst := ((stamped_iff es clock).1 F.stamped).2.2
  have hf : ∀ e : MapEntry, ∃ n : Nat, e ∈ es.toList → n < N ∧ e.key = .int .i64 (n : Int) := fun e => by
    by_cases he : e ∈ es.toList
    · obtain ⟨n, h1, h2⟩ := hks e he
      exact ⟨n, fun _ => ⟨h1, h2⟩⟩
    · exact ⟨0, fun h => absurd h he⟩
  obtain ⟨f, hf⟩ := Classical.axiomOfChoice hf
  have := pigeon N (es.toList.map f) (by
    rw [List.pairwise_map]
    refine List.Pairwise.imp_of_mem ?_ hst
    intro a c ha hc hne e
    apply hne
    rw [(hf a ha).2, (hf c hc).2, e]) (fun x hx => by
      obtain ⟨e, he, rfl⟩ := List.mem_map.1 hx
      exact (hf e he).1)
  simpa using this
theorem gtF_nat (F : Nat → Option Value) (k : Nat) : gtF F (k : Int) = F k := by unfold gtF; simp
theorem PMap.look {w : World} {b N : Nat} {F : Nat → Option Value} (h : PMap w b N F) (c : Bool) (k : Nat) (hk : k ≤ 1000000) :
    (Instr.lookup 97 (.map (some b)) (.int .i64 (k : Int)) c).run Tryz.prog w = .ok (if c then .tuple #[(F k).getD (.slice none 0 0), .bool (F k).isSome] else (F k).getD (.slice none 0 0)) w := by
  obtain ⟨es, clock, hb, Fi, hN, hM⟩ := h
  have hwf : (Lit.int .i64 (k : Int)).wf = true := WalkArith.wf_i64 (by omega)
  have hkey := Maps.keyOf_int_mk (P := Tryz.prog) (k := 3) Tryz.underlying3 hwf
  have hm := hM (k : Int)
  rw [gtF_nat] at hm
  rcases Maps.fit_look c intKeyed Tryz.underlying97 (zero32 w) hb Fi hkey with ⟨hrun, _, hat⟩ | ⟨e0, y, _, _, hrun, hRv, hat, _⟩
  · have hn : F k = none := by
      cases hF : F k with
      | none => rfl
      | some v =>
        have h1 := hat .nil
        rw [show (DataW.map _ : DataW Value) = mapD Tryz.prog es from rfl, hm, hF] at h1
        cases h1
    rw [hrun, hn]
    rfl
  · have e1 := Option.some.inj hRv
    have h1 := hat .nil
    rw [show (DataW.map _ : DataW Value) = mapD Tryz.prog es from rfl, hm, ← e1] at h1
    cases hF : F k with
    | none => rw [hF] at h1; cases h1
    | some v =>
      rw [hF] at h1
      have h2 : v = e0.val := DataW.held.inj h1
      rw [hrun, h2]
      rfl
theorem PMap.put {w : World} {b N : Nat} {F : Nat → Option Value} (h : PMap w b N F) (k : Nat) (hk : k < N) (hN : N ≤ 1000000) (v : Value) :
    ∃ w', (Instr.mapUpdate 97 (.map (some b)) (.int .i64 (k : Int)) v).run Tryz.prog w = .ok () w' ∧ PMap w' b N (upd F k (some v)) ∧ w.grownBy w' (some b) := by
  obtain ⟨es, clock, hb, Fi, hNo, hM⟩ := h
  have hwf : (Lit.int .i64 (k : Int)).wf = true := WalkArith.wf_i64 (by omega)
  have hkey := Maps.keyOf_int_mk (P := Tryz.prog) (k := 3) Tryz.underlying3 hwf
  have hroom : es.size < maxLen := by
    have := pm_room Fi (pm_keys hb Fi hNo hM)
    unfold maxLen
    omega
  obtain ⟨es', clock', hrun, F', hput, _, _, _⟩ := Maps.fit_store (R' := RT) (e := 39) (t := 97) (w := w) (b := b) intKeyed Tryz.underlying97 hb Fi hroom (fun _ _ _ _ hz => hz) hkey (val := v) (yv := (.held v, [])) rfl
  have hD : mapD Tryz.prog es' = (mapD Tryz.prog es).put (.int .i64 (k : Int)) (.held v) := by
    unfold mapD
    rw [hput, DataW.put_eq]
  refine ⟨_, hrun, ⟨es', clock', heap_setBlock_same hb _, F', fun j hj => ?_, fun x zd => ?_⟩, ⟨rfl, rfl, rfl, by simp [setBlock], fun i _ hi => heap_setBlock_other hb _ (fun e => hi (by rw [e]))⟩⟩
  · rw [upd_other _ _ _ _ (by omega)]; exact hNo j hj
  · rw [hD]
    by_cases hjk : x = (k : Int)
    · subst hjk
      rw [gtF_nat, upd_same]
      exact Maps.atKey_put_same ⟨_, rfl⟩ (intKeyed.key hkey) _ _
    · have e1 : gtF (upd F k (some v)) x = gtF F x := by
        unfold gtF
        split
        · rw [upd_other _ _ _ _ (by omega)]
        · rfl
      rw [e1, ← hM x zd]
      exact Maps.atKey_put_other (fun e => hjk (Lit.int.inj e).2) _ _
theorem PMap.del {w : World} {b N : Nat} {F : Nat → Option Value} (h : PMap w b N F) (k : Nat) (hk : k ≤ 1000000) (ty : TypeId) :
    ∃ w', (Builtin.delete_ #[97, 3] ty #[.map (some b), .int .i64 (k : Int)]).run Tryz.prog w = .ok (.tuple #[]) w' ∧ PMap w' b N (upd F k none) ∧ w.grownBy w' (some b) := by
  obtain ⟨es, clock, hb, Fi, hNo, hM⟩ := h
  have hwf : (Lit.int .i64 (k : Int)).wf = true := WalkArith.wf_i64 (by omega)
  have hkey := Maps.keyOf_int_mk (P := Tryz.prog) (k := 3) Tryz.underlying3 hwf
  obtain ⟨es', hrun, F', _, hdel, _⟩ := Maps.fit_drop (ty := ty) (w := w) (b := b) intKeyed Tryz.underlying97 hb Fi hkey
  have hD : mapD Tryz.prog es' = (mapD Tryz.prog es).del (.int .i64 (k : Int)) := by
    unfold mapD
    rw [hdel, DataW.del_eq]
  refine ⟨_, hrun, ⟨es', clock, heap_setBlock_same hb _, F', fun j hj => ?_, fun x zd => ?_⟩, ⟨rfl, rfl, rfl, by simp [setBlock], fun i _ hi => heap_setBlock_other hb _ (fun e => hi (by rw [e]))⟩⟩
  · by_cases e : j = k
    · subst e; rw [upd_same]
    · rw [upd_other _ _ _ _ e]; exact hNo j hj
  · rw [hD]
    by_cases hjk : x = (k : Int)
    · subst hjk
      rw [gtF_nat, upd_same]
      exact Maps.atKey_del_same _
    · have e1 : gtF (upd F k none) x = gtF F x := by
        unfold gtF
        split
        · rw [upd_other _ _ _ _ (by omega)]
        · rfl
      rw [e1, ← hM x zd]
      exact Maps.atKey_del_other (fun e => hjk (Lit.int.inj e).2) _
/-- the keys, as they rise. -/
def keysOf (N : Nat) (F : Nat → Option Value) : List Nat := (List.range N).filter fun k => (F k).isSome
theorem PMap.keys {w : World} {b N : Nat} {F : Nat → Option Value} (h : PMap w b N F) :
    ∃ D0 : DataW Value, w.ownsMap Tryz.prog 3 RT b N D0 ∧ Maps.size D0 ≤ N ∧ ∀ ss : List Int, ss.Perm (intKeys D0) → ss.mergeSort leI = (keysOf N F).map fun k : Nat => (k : Int) := by
  obtain ⟨es, clock, hb, Fi, hNo, hM⟩ := h
  have hroom := pm_room Fi (pm_keys hb Fi hNo hM)
  have hown : w.ownsMap Tryz.prog 3 RT b N (mapD Tryz.prog es) := ⟨es, clock, hb, Fi, hroom, rfl⟩
  have hperm : ((keysOf N F).map fun k : Nat => (k : Int)).Perm (intKeys (mapD Tryz.prog es)) := by
    obtain ⟨es1, hD, hpw, _⟩ := hown.entries intKeyed
    obtain ⟨es', hD', hko⟩ := hown.keysOf
    obtain rfl : es1 = es' := by rw [hD] at hD'; exact DataW.map.inj hD'
    have hM' := hM
    rw [hD] at hM' ⊢
    refine perm_intKeys hpw (fun p hp => by obtain ⟨v, hv⟩ := hko p hp; obtain ⟨x, _, hx, _⟩ := Maps.keyOf_i64 Tryz.underlying3 hv; exact ⟨x, hx⟩) ?_ fun x => ?_
    · refine List.pairwise_map.2 ((List.Pairwise.filter _ List.nodup_range).imp fun {a c} hne e => hne (by omega))
    · rw [List.mem_map]
      constructor
      · rintro ⟨k, hk, rfl⟩
        obtain ⟨_, h2⟩ := List.mem_filter.1 hk
        obtain ⟨v, hv⟩ := Option.isSome_iff_exists.1 h2
        exact Maps.has_true_of_atKey (y := .held v) (fun zd => by rw [hM' (k : Int) zd, gtF_nat, hv]; rfl)
      · intro hh
        cases hg : gtF F x with
        | none =>
          have := Maps.has_false_of_atKey (D := DataW.map es1) (k := .int .i64 x) (fun zd => by rw [hM' x zd, hg]; rfl)
          rw [this] at hh
          cases hh
        | some v =>
          unfold gtF at hg
          split at hg
          · refine ⟨x.toNat, List.mem_filter.2 ⟨List.mem_range.2 ?_, by rw [hg]; rfl⟩, by omega⟩
            rcases Nat.lt_or_ge x.toNat N with h | h
            · exact h
            · rw [hNo _ h] at hg; cases hg
          · cases hg
  refine ⟨_, hown, ?_, fun ss hss => ?_⟩
  · have h1 := hperm.length_eq
    have h2 : (keysOf N F).length ≤ N := Nat.le_trans (List.length_filter_le _ _) (by simp)
    rw [List.length_map] at h1
    have h3 : (intKeys (mapD Tryz.prog es)).length = Maps.size (mapD Tryz.prog es) := by
      unfold mapD
      show (List.map _ _).length = List.length _
      rw [List.length_map]
    omega
  · rw [mergeSort_of_perm_i (hss.trans hperm.symm)]
    refine List.mergeSort_of_pairwise ?_
    rw [List.pairwise_map]
    refine (List.Pairwise.filter _ List.pairwise_lt_range).imp fun {a c} h => ?_
    simp only [leI, decide_eq_true_eq]
    omega
end Go.Proofs.YtephmcbofcfpmaaGreat

set_option maxRecDepth 8000
set_option linter.unusedSimpArgs false
set_option linter.unusedVariables false
namespace Go.Proofs.YtephmcbofcfpmaaGreat
open Go.RowKit Go.Bs Go.Dk

theorem read_up (s : S) (hok : s.Ok) (hu : s.up = true) (k : Nat) (hk : k < s.sectors) : s.read (k : Int) = (cur s.L s.c k, 0) := by
  unfold S.read
  rw [if_neg (by simp [hu]), if_neg (by simp [S.has]; exact hk)]
  rfl
theorem read_dn (s : S) (hu : s.up = false) (i : Int) : s.read i = ([], 50) := by
  unfold S.read
  rw [if_pos hu]
/-- redo where nothing is set, or there is no power. -/
theorem redo_dn (w : World) (p g : Nat) (s : S) (log : Nat) (down : Bool) (D : Nat → Prop) (h : WalAt w p g s log down D) (hu : s.up = false) :
    Calls Tryz.prog 102 #[.pointer (some ⟨p, 0, none⟩)] w fun e w' => e = .returned (.int .i64 50) ∧ Wd D p g s log down w w' := by
  have HW := Lib.hid h
  have x2 := (wc_cells h.row).1
  have HR := Lib.hid (Read_any w g s D h.disk 0)
  rw [read_dn s hu] at HR
  clear h
  go_enter Tryz.func102, Tryz.ntmps102
  go_wp2_with fail
  refine HR.out.mono ?_
  rintro e w1 ⟨v, rfl, _, hb⟩
  have HB := Lib.hid hb
  clear hb
  go_wp2
  go_ret
  exact ⟨rfl, D, HW.out.below HB.out, fun _ h => .inl h, Fr.of HB.out⟩
theorem redo_un (w : World) (p g : Nat) (s : S) (log : Nat) (down : Bool) (D : Nat → Prop) (h : WalAt w p g s log down D) (hu : s.up = true) (h1 : (cur s.L s.c 0).getD 0 0 ≠ 1) :
    Calls Tryz.prog 102 #[.pointer (some ⟨p, 0, none⟩)] w fun e w' => e = .returned (.int .i64 0) ∧ Wd D p g s log down w w' := by
  have HW := Lib.hid h
  have x2 := (wc_cells h.row).1
  have HR := Lib.hid (Read_any w g s D h.disk 0)
  have hlen := h.disk.ok.curLen 0
  have hb0 := h.disk.ok.b0
  have hb1 := h.disk.ok.b1
  have hrd : s.read 0 = (cur s.L s.c 0, 0) := read_up s h.disk.ok hu 0 (by have := h.l1; omega)
  rw [hrd] at HR
  obtain ⟨bs, hbs⟩ : ∃ bs, cur s.L s.c 0 = bs := ⟨_, rfl⟩
  rw [hbs] at HR hlen h1
  obtain ⟨n, hn⟩ : ∃ n, s.bytes = n := ⟨_, rfl⟩
  rw [hn] at hlen hb0 hb1
  obtain ⟨b, hb⟩ : ∃ b, bs.getD 0 0 = b := ⟨_, rfl⟩
  rw [hb] at h1
  have h1n : ¬ ((b.toNat : Int) = 1) := fun e => h1 (by apply UInt8.toNat_inj.1; show b.toNat = 1; omega)
  have hbt : (b.toNat : Int) < 256 := by have := b.toNat_lt; omega
  clear h hrd hbs hn h1
  go_enter Tryz.func102, Tryz.ntmps102
  go_wp2_with fail
  refine HR.out.mono ?_
  rintro e w1 ⟨v, rfl, hrv, hbl⟩
  have HB := Lib.hid hbl
  rcases hrv with ⟨_, hv⟩ | ⟨rfl, hk⟩
  · have hv' : bs = [] := hv
    rw [hv'] at hlen
    simp at hlen
    omega
  · have hc := Blk.cell (bs := bs) hk 0 (by rw [hlen]; omega)
    rw [hb] at hc
    have hl2 : (bs, (0 : Int)).1.length = n := hlen
    rw [hl2]
    obtain ⟨z, hz⟩ : ∃ z, w.heap.size = z := ⟨_, rfl⟩
    rw [hz] at hc ⊢
    obtain ⟨y, hy⟩ : ∃ y, (b.toNat : Int) = y := ⟨_, rfl⟩
    have hc' : w1.cell? ⟨z, 0, none⟩ = some (.int .u8 y) := by rw [← hy]; exact hc
    rw [hy] at h1n hbt
    clear hbl hk hl2 hb hlen hc hy hz
    go_wp2
    go_ret
    exact ⟨rfl, D, HW.out.below HB.out, fun _ h => .inl h, Fr.of HB.out⟩

theorem Open_nil (w : World) (log : Int) : Calls Tryz.prog 53 #[.pointer none, .int .i64 log] w fun e w' => e = .returned (.tuple #[.pointer none, .int .i64 3]) ∧ w = w' := by
  go_enter Tryz.func53, Tryz.ntmps53
  go_wp2
  go_ret2
  exact ⟨rfl, rfl⟩
theorem zero43 (w : World) : (zeroValue 163).run Tryz.prog w = .ok (.agg #[.pointer none, .int .i64 0, .bool false]) w := by kernel_rfl
theorem Open_no (w : World) (g : Nat) (s : S) (D : Nat → Prop) (h : DiskAt w g s D) (log : Int) (hm : may s log = false) :
    Calls Tryz.prog 53 #[.pointer (some ⟨g, 0, none⟩), .int .i64 log] w fun e w' => e = .returned (.tuple #[.pointer none, .int .i64 1]) ∧ ∃ k, w' = w.drewN k := by
  have HF := Lib.hid (fits_any w g s D h log)
  rw [hm] at HF
  clear h
  go_enter Tryz.func53, Tryz.ntmps53
  go_wp2_with fail
  refine HF.out.mono ?_
  rintro e w1 ⟨rfl, k, rfl⟩
  go_wp2
  go_ret2
  exact ⟨rfl, k, rfl⟩
/-- what Open leaves, R being what is redone. -/
def Opened (w : World) (D : Nat → Prop) (g : Nat) (log : Nat) (R : S × Int) (v : Value) (w' : World) : Prop :=
  (R.2 = 0 ∧ ∃ p D', v = .pointer (some ⟨p, 0, none⟩) ∧ w.heap.size ≤ p ∧ WalAt w' p g R.1 log false D' ∧ (∀ k, D' k → D k ∨ w.heap.size ≤ k) ∧ Fr D w w') ∨ (R.2 ≠ 0 ∧ v = .pointer none ∧ Did D g R.1 w w')
set_option maxHeartbeats 1000000 in
theorem Open_yes (w : World) (g : Nat) (s : S) (D : Nat → Prop) (h : DiskAt w g s D) (log : Nat) (hm : may s log = true) (R : S × Int)
    (hredo : ∀ W p, WalAt W p g s log false D → Calls Tryz.prog 102 #[.pointer (some ⟨p, 0, none⟩)] W fun e w' => e = .returned (.int .i64 R.2) ∧ Wd D p g R.1 log false W w') :
    Calls Tryz.prog 53 #[.pointer (some ⟨g, 0, none⟩), .int .i64 (log : Int)] w fun e w' => ∃ v, e = .returned (.tuple #[v, .int .i64 R.2]) ∧ Opened w D g log R v w' := by
  have HF := Lib.hid (fits_any w g s D h log)
  rw [hm] at HF
  have HD := Lib.hid h
  have hmm : 1 ≤ log ∧ log + 1 < s.sectors ∧ 3 + 3 * log ≤ s.bytes := by
    unfold may at hm
    simp at hm
    omega
  have hz43 := zero43
  obtain ⟨S1, r⟩ := R
  have HRE := Lib.hid hredo
  clear h hm hredo
  go_enter Tryz.func53, Tryz.ntmps53
  go_wp2_with fail
  refine HF.out.mono ?_
  rintro e w1 ⟨rfl, k, rfl⟩
  obtain ⟨W1, hW1⟩ : ∃ W1, w.drewN k = W1 := ⟨_, rfl⟩
  have hbW : Below w.heap.size w W1 := by rw [← hW1]; exact below_drewN (Below.refl _ _) _
  have hszW : W1.heap.size = w.heap.size := by rw [← hW1]; rfl
  rw [hW1]
  clear hW1
  obtain ⟨W2, hW2⟩ : ∃ W2, W1.alloc (.cells #[.pointer (some ⟨g, 0, none⟩), .int .i64 (log : Int), .bool false] 163) = W2 := ⟨_, rfl⟩
  have hbW2 : Below w.heap.size w W2 := by rw [← hW2]; exact hbW.alloc hbW.size _
  obtain ⟨p, hp⟩ : ∃ p, W1.heap.size = p := ⟨_, rfl⟩
  have hrow : W2.heap[p]? = some (.cells (wc g log false) 163 (0, 0)) := by rw [← hW2, ← hp]; exact heap_alloc_new W1 _
  have hWA : WalAt W2 p g s log false D := ⟨hrow, HD.out.below hbW2, fun hd => by have := HD.out.lt p hd; omega, hmm.1, hmm.2.1, hmm.2.2⟩
  have HR := Lib.hid (HRE.out W2 p hWA)
  have HB2 := Lib.hid hbW2
  have HP : Hid (w.heap.size ≤ p) := by show w.heap.size ≤ p; omega
  clear hbW hbW2 hrow hWA hszW hmm
  go_wp2_with fail
  refine HR.out.mono ?_
  rintro e w3 ⟨rfl, D3, h3, h4, h5⟩
  have H3 := Lib.hid h3
  have H4 : Hid (∀ k, D3 k → D k ∨ w.heap.size ≤ k) := fun k hk => (h4 k hk).imp id (fun h => Nat.le_trans HB2.out.size h)
  have H5 : Hid (Fr D w w3) := (Fr.of HB2.out).trans h5
  clear h3 h4 h5
  by_cases hr : r = 0
  · subst hr
    go_wp2
    go_ret2
    exact ⟨_, rfl, .inl ⟨rfl, p, D3, rfl, HP.out, H3.out, H4.out, H5.out⟩⟩
  · go_wp2
    go_ret2
    exact ⟨_, rfl, .inr ⟨hr, rfl, D3, H3.out.disk, H4.out, H5.out⟩⟩
end Go.Proofs.YtephmcbofcfpmaaGreat

