/- Crash. Conditions: none. A deed; Flush. Conditions: none. -/
import Derived.Test.YtephmcbofcfpmaaGreatJ06
set_option maxRecDepth 8000
set_option linter.unusedSimpArgs false
set_option linter.unusedVariables false
namespace Go.Proofs.YtephmcbofcfpmaaGreat
open Go.RowKit Go.Bs Go.Dk Go.Shelf
attribute [local go_sem] Oper.semAt_some

/-- between two rounds of the undoing. -/
def UI {N : Nat} (W2 : World) (m : Nat) (M : Nat → Value) (pre : List (Al N)) (W : World) : Prop := Fr (fun k => k = m) W2 W ∧ MapIs W m N (undo M pre)
theorem UI.own {N : Nat} {W2 : World} {m : Nat} {M : Nat → Value} (hm : m < W2.heap.size) : OwnFrom W2.heap.size (UI (N := N) W2 m M) := by
  intro pre A B row hs hg hr
  refine ⟨hs.1.grown hg fun k e => .inr (hr k e).1, hs.2.keep (hg.block m hs.2.lt (fun e => ?_))⟩
  have := (hr m e.symm).1
  omega
/-- the loop's variable in its box. -/
def UA {N : Nat} (W2 : World) (T : Value → Value → Value → Array Value) (x : Al N) (a' : Act) (W : World) : Prop :=
  ∃ Bx, W2.heap.size ≤ Bx ∧ W.heap[Bx]? = some (.cells #[.int .i64 (x.1.2.1 : Int), sv x.1.2.2.1, sv x.1.2.2.2] 128 (0, 0)) ∧ a' = { tmps := T (.pointer (some ⟨Bx, 0, none⟩)) (.int .i64 (x.1.1 : Int)) (.agg #[.int .i64 (x.1.2.1 : Int), sv x.1.2.2.1, sv x.1.2.2.2]), defers := [] }
theorem UA.own {N : Nat} {W2 : World} {T : Value → Value → Value → Array Value} (x : Al N) (a' : Act) : OwnFrom W2.heap.size (fun (_ : Unit) W => UA W2 T x a' W) := by
  rintro _ A B row ⟨Bx, h1, h2, h3⟩ hg hr
  refine ⟨Bx, h1, (hg.block Bx (Array.getElem?_eq_some_iff.1 h2).1 (fun e => ?_)).trans h2, h3⟩
  obtain ⟨_, o, ho, hc⟩ := hr Bx e.symm
  rw [h2] at ho
  cases ho
  cases hc

set_option maxRecDepth 100000 in
set_option maxHeartbeats 2000000 in
theorem Crash_up (w : World) (g : Nat) (s : S) (D : Nat → Prop) (m : Nat) (A' : Option Addr) (len cap : Nat) (kv : Value) (M : Nat → Value) (E : List Ent) (h : DB w g s D m (.slice A' len cap) kv M E) (hu : s.up = true) (hlen : E.length = len) (hl : len ≤ 1000000) (A : Option Addr) (n c : Nat) (ks : List Bool) (hq : RdQ w A n c ks) :
    Calls Tryz.prog 40 #[.pointer (some ⟨g, 0, none⟩), .slice A n c] w fun e w' => (∃ v, e = .returned v) ∧ Did D g (s.crash ks) w w' := by
  have HD := Lib.hid h
  have HQ := Lib.hid hq
  have HU := Lib.hid hu
  have HLEN := Lib.hid hlen
  have hE : ∀ i, i < E.length → (eAt E i).1 < s.sectors := fun i hi => by
    have hi' : i < s.c.length := by rw [← h.elen]; exact hi
    rw [(h.data.ents i hi').1]
    refine (h.ok.cs _ ?_).1
    unfold wAt
    rw [List.getD, List.getElem?_eq_getElem hi']
    exact List.getElem_mem hi'
  have HE := Lib.hid hE
  obtain ⟨W1, hW1⟩ : ∃ W1, w.alloc (.cells #[.pointer (some ⟨g, 0, none⟩)] 25) = W1 := ⟨_, rfl⟩
  have hb1 : Below w.heap.size w W1 := by rw [← hW1]; exact (Below.refl _ _).alloc (Nat.le_refl _) _
  have hrow1 := (hb1.block g (h.lt g h.gD)).trans h.row
  obtain ⟨z, hz⟩ : ∃ z, w.heap.size = z := ⟨_, rfl⟩
  have hbox1 : Boxed W1 z 25 (.pointer (some ⟨g, 0, none⟩)) := by rw [← hW1, ← hz]; exact Boxed.new _ _ _
  have hs1 : W1.heap.size = z + 1 := by rw [← hW1, ← hz]; simp
  have hcb := hbox1.cell
  obtain ⟨_, _, _, c3, _⟩ := dc_cells hrow1
  have HR := Lib.hid (ready_any W1 g s m (.slice A' len cap) kv hrow1)
  have HB := Lib.hid (back_any A' len cap W1)
  have HBOX := Lib.hid hbox1
  have HB1 := Lib.hid hb1
  clear h hq hu hlen hrow1 hE hbox1 hb1
  refine (callsIn_wide (n := 10)).1 (callsIn_of_wp_marks Tryz.func40 rfl trivial ?_ rfl)
  simp only [Tryz.ntmps40, List.size_toArray, List.length_cons, List.length_nil, Nat.reduceAdd, Nat.reduceSub, Array.replicate_succ, Array.replicate_zero, List.push_toArray, List.append_toArray, List.nil_append, List.cons_append]
  refine wpIn_wide.2 ?_
  go_wp2_with fail
  refine HR.out.mono ?_
  rintro e w1 ⟨rfl, rfl⟩
  unfold rdy
  rw [HU.out]
  go_wp2_with fail
  refine HB.out.mono ?_
  rintro e w2 ⟨rfl, rfl⟩
  go_wp2_with fail
  obtain ⟨W2, hW2⟩ : ∃ W2, W1.alloc (.cells #[.slice A' len cap] 98) = W2 := ⟨_, rfl⟩
  have hb2 : Below W1.heap.size W1 W2 := by rw [← hW2]; exact (Below.refl _ _).alloc (Nat.le_refl _) _
  have hs2 : W2.heap.size = z + 2 := by rw [← hW2, World.size_alloc, hs1]
  have hbox2 : Boxed W2 (z + 1) 98 (.slice A' len cap) := by rw [← hW2, ← hs1]; exact Boxed.new _ _ _
  have hbox1 : Boxed W2 z 25 (.pointer (some ⟨g, 0, none⟩)) := (hb2.block z (by omega)).trans HBOX.out
  have hb12 : Below w.heap.size w W2 := HB1.out.trans (hb2.mono HB1.out.size)
  have hrow2 := (hb12.block g (HD.out.lt g HD.out.gD)).trans HD.out.row
  have hc2 := ownsRow_keepB HD.out.cache fun k e => hb12.block k (HD.out.lt k (HD.out.cD k e).1)
  have hm2 := HD.out.map.keep (hb12.block m (HD.out.lt m HD.out.mD))
  have hgz : g < z := by rw [← hz]; exact HD.out.lt g HD.out.gD
  have hmz : m < z := by rw [← hz]; exact HD.out.lt m HD.out.mD
  have hcz : ∀ k, Value.ownBlock (.slice A' len cap) = some k → k < z ∧ k ≠ m ∧ k ≠ g := fun k e => by
    rw [← hz]; exact ⟨HD.out.lt k (HD.out.cD k e).1, (HD.out.cD k e).2.2, (HD.out.cD k e).2.1⟩
  have hgm := HD.out.gm
  rw [hW2]
  refine (wpIn_wide (n := 10)).1 ?_
  refine wpIn_rangeFunc_ownH (F := Fence.wide) rfl (by omega) (gf := 122) (lb := #[.pointer (some ⟨z + 1, 0, none⟩)]) rfl trivial (enters_of Tryz.func122 (by kernel_rfl) rfl)
    (back_stops Fence.wide 9 trivial rfl (by omega) (z + 1) A' len cap E s.sectors HE.out HLEN.out W2 hbox2 hc2 hl)
    (fun h k => ⟨k.1.trans h.1, fun i e => (k.2 i e).trans (h.2 i e)⟩)
    (fun W l o o' hl' _ _ _ => ⟨World.putObj_heap_other (by omega), fun i e => World.putObj_heap_other (by have := (hcz i e).1; omega)⟩)
    (Below.refl _ _) (fun _ => rfl) (UI W2 m M) (fun _ _ _ => False) (UI.own (by omega)) (fun _ _ _ _ _ hs _ _ => hs) ⟨Fr.refl _ _, hm2⟩
    (UA W2 (fun p i ag => #[.pointer (some ⟨g, 0, none⟩), .slice A n c, .pointer (some ⟨z, 0, none⟩), undef, undef, p, undef, undef, .pointer (some ⟨g, 0, none⟩), .int .i64 0, .bool false, .pointer (some ⟨g, 0, none⟩), .pointer (some ⟨g, 0, none⟩), .pointer (some ⟨g, 3, none⟩), .slice A' len cap, .func (.func 122) #[] #[.pointer (some ⟨z + 1, 0, none⟩)], i, ag, undef, undef, undef, undef, undef, undef, undef, undef, undef, undef, undef, undef, undef, undef, undef, undef, undef, undef, undef, undef, undef, undef, undef, undef, undef, undef, undef, undef, undef, undef, undef, undef, undef, undef, undef, undef, undef, undef, undef, undef, undef, undef, undef, undef, undef, undef, undef, undef, undef, undef, undef])) UA.own ?assign ?body ?done ?stop
  case assign =>
    rintro l pre x W K hi hK
    obtain ⟨⟨ix, k, ⟨A1, n1, c1⟩, ⟨A2, n2, c2⟩⟩, hx⟩ := x
    have hz66 := zero66
    dsimp only [encA, sv]
    gi_wp2
    exact hK _ _ ((KeepsOthers.alloc _ _).from _) ⟨Below.heap_alloc _ _ _ (by have := hi.1.size; omega), fun i e => Below.heap_alloc _ _ _ (by have := hi.1.size; have := (hcz i e).1; omega)⟩ ⟨hi.1.alloc _, hi.2.keep (Below.heap_alloc _ _ _ hi.2.lt)⟩ ⟨W.heap.size, hi.1.size, heap_alloc_new W _, rfl⟩
  case body =>
    rintro l pre x a' W hl' hr hi ⟨Bx, hBx, hcx, rfl⟩ hlt
    obtain ⟨⟨ix, k, ⟨A1, n1, c1⟩, ⟨A2, n2, c2⟩⟩, hx⟩ := x
    obtain ⟨hFr, hMap⟩ := hi
    have hbz := Boxed.cell (W := W) ((hFr.block z (by omega) (by omega)).trans hbox1)
    obtain ⟨_, _, k2, _⟩ := dc_cells ((hFr.block g (by omega) hgm).trans hrow2)
    have hx0 : W.cell? ⟨Bx, 0, none⟩ = some (.int .i64 (k : Int)) := by rw [cell_of_row W Bx 0 _ 128 (0, 0) hcx]; rfl
    have hx1 : W.cell? ⟨Bx, 1, none⟩ = some (.slice A1 n1 c1) := by rw [cell_of_row W Bx 1 _ 128 (0, 0) hcx]; rfl
    have hsec := HD.out.ok.s1
    refine wpIn_block ?_
    refine wpIn_round_still_tail l 8 mixed (by kernel_rfl) rfl (fun ⟨_, _, h⟩ => h) ?_
    simp only [List.take_succ_cons, List.take_zero, List.drop_succ_cons, List.drop_zero]
    have HFR := Lib.hid hFr
    have HMAP := Lib.hid hMap
    clear hr hFr hcx hbox1 hbox2 hb12 hrow2 hc2 hm2 hMap
    repeat still_step
    refine wpStill_nil ?_
    refine wpList_mapPut _ rfl _ _ _ rfl m s.sectors (undo M pre) rfl (HMAP.out.keep rfl) k hx hsec (.slice A1 n1 c1) rfl rfl ?_
    intro w1 hm1 hg1
    have hg : W.grownBy w1 (some m) := ⟨hg1.os, hg1.tape, hg1.output, hg1.size, hg1.block⟩
    refine ⟨KeepsFrom.of_grownBy hg (fun j e => by cases e; omega), ⟨hg.block _ (by have := HFR.out.size; omega) (fun e => by cases e; omega), fun i e => hg.block i (by have := HFR.out.size; have := (hcz i e).1; omega) (fun e2 => (hcz i e).2.1 (by cases e2; rfl))⟩, HFR.out.grown hg (fun k e => .inl (by cases e; rfl)), ?_⟩
    rw [undo_snoc]
    exact hm1
  case done =>
    rintro D0 ys W hD0 rfl ⟨hFr, hMap⟩ hK
    have hbz := Boxed.cell (W := W) ((hFr.block z (by omega) (by omega)).trans hbox1)
    obtain ⟨_, _, k2, k3, _⟩ := dc_cells ((hFr.block g (by omega) hgm).trans hrow2)
    have hsec := HD.out.ok.s1
    obtain ⟨mn, hmn⟩ : ∃ mn, min n len = mn := ⟨_, rfl⟩
    have hcap := HQ.out.cap
    have hmin : ∀ ty W, (Builtin.min_ #[3, 3] ty #[.int .i64 (n : Int), .int .i64 (len : Int)]).run Tryz.prog W = .ok (.int .i64 (mn : Int)) W := fun ty W => by
      rw [run_min_int2, ← hmn]
      congr 2
      split <;> omega
    have hsl := slice_to33 A n c mn (by omega)
    have HMN := Lib.hid hmn
    have HFR := Lib.hid hFr
    have HMAP := Lib.hid hMap
    have HK := Lib.hid hK
    have HBX := Lib.hid hbox1
    have HB12 := Lib.hid hb12
    have HRW := Lib.hid hrow2
    have HC2 := Lib.hid hc2
    clear hmn hFr hMap hK hbox1 hbox2 hb12 hrow2 hc2 hm2
    go_wp2
    go_loopw [37] (fun i wr => ∃ k : Nat, k ≤ mn ∧ i = .int .i64 k ∧ Fr (fun k => k = m) W2 wr ∧ MapIs wr m s.sectors (redo (undo M (back E s.sectors HE.out len)) E ks k) ∧ wr.heap[D0]? = some (.deferred (some []))) (fun i _ => mn - (RowKit.intOf i).toNat)
    case atStart => exact ⟨0, Nat.zero_le _, rfl, HFR.out, HMAP.out, HK.out⟩
    case round =>
      obtain ⟨k, hk, rfl, hF, hM, hKd⟩ := hrel
      have hbz' := Boxed.cell (W := wr) ((hF.block z (by omega) (by omega)).trans HBX.out)
      have hrw := (hF.block g (by omega) hgm).trans HRW.out
      obtain ⟨_, _, j2, j3, j4, _, _, _, jf⟩ := dc_cells hrw
      have hcc := ownsRow_keepB (w' := wr) HC2.out fun i e => hF.block i (by have := (hcz i e).1; omega) (hcz i e).2.1
      by_cases hlt : k < mn
      · have hkn : k < n ∧ k < len := by have := HMN.out; omega
        obtain ⟨ga, oa, rfl, hga, hca⟩ := HQ.out.cells (by omega)
        have hne : ga ≠ m := fun e => by
          obtain ⟨es, ck, hm, _⟩ := HD.out.map
          have := hca 0 (by omega)
          subst e
          simp [World.cell?, hm] at this
        have hkc : wr.cell? ⟨ga, oa + k, none⟩ = some (.bool (ks.getD k false)) := by
          rw [← hca k hkn.1]
          refine World.cell?_of_block (a := ⟨ga, oa + k, none⟩) ((hF.block ga (by omega) hne).trans (HB12.out.block ga hga))
        obtain ⟨b, rfl, hxx, hcp, hcm, hbw, hcells⟩ := cache_cells hcc (by omega)
        clear hxx
        obtain ⟨e1, e2, e3⟩ := hcells k (by rw [HLEN.out]; exact hkn.2)
        have hkN := HE.out k (by rw [HLEN.out]; exact hkn.2)
        obtain ⟨q, hq⟩ : ∃ q, eAt E k = q := ⟨_, rfl⟩
        obtain ⟨qk, ⟨A1, n1, c1⟩, ⟨A2, n2, c2⟩⟩ := q
        rw [hq] at e1 e2 e3 hkN
        dsimp only [sv] at e1 e2 e3 hkN
        have HQ2 := Lib.hid hq
        have HF := Lib.hid hF
        have HM := Lib.hid hM
        have HKD := Lib.hid hKd
        cases hb : ks.getD k false
        · rw [hb] at hkc
          have HBB := Lib.hid hb
          clear hq hca hcells hF hM hKd hb hrw hcc j4 jf
          go_wp2
          go_roundw
          case rel => exact ⟨k + 1, by omega, by go_num, HF.out, by rw [redo, HBB.out]; exact HM.out, HKD.out⟩
          case measure => simp [RowKit.intOf]; omega
        · rw [hb] at hkc
          have HBB := Lib.hid hb
          clear hq hca hcells hF hM hKd hb hrw hcc j4 jf
          go_wp2_with fail
          go_still_tail 20, mixed
          refine wpList_mapPut _ rfl _ _ _ rfl m s.sectors _ rfl (HM.out.keep rfl) qk hkN hsec (.slice A2 n2 c2) rfl rfl ?_
          intro w1 hm1 hg1
          have hg : wr.grownBy w1 (some m) := ⟨hg1.os, hg1.tape, hg1.output, hg1.size, hg1.block⟩
          have HF1 := Lib.hid (HF.out.grown hg (fun k e => .inl (by cases e; rfl)))
          have HM1 := Lib.hid hm1
          have HK1 : Hid (w1.heap[D0]? = some (.deferred (some []))) := (hg.block D0 (Array.getElem?_eq_some_iff.1 HKD.out).1 (fun e => by cases e; omega)).trans HKD.out
          clear hm1 hg1 hg
          go_wp2
          go_roundw
          case rel => exact ⟨k + 1, by omega, by go_num, HF1.out, by rw [redo, HBB.out, HQ2.out]; exact HM1.out, HK1.out⟩
          case measure => simp [RowKit.intOf]; omega
      · obtain rfl : k = mn := by omega
        have HFG := Lib.hid (forget_any wr g s m _ kv _ _ hrw hcc (fun e => (hcz g e).2.2 rfl))
        have HF := Lib.hid hF
        have HM := Lib.hid hM
        have HKD := Lib.hid hKd
        clear hF hM hKd hrw hcc j4 jf
        go_wp2_with fail
        refine HFG.out.mono ?_
        rintro e w3 ⟨⟨v, rfl⟩, cv', hrow3, hc3, hcb3, hfr3⟩
        have hbz3 : w3.cell? ⟨z, 0, none⟩ = some (.pointer (some ⟨g, 0, none⟩)) := by
          rw [← hbz']
          refine World.cell?_of_block (a := ⟨z, 0, none⟩) (hfr3.block z (by have := HF.out.size; omega) ?_)
          rintro (e | e)
          · omega
          · have := (hcz z e).1; omega
        obtain ⟨_, _, _, _, i4, _, _, _, jf3⟩ := dc_cells hrow3
        have if4 := jf3 4
        have HR3 := Lib.hid hrow3
        have HC3 := Lib.hid hc3
        have HCB3 := Lib.hid hcb3
        have HFR3 := Lib.hid hfr3
        have HKD3 : Hid (w3.heap[D0]? = some (.deferred (some []))) := by
          refine (hfr3.block D0 (Array.getElem?_eq_some_iff.1 HKD.out).1 ?_).trans HKD.out
          rintro (e | e)
          · omega
          · have := (hcz D0 e).1; omega
        clear hrow3 hc3 hcb3 hfr3 jf3
        go_wp2
        have hK5 : (w3.setCell ⟨g, 4, none⟩ (.bool false)).heap[D0]? = some (.deferred (some [])) := (setCell_other _ _ _ _ _ (by omega)).trans HKD3.out
        refine ⟨by simp, .inl ⟨_, _, rfl, run_takeDeferred hK5, ?_⟩⟩
        refine ⟨_, results_none rfl _ _ _, ⟨_, rfl⟩, ?_⟩
        have hlE := HLEN.out
        have hcz' := hcz
        have hw2 : w.heap.size ≤ D0 := by omega
        have h5 : ∀ i, i ≠ g → i ≠ D0 → ((w3.setCell ⟨g, 4, none⟩ (.bool false)).putObj D0 (.deferred none)).heap[i]? = w3.heap[i]? := fun i h1 h2 => (World.putObj_heap_other (fun e => h2 (by first | exact e | exact e.symm))).trans (setCell_other _ _ _ _ _ h1)
        refine crash_at HD.out HU.out HE.out ks k (by rw [HQ.out.len, hlE]; exact HMN.out.symm) cv' HCB3.out (ownsRow_keepB HC3.out fun i e => ?_) ?_ len hlE ?_ ?_
        · rw [HCB3.out] at e
          have := hcz i e
          exact h5 i this.2.2 (by omega)
        · exact (World.putObj_heap_other (by omega)).trans (dc_set HR3.out 4 (.bool false) { s with up := false } m cv' kv rfl)
        · have hm3 := HM.out.keep (HFR3.out.block m HM.out.lt (by
            rintro (e | e)
            · exact hgm e.symm
            · exact (hcz m e).2.1 rfl))
          exact hm3.keep (h5 m (fun e => hgm e.symm) (by omega))
        · have f1 : Fr (fun k => k = m ∨ k = g ∨ Value.ownBlock (.slice A' len cap) = some k) w wr := (Fr.of HB12.out).step HF.out (fun i e => .inl (.inl e))
          have f2 := f1.step HFR3.out (fun i e => .inl (.inr e))
          have f3 := f2.setCell (g := g) (i := 4) (.inl (.inr (.inl rfl))) (.bool false)
          exact f3.grown (grownBy_putObj' _ D0 (.deferred none)) (fun i e => .inr (by cases e; omega))
  case stop =>
    rintro D0 c' pre W _ _ h _
    exact h.elim

set_option maxHeartbeats 1000000 in
theorem Crash_down (w : World) (g : Nat) (s : S) (m : Nat) (cv kv : Value) (hrow : w.heap[g]? = some (.cells (dc s m cv kv) 100 (0, 0))) (hu : s.up = false) (v : Value) :
    Calls Tryz.prog 40 #[.pointer (some ⟨g, 0, none⟩), v] w fun e w' => (∃ v, e = .returned v) ∧ Below w.heap.size w w' := by
  have HU := Lib.hid hu
  obtain ⟨W1, hW1⟩ : ∃ W1, w.alloc (.cells #[.pointer (some ⟨g, 0, none⟩)] 25) = W1 := ⟨_, rfl⟩
  have hb1 : Below w.heap.size w W1 := by rw [← hW1]; exact (Below.refl _ _).alloc (Nat.le_refl _) _
  have hrow1 := (hb1.block g (Array.getElem?_eq_some_iff.1 hrow).1).trans hrow
  obtain ⟨z, hz⟩ : ∃ z, w.heap.size = z := ⟨_, rfl⟩
  have hbox1 : Boxed W1 z 25 (.pointer (some ⟨g, 0, none⟩)) := by rw [← hW1, ← hz]; exact Boxed.new _ _ _
  have hcb := hbox1.cell
  have HR := Lib.hid (ready_any W1 g s m cv kv hrow1)
  have HB := Lib.hid hb1
  clear hrow hu hrow1 hbox1 hb1
  refine (callsIn_wide (n := 10)).1 (callsIn_of_wp_marks Tryz.func40 rfl trivial ?_ rfl)
  simp only [Tryz.ntmps40, List.size_toArray, List.length_cons, List.length_nil, Nat.reduceAdd, Nat.reduceSub, Array.replicate_succ, Array.replicate_zero, List.push_toArray, List.append_toArray, List.nil_append, List.cons_append]
  refine wpIn_wide.2 ?_
  go_wp2_with fail
  refine HR.out.mono ?_
  rintro e w1 ⟨rfl, rfl⟩
  unfold rdy
  rw [HU.out]
  go_wp2
  exact ⟨_, results_none rfl _ _ _, ⟨_, rfl⟩, HB.out⟩
theorem Crash_any (w : World) (g : Nat) (s : S) (D : Nat → Prop) (h : DiskAt w g s D) (hd : s.deeds < 1000000) (A : Option Addr) (n c : Nat) (ks : List Bool) (hq : RdQ w A n c ks) :
    Calls Tryz.prog 40 #[.pointer (some ⟨g, 0, none⟩), .slice A n c] w fun e w' => (∃ v, e = .returned v) ∧ Did D g (s.crash ks) w w' := by
  obtain ⟨m, cv, kv, M, E, h⟩ := h
  cases hu : s.up
  · refine (Crash_down w g s m cv kv h.row hu _).mono ?_
    rintro e w' ⟨he, hb⟩
    refine ⟨he, D, ?_, fun _ h => .inl h, Fr.of hb⟩
    unfold S.crash
    rw [if_neg (by rw [hu]; simp)]
    exact DiskAt.below ⟨m, cv, kv, M, E, h⟩ hb
  · obtain ⟨A', cap, rfl⟩ : ∃ A' cap, cv = .slice A' E.length cap := by
      rcases h.cache.2 with ⟨e, e0⟩ | ⟨b, cap, cur, e, _⟩
      · exact ⟨none, 0, by rw [e, e0]⟩
      · exact ⟨_, cap, e⟩
    exact Crash_up w g s D m A' E.length cap kv M E h hu rfl (by rw [h.elen]; exact Nat.le_trans h.ok.cd hd) A n c ks hq
theorem Crash_nil (w : World) (v : Value) : Calls Tryz.prog 40 #[.pointer none, v] w fun e w' => (∃ v, e = .returned v) ∧ Below w.heap.size w w' := by
  obtain ⟨W1, hW1⟩ : ∃ W1, w.alloc (.cells #[.pointer none] 25) = W1 := ⟨_, rfl⟩
  have hb1 : Below w.heap.size w W1 := by rw [← hW1]; exact (Below.refl _ _).alloc (Nat.le_refl _) _
  obtain ⟨z, hz⟩ : ∃ z, w.heap.size = z := ⟨_, rfl⟩
  have hbox1 : Boxed W1 z 25 (.pointer none) := by rw [← hW1, ← hz]; exact Boxed.new _ _ _
  have hcb := hbox1.cell
  have HR := Lib.hid (ready_nil W1)
  have HB := Lib.hid hb1
  clear hbox1 hb1
  refine (callsIn_wide (n := 10)).1 (callsIn_of_wp_marks Tryz.func40 rfl trivial ?_ rfl)
  simp only [Tryz.ntmps40, List.size_toArray, List.length_cons, List.length_nil, Nat.reduceAdd, Nat.reduceSub, Array.replicate_succ, Array.replicate_zero, List.push_toArray, List.append_toArray, List.nil_append, List.cons_append]
  refine wpIn_wide.2 ?_
  go_wp2_with fail
  refine HR.out.mono ?_
  rintro e w1 ⟨rfl, rfl⟩
  go_wp2
  exact ⟨_, results_none rfl _ _ _, ⟨_, rfl⟩, HB.out⟩
end Go.Proofs.YtephmcbofcfpmaaGreat

set_option maxRecDepth 8000
set_option linter.unusedSimpArgs false
set_option linter.unusedVariables false
namespace Go.Proofs.YtephmcbofcfpmaaGreat
open Go.RowKit Go.Bs Go.Dk

set_option maxHeartbeats 1000000 in
theorem deed_any (w : World) (g : Nat) (s : S) (D : Nat → Prop) (h : DiskAt w g s D) (hd : s.deeds < 900000) :
    Calls Tryz.prog 142 #[.pointer (some ⟨g, 0, none⟩)] w fun e w' => e = .returned (.int .i64 s.deed.2) ∧ Did D g s.deed.1 w w' := by
  obtain ⟨m, cv, kv, M, E, h⟩ := h
  obtain ⟨_, _, _, _, _, c5, c6, c7, hf⟩ := dc_cells h.row
  have hf5 := hf 5
  have hf6 := hf 6
  have hok := h.ok
  have hcd := h.ok.cd
  have hlf := h.ok.lf
  -- the count
  have hrow1 := dc_set h.row 5 (.int .i64 ((s.deeds + 1 : Nat) : Int)) { s with deeds := s.deeds + 1 } m cv kv rfl
  have h1 : DB (w.setCell ⟨g, 5, none⟩ (.int .i64 ((s.deeds + 1 : Nat) : Int))) g { s with deeds := s.deeds + 1 } D m cv kv M E :=
    h.own' ⟨hok.s0, hok.s1, hok.b0, hok.b1, Nat.le_succ_of_le hcd, hok.lf, hok.cs, hok.ls⟩ rfl rfl rfl rfl rfl hrow1 (setCell_size _ _ _).symm (fun k hk => setCell_other _ _ _ _ _ hk)
  obtain ⟨W1, hW1⟩ : ∃ W1, w.setCell ⟨g, 5, none⟩ (.int .i64 ((s.deeds + 1 : Nat) : Int)) = W1 := ⟨_, rfl⟩
  have hfr1 : Fr D w W1 := by rw [← hW1]; exact (Fr.refl _ _).setCell (.inl h.gD) _
  rw [hW1] at h1 hrow1
  have hW1' : w.setCell ⟨g, 5, none⟩ (.int .i64 ((s.deeds : Int) + 1)) = W1 := by rw [← hW1]; rfl
  obtain ⟨_, _, _, _, _, _, b6, b7, bf⟩ := dc_cells hrow1
  have bf6 := bf 6
  by_cases hl0 : s.left = 0
  · have e : s.deed = ({ s with deeds := s.deeds + 1 }, 0) := by unfold S.deed; rw [if_pos hl0]
    rw [e]
    have HD1 := Lib.hid h1
    have HFR1 := Lib.hid hfr1
    rw [hl0] at b6
    clear h h1 hfr1 hrow1 hok bf hf e hW1 hl0 hlf c6
    go_enter Tryz.func142, Tryz.ntmps142
    go_wp2
    go_ret
    exact ⟨rfl, D, ⟨m, cv, kv, M, E, HD1.out⟩, fun _ h => .inl h, HFR1.out⟩
  · obtain ⟨lf, hlfe⟩ : ∃ lf, s.left = lf + 1 := ⟨s.left - 1, by omega⟩
    have hrow2 := dc_set hrow1 6 (.int .i64 (lf : Int)) { s with deeds := s.deeds + 1, left := lf } m cv kv rfl
    have h2 : DB (W1.setCell ⟨g, 6, none⟩ (.int .i64 (lf : Int))) g { s with deeds := s.deeds + 1, left := lf } D m cv kv M E :=
      h1.own' ⟨hok.s0, hok.s1, hok.b0, hok.b1, Nat.le_succ_of_le hcd, by show lf ≤ _; omega, hok.cs, hok.ls⟩ rfl rfl rfl rfl rfl hrow2 (setCell_size _ _ _).symm (fun k hk => setCell_other _ _ _ _ _ hk)
    obtain ⟨W2, hW2⟩ : ∃ W2, W1.setCell ⟨g, 6, none⟩ (.int .i64 (lf : Int)) = W2 := ⟨_, rfl⟩
    have hfr2 : Fr D w W2 := by rw [← hW2]; exact hfr1.setCell (.inl h.gD) _
    rw [hW2] at h2 hrow2
    obtain ⟨_, _, _, _, _, _, d6, d7, _⟩ := dc_cells hrow2
    rw [hlfe] at b6
    have hlr : lf + 1 ≤ 9223372036854775807 := by omega
    have HFR2 := Lib.hid hfr2
    have HD2 := Lib.hid h2
    by_cases hl1 : s.left = 1
    · have hlz : lf = 0 := by omega
      have e : s.deed = (({ s with deeds := s.deeds + 1, left := lf } : S).crash s.keep, 50) := by unfold S.deed; rw [if_neg hl0, if_pos hl1, hlz]
      have hnp : ¬ (0 : Int) < (lf : Int) := by omega
      rw [e]
      obtain ⟨kA, kc, hkv, hkr, _⟩ := h2.data.keep
      have HC := Lib.hid (Crash_any W2 g _ D ⟨m, cv, kv, M, E, h2⟩ (by show s.deeds + 1 < 1000000; omega) kA _ kc s.keep hkr)
      rw [hkv] at d7
      clear h h1 h2 hfr1 hfr2 hrow1 hrow2 hok bf hf e hW1 hkr hkv c7 b7 hlz hl0 hl1 hlfe c6 hlf
      go_enter Tryz.func142, Tryz.ntmps142
      go_wp2_with fail
      refine HC.out.mono ?_
      rintro e w3 ⟨⟨v, rfl⟩, hdid⟩
      have HDD := Lib.hid hdid
      clear hdid
      go_wp2
      go_ret
      exact ⟨rfl, Did.step (fun _ h => .inl h) HFR2.out HDD.out⟩
    · have e : s.deed = ({ s with deeds := s.deeds + 1, left := lf }, 0) := by unfold S.deed; rw [if_neg hl0, if_neg hl1, hlfe]; rfl
      rw [e]
      have hlp : 0 < lf := by omega
      clear h h1 h2 hfr1 hfr2 hrow1 hrow2 hok bf hf e hW1 hl0 hl1 hlfe c6 hlf
      go_enter Tryz.func142, Tryz.ntmps142
      go_wp2
      go_ret
      exact ⟨rfl, D, ⟨m, cv, kv, M, E, HD2.out⟩, fun _ h => .inl h, HFR2.out⟩
end Go.Proofs.YtephmcbofcfpmaaGreat

