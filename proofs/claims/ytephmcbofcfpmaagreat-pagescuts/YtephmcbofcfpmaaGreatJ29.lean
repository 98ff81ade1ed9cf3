/- The changes of pages. Conditions: none. All changes of a transaction. Conditions: none. -/
import Derived.Test.YtephmcbofcfpmaaGreatJ27
import Derived.Test.YtephmcbofcfpmaaGreatJ28
import Derived.Test.YtephmcbofcfpmaaGreatJ10
set_option maxRecDepth 8000
set_option linter.unusedSimpArgs false
set_option linter.unusedVariables false
namespace Go.Proofs.YtephmcbofcfpmaaGreat
open Go.RowKit Go.Bs Go.Dk Rp

theorem OwnG.low {w : World} {base b : Nat} {v : Value} {L : List Te} (h : OwnG w base v L) (hb : b ≤ base) : OwnG w b v L :=
  ⟨⟨h.own.1, by
    rcases h.own.2 with x | ⟨g', cap', cur', y1, y2, y3⟩
    · exact .inl x
    · exact .inr ⟨g', cap', cur', y1, Nat.le_trans hb y2, y3⟩⟩, h.at_⟩
def pageCh (N : Nat) (F : Nat → Option Value) (T : TX) : List Ch := (keysOf N F).map fun i : Nat => ((i : Int), T.L i)
theorem ints_form {w : World} {base : Nat} {v : Value} {ks : List Nat} (h : w.ownsRow base 3 1 v ks.length (ks.map fun k : Nat => Value.int .i64 (k : Int))) : ∃ A c, v = .slice A ks.length c ∧ ks.length ≤ c ∧ (0 < ks.length → ∃ g, A = some ⟨g, 0, none⟩ ∧ base ≤ g ∧ g < w.heap.size ∧ ∀ j, j < ks.length → w.cell? ⟨g, j, none⟩ = some (.int .i64 ((ks.getD j 0 : Nat) : Int))) := by
  rcases h.2 with ⟨rfl, h0⟩ | ⟨g, cap, cur, rfl, hbg, hg, hn, _, hsz, htk⟩
  · exact ⟨none, 0, by rw [h0], by omega, fun h => by omega⟩
  · refine ⟨_, cap, rfl, hn, fun _ => ⟨g, rfl, hbg, (Array.getElem?_eq_some_iff.1 hg).1, fun j hj => ?_⟩⟩
    rw [cell_of_row w g _ _ 3 (0, 0) hg]
    have h1 : (cur.toList.take (ks.length * 1))[j]? = (ks.map fun k : Nat => Value.int .i64 (k : Int))[j]? := by rw [htk]
    rw [List.getElem?_take, if_pos (by omega), Array.getElem?_toList] at h1
    rw [h1]
    simp [hj]
theorem keysOf_len (N : Nat) (F : Nat → Option Value) : (keysOf N F).length ≤ N := Nat.le_trans (List.length_filter_le _ _) (by simp)
theorem keysOf_mem {N : Nat} {F : Nat → Option Value} {j : Nat} (hj : j < (keysOf N F).length) : (keysOf N F).getD j 0 < N ∧ ∃ v, F ((keysOf N F).getD j 0) = some v := by
  have h1 : (keysOf N F).getD j 0 ∈ keysOf N F := by
    have : (keysOf N F).getD j 0 = (keysOf N F)[j] := by simp [List.getD, List.getElem?_eq_getElem hj]
    rw [this]; exact List.getElem_mem hj
  obtain ⟨h2, h3⟩ := List.mem_filter.1 h1
  exact ⟨List.mem_range.1 h2, Option.isSome_iff_exists.1 h3⟩
set_option maxHeartbeats 1000000 in
theorem pageChanges_any (w : World) (pp t q g : Nat) (s : S) (log N Bz M : Nat) (L : Nat → List UInt8) (T : TX) (Dw K KV : Nat → Prop) (bv : Value) (mb ro : Nat) (F : Nat → Option Value) (h : Cm w pp t q g s log N Bz M L T Dw K KV bv mb ro F) :
    Calls Tryz.prog 73 #[.pointer (some ⟨t, 0, none⟩)] w fun e w' => ∃ v, e = .returned v ∧ Told w w' v (pageCh N F T) K := by
  obtain ⟨_, _, c2, _⟩ := txr_cells h.tx.row
  have hn1 := h.dL.n1
  have hb0 := h.dL.b0
  have HK := Lib.hid (keys_call (some mb) w)
  have HS := Lib.hid (sorted_call w mb N F h.tx.map hn1)
  have HCM := Lib.hid h
  have htl := h.lt t h.inK
  obtain ⟨z, hz⟩ : ∃ z, w.heap.size = z := ⟨_, rfl⟩
  have HZ := Lib.hid hz
  obtain ⟨ks, hks⟩ : ∃ ks, keysOf N F = ks := ⟨_, rfl⟩
  have HKS := Lib.hid hks
  have hkl := keysOf_len N F
  have HMEM := Lib.hid (fun j (hj : j < (keysOf N F).length) => keysOf_mem hj)
  rw [hks] at hkl
  rw [hks] at HS HMEM
  obtain ⟨R, hR⟩ : ∃ R : Ending → World → Prop, R = fun e w' => ∃ v, e = .returned v ∧ Told w w' v (pageCh N F T) K := ⟨_, rfl⟩
  rw [← hR]
  have HRR := Lib.hid hR
  clear h hz hks hR
  go_enter Tryz.func73, Tryz.ntmps73
  go_wp2_with fail
  refine HK.out.mono ?_
  rintro e w1 ⟨rfl, rfl⟩
  go_wp2_with fail
  refine HS.out.mono ?_
  rintro e w2 ⟨v2, rfl, hrow, hb2⟩
  obtain ⟨A, c, rfl, hc, hform⟩ := ints_form hrow
  obtain ⟨n, hn⟩ : ∃ n, ks.length = n := ⟨_, rfl⟩
  rw [hn] at hform hkl hc HMEM ⊢
  have HN := Lib.hid hn
  have HF := Lib.hid hform
  have HB2 := Lib.hid hb2
  obtain ⟨z2, hz2⟩ : ∃ z2, w2.heap.size = z2 := ⟨_, rfl⟩
  have HZ2 := Lib.hid hz2
  have hzz : z ≤ z2 := by rw [← hz2, ← HZ.out]; exact hb2.size
  clear hrow hform hb2 hz2 hn
  go_wp2
  go_loopw [13, 3] (fun i v wr => ∃ k : Nat, k ≤ n ∧ i = .int .i64 k ∧ (∃ Ls : List Te, Ls.map teP = (ks.take k).map (fun i : Nat => ((i : Int), T.L i)) ∧ OwnG wr z2 v Ls ∧ ∀ t ∈ Ls, K t.blk) ∧ Below z2 w2 wr) (fun i _ _ => n - (RowKit.intOf i).toNat)
  case atStart => exact ⟨0, Nat.zero_le _, rfl, ⟨[], rfl, OwnG.nil _ _, fun t h => (by cases h)⟩, by rw [← HZ2.out]; exact Below.refl _ _⟩
  case round =>
    obtain ⟨k, hk, rfl, ⟨Ls, hLs, hO, hKs⟩, hbl⟩ := hrel
    have HLS := Lib.hid hLs
    have HO := Lib.hid hO
    have HKs := Lib.hid hKs
    have HBL := Lib.hid hbl
    by_cases hlt : k < n
    · obtain ⟨gk, rfl, hg1, hg2, hcell⟩ := HF.out (by omega)
      have hck := (hbl.cell (p := ⟨gk, k, none⟩) (by rw [← HZ2.out]; exact hg2)).trans (hcell k hlt)
      obtain ⟨pg, hpg⟩ : ∃ pg, ks.getD k 0 = pg := ⟨_, rfl⟩
      rw [hpg] at hck
      obtain ⟨hpN, v, hFv⟩ := HMEM.out k hlt
      rw [hpg] at hpN hFv
      obtain ⟨A, cc, rfl, hrd, hA⟩ := HCM.out.tx.vals pg v hFv
      have hbw : Below w.heap.size w wr := HB2.out.trans (hbl.mono (by rw [← HZ2.out]; exact HB2.out.size))
      have d2 := (hbw.cell (p := ⟨t, 2, none⟩) htl).trans c2
      have hcmr := HCM.out.below hbw
      have hlk := hcmr.tx.map.look false pg (by omega)
      rw [hFv] at hlk
      have hAl := HCM.out.lt A (HCM.out.tx.kv A hA)
      have hte : TeAt wr ⟨pg, A, 0, Bz, cc, T.L pg⟩ := ⟨hrd.keep hbw, by show 0 < Bz; omega, by show pg ≤ 1000000; omega⟩
      have hsz := hbl.size
      have hAz : A < z2 := by rw [← HZ.out] at hzz; omega
      have hszr : z2 ≤ wr.heap.size := by rw [← HZ2.out]; exact hsz
      obtain ⟨X, hX⟩ : ∃ X, wr.alloc (.cells #[.int .i64 (pg : Int), .slice (some ⟨A, 0, none⟩) Bz cc] 169) = X := ⟨_, rfl⟩
      have hlenL : Ls.length ≤ 900000 := by
        have := congrArg List.length hLs
        rw [List.length_map, List.length_map, List.length_take] at this
        omega
      obtain ⟨v', w', hrun, hown, hbel⟩ := hO.one hszr hlenL ⟨pg, A, 0, Bz, cc, T.L pg⟩ ⟨hte, fun e => by have := (hO.block A e).1; omega⟩ X hX
      have HRUN := Lib.hid hrun
      have HOW := Lib.hid hown
      have HBE := Lib.hid hbel
      have HPG := Lib.hid hpg
      have HAK := Lib.hid (HCM.out.tx.kv A hA)
      have hzero := zero83
      obtain ⟨ys, hys⟩ : ∃ ys, wr.heap.size = ys := ⟨_, rfl⟩
      rw [hys] at HRUN
      clear hLs hO hKs hbl hcell hpg hFv hrd hbw hcmr hte hsz hrun hown hbel hszr
      go_wp2_with (at_builtin; refine wpList_run_appT _ rfl (.tmp 17) (.tmp 26) 115 rfl _ _ _ _ rfl rfl HRUN.out ?_)
      go_roundw
      case rel =>
        refine ⟨k + 1, by omega, by go_num, ⟨Ls ++ [⟨pg, A, 0, Bz, cc, T.L pg⟩], ?_, HOW.out, fun t ht => ?_⟩, HBL.out.trans HBE.out⟩
        · have hkl2 : k < ks.length := by rw [HN.out]; exact hlt
          have e : ks[k] = pg := by rw [← HPG.out]; simp [List.getD, List.getElem?_eq_getElem hkl2]
          rw [List.map_append, HLS.out, List.take_succ_eq_append_getElem hkl2, List.map_append, e]
          rfl
        · rcases List.mem_append.1 ht with ht | ht
          · exact HKs.out t ht
          · have e : t = ⟨pg, A, 0, Bz, cc, T.L pg⟩ := by simpa using ht
            subst e
            exact HAK.out
      case measure => simp [RowKit.intOf]; omega
    · have hkM : k = n := by omega
      subst hkM
      clear hLs hO hKs hbl
      go_wp2
      rw [HRR.out]
      refine ⟨_, rfl, Ls, ?_, HO.out.low (by rw [HZ.out]; exact hzz), fun t ht => .inl (HKs.out t ht), HB2.out.trans (HBL.out.mono (by rw [HZ.out]; exact hzz))⟩
      unfold pageCh
      rw [HLS.out, HKS.out, ← HN.out, List.take_length]
end Go.Proofs.YtephmcbofcfpmaaGreat

set_option maxRecDepth 8000
set_option linter.unusedSimpArgs false
set_option linter.unusedVariables false
namespace Go.Proofs.YtephmcbofcfpmaaGreat
open Go.RowKit Go.Bs Go.Dk Rp

theorem app_zero {w : World} {base : Nat} {v : Value} {L : List Te} (h : OwnG w base v L) (A : Option Addr) (c : Nat) : (Builtin.append_ #[115, 115] 115 #[v, .slice A 0 c]).run Tryz.prog w = .ok v w := by
  obtain ⟨i0, hi, hz0, hz1, hz2⟩ := info_parts ch_info
  rcases h.own.2 with ⟨rfl, _⟩ | ⟨g, cap, cur, rfl, _, _, hnc, _⟩
  · cases A <;> simp [Builtin.append_, run_underlying Tryz.underlying115, sizeOf, typeInfo, hi, Builtin.lenOf, Builtin.firstCells, loadCells, loadCellsFrom]
  · cases A <;> simp [Builtin.append_, run_underlying Tryz.underlying115, sizeOf, typeInfo, hi, Builtin.lenOf, Builtin.firstCells, hnc, storeCells, loadCells, loadCellsFrom]
/-- a part's changes are put behind. -/
theorem OwnG.part {w w' : World} {base : Nat} {v v2 : Value} {L : List Te} {l : List Ch} {K : Nat → Prop} (h : OwnG w base v L) (hz : base ≤ w.heap.size) (hK : ∀ k, K k → k < base) (ht : Told w w' v2 l K) (hlen : L.length + l.length ≤ 1000000) :
    ∃ v' w'' L2, (Builtin.append_ #[115, 115] 115 #[v, v2]).run Tryz.prog w' = .ok v' w'' ∧ L2.map teP = l ∧ OwnG w'' base v' (L ++ L2) ∧ (∀ t ∈ L2, K t.blk ∨ base ≤ t.blk) ∧ Below base w w'' := by
  obtain ⟨L2, hL2, hO2, hK2, hb⟩ := ht
  obtain ⟨A, c, e, hc, hform⟩ := hO2.form
  have ho := h.keep hb
  have hll : L2.length = l.length := by rw [← hL2, List.length_map]
  have hsz := hb.size
  rcases Nat.eq_zero_or_pos L2.length with h0 | h0
  · have hnil : L2 = [] := List.eq_nil_of_length_eq_zero h0
    subst hnil
    refine ⟨v, w', [], ?_, hL2, by rw [List.append_nil]; exact ho, fun t ht => (by cases ht), hb.mono hz⟩
    rw [e]
    exact app_zero ho A c
  · obtain ⟨g, rfl, hog, hgl, hcell⟩ := hform h0
    obtain ⟨v', w'', hrun, hown, hbel⟩ := ho.app (by omega) L2 h0 (by omega) g c hcell (fun t ht => ⟨(hO2.at_ t ht).1, fun e => by
      have h1 := h.block t.blk e
      rcases hK2 t ht with h2 | h2
      · have := hK _ h2; omega
      · omega⟩)
    exact ⟨v', w'', L2, by rw [e]; exact hrun, hL2, hown, fun t ht => (hK2 t ht).imp (fun x => x) (fun x => by omega), (hb.mono hz).trans hbel⟩
theorem TxD.off {w : World} {pp t N Bz M : Nat} {L : Nat → List UInt8} {T : TX} {K KV : Nat → Prop} {ld : Bool} {bv : Value} {mb ro : Nat} {F : Nat → Option Value} (h : TxD w pp t N Bz M L T K KV ld bv mb ro F) : TxD w pp t N Bz M L T (fun k => K k ∧ k ≠ pp) KV false bv mb ro F :=
  ⟨h.row, h.map, ⟨h.mK, h.mt.2.1⟩, fun k hk => ⟨h.kv k hk, (h.kvn k hk).2.1⟩, h.kvn, h.mt, h.bits.imp (fun x => ⟨rfl, x.2⟩) (fun ⟨bb, wb, wcap, nb, ncap, e, hb, hn, hne⟩ => ⟨bb, wb, wcap, nb, ncap, e, ⟨hb.row, hb.wasR, hb.nowR, hb.ne, hb.len, hb.n0, ⟨hb.inK.1, (hne bb (.inl rfl)).2.1⟩, ⟨hb.inK.2.1, (hne wb (.inr (.inl rfl))).2.1⟩, ⟨hb.inK.2.2, (hne nb (.inr (.inr rfl))).2.1⟩⟩, hn, hne⟩), h.vals, h.keys, h.same, h.ro1, h.root⟩
def partF (k : Nat) : Nat := if k = 0 then 71 else if k = 1 then 72 else 73
def partL (N M : Nat) (L : Nat → List UInt8) (T : TX) (F : Nat → Option Value) (k : Nat) : List Ch := if k = 0 then mapCh M L T M else if k = 1 then rootCh M T else pageCh N F T
theorem part_any (k : Nat) (w : World) (pp t q g : Nat) (s : S) (log N Bz M : Nat) (L : Nat → List UInt8) (T : TX) (Dw K KV : Nat → Prop) (bv : Value) (mb ro : Nat) (F : Nat → Option Value) (h : Cm w pp t q g s log N Bz M L T Dw K KV bv mb ro F) :
    Calls Tryz.prog (partF k) #[.pointer (some ⟨t, 0, none⟩)] w fun e w' => ∃ v, e = .returned v ∧ Told w w' v (partL N M L T F k) K := by
  unfold partF partL
  by_cases h0 : k = 0
  · rw [if_pos h0, if_pos h0]; exact mapChanges_any w pp t q g s log N Bz M L T Dw K KV bv mb ro F h
  · rw [if_neg h0, if_neg h0]
    by_cases h1 : k = 1
    · rw [if_pos h1, if_pos h1]; exact rootChanges_any w pp t q g s log N Bz M L T Dw K KV bv mb ro F h
    · rw [if_neg h1, if_neg h1]; exact pageChanges_any w pp t q g s log N Bz M L T Dw K KV bv mb ro F h
theorem entp38 (args : Array Value) (W : World) : (callFunc 71 args).run Tryz.prog W = .ok (.enter 71 args) W := by
  have h := Tryz.func71
  simp [callFunc, h, Tryz.f71]
theorem entp39 (args : Array Value) (W : World) : (callFunc 72 args).run Tryz.prog W = .ok (.enter 72 args) W := by
  have h := Tryz.func72
  simp [callFunc, h, Tryz.f72]
theorem entp40 (args : Array Value) (W : World) : (callFunc 73 args).run Tryz.prog W = .ok (.enter 73 args) W := by
  have h := Tryz.func73
  simp [callFunc, h, Tryz.f73]
theorem part_enter (k : Nat) (args : Array Value) (W : World) : (callFunc (partF k) args).run Tryz.prog W = .ok (.enter (partF k) args) W := by
  unfold partF
  split
  · exact entp38 args W
  · split
    · exact entp39 args W
    · exact entp40 args W
def allTo (N M : Nat) (L : Nat → List UInt8) (T : TX) (F : Nat → Option Value) : Nat → List Ch
  | 0 => []
  | k + 1 => allTo N M L T F k ++ partL N M L T F k
theorem partL_len {N Bz M : Nat} {L : Nat → List UInt8} (h : Dm N Bz M L) (T : TX) (F : Nat → Option Value) (k : Nat) : (partL N M L T F k).length ≤ 100000 := by
  have h1 := h.mn
  have h2 := h.n1
  unfold partL
  split
  · exact Nat.le_trans (mapCh_len M L T M) (by omega)
  · split
    · unfold rootCh; split <;> simp
    · unfold pageCh; rw [List.length_map]; exact Nat.le_trans (keysOf_len N F) h2
theorem allTo_len {N Bz M : Nat} {L : Nat → List UInt8} (h : Dm N Bz M L) (T : TX) (F : Nat → Option Value) (k : Nat) : (allTo N M L T F k).length ≤ 100000 * k := by
  induction k with
  | zero => simp [allTo]
  | succ k ih =>
    have := partL_len h T F k
    simp [allTo]
    omega
/-- what a Commit leaves. -/
def PgC (pp t q g : Nat) (s' : S) (log : Nat) (down : Bool) (Dw K : Nat → Prop) (w w' : World) : Prop :=
  ∃ Dw', WalAt w' q g s' log down Dw' ∧ (∀ k, Dw' k → Dw k ∨ w.heap.size ≤ k) ∧ w'.heap[pp]? = some (.cells (pgr q (.pointer none)) 106 (0, 0)) ∧ w'.cell? ⟨t, 0, none⟩ = some (.pointer (some ⟨pp, 0, none⟩)) ∧ (∃ ca, w'.heap[t]? = some (.cells ca 104 (0, 0))) ∧ Fr (fun k => K k ∨ k = q ∨ Dw k) w w'
theorem tCommit_nil (w : World) : Calls Tryz.prog 29 #[.pointer none] w fun e w' => e = .returned (.int .i64 3) ∧ w = w' := by
  have HR := Lib.hid (tready_nil w)
  go_enter Tryz.func29, Tryz.ntmps29
  go_wp2_with fail
  refine HR.out.mono ?_
  rintro e w1 ⟨rfl, rfl⟩
  go_wp2
  go_ret
  exact ⟨rfl, rfl⟩
theorem tCommit_done (w : World) (pp t q g : Nat) (s : S) (log N Bz M : Nat) (L : Nat → List UInt8) (T : TX) (Dw K : Nat → Prop) (ld : Bool) (h : Pg w pp t q g s log N Bz M L T Dw K ld) (hd : T.done = true) :
    Calls Tryz.prog 29 #[.pointer (some ⟨t, 0, none⟩)] w fun e w' => e = .returned (.int .i64 1) ∧ w = w' := by
  have HR := Lib.hid (tready_any w pp t q g s log N Bz M L T Dw K ld h)
  rw [hd] at HR
  clear h
  go_enter Tryz.func29, Tryz.ntmps29
  go_wp2_with fail
  refine HR.out.mono ?_
  rintro e w1 ⟨rfl, rfl⟩
  go_wp2
  go_ret
  exact ⟨rfl, rfl⟩
set_option maxHeartbeats 1000000 in
theorem tCommit_live (w : World) (pp t q g : Nat) (s : S) (log N Bz M : Nat) (L : Nat → List UInt8) (T : TX) (Dw K KV : Nat → Prop) (ld : Bool) (bv : Value) (mb ro : Nat) (F : Nat → Option Value) (h : Pg w pp t q g s log N Bz M L T Dw K ld) (hd : T.done = false) (ht : TxD w pp t N Bz M L T K KV ld bv mb ro F) (hdeeds : s.deeds + 8 * (log + 1) < 900000) :
    Calls Tryz.prog 29 #[.pointer (some ⟨t, 0, none⟩)] w fun e w' => e = .returned (.int .i64 (s.commit log false (allTo N M L T F 3)).2) ∧ PgC pp t q g (s.commit log false (allTo N M L T F 3)).1 log ((s.commit log false (allTo N M L T F 3)).2 == 50) Dw K w w' := by
  have HR := Lib.hid (tready_any w pp t q g s log N Bz M L T Dw K ld h)
  rw [hd] at HR
  have HEN := Lib.hid (tend_at w t pp q _ h.own h.rowP)
  have hppl := (h.KD pp h.inK.1)
  have htl := (h.KD t h.inK.2)
  obtain ⟨W1, hW1⟩ : ∃ W1, w.setCell ⟨pp, 1, none⟩ (.pointer none) = W1 := ⟨_, rfl⟩
  have hs1 : W1.heap.size = w.heap.size := by rw [← hW1]; exact sc_size _ _ _
  have hoth : ∀ k : Nat, k ≠ pp → W1.heap[k]? = w.heap[k]? := fun k hk => by rw [← hW1]; exact sc_other _ _ _ _ _ hk
  have hrow1 : W1.heap[pp]? = some (.cells (pgr q (.pointer none)) 106 (0, 0)) := by rw [← hW1]; exact pgr_set h.rowP _
  have hcm : Cm W1 pp t q g s log N Bz M L T Dw (fun k => K k ∧ k ≠ pp) KV bv mb ro F := by
    refine ⟨h.wal.keepF (by omega) (fun k hk => hoth k fun e => ?_), h.hN, h.hB, h.hM, ⟨_, hrow1⟩, ht.off.keep ⟨h.inK.2, ht.mt.2.2⟩ (by omega) (fun k hk => hoth k hk.2) (fun _ x => x), h.dL, h.dT, ⟨h.inK.2, ht.mt.2.2⟩, fun k hk => by have := (h.KD k hk.1).2.2; omega⟩
    subst e
    rcases hk with hk | hk
    · exact hppl.1 hk
    · exact hppl.2.1 hk
  have hfr1 : Fr (fun k => K k ∨ k = q ∨ Dw k) w W1 := by rw [← hW1]; exact (Fr.refl _ _).setCell (.inl (.inl h.inK.1)) _
  rw [hW1] at HEN
  obtain ⟨W2, hW2⟩ : ∃ W2, W1.alloc (.cells #[.func (.func 71) #[.pointer (some ⟨t, 0, none⟩)] #[], .func (.func 72) #[.pointer (some ⟨t, 0, none⟩)] #[], .func (.func 73) #[.pointer (some ⟨t, 0, none⟩)] #[]] 116) = W2 := ⟨_, rfl⟩
  obtain ⟨z, hz⟩ : ∃ z, W1.heap.size = z := ⟨_, rfl⟩
  have hb2 : Below z W1 W2 := by rw [← hW2, ← hz]; exact (Below.refl _ _).alloc (Nat.le_refl _) _
  have hs2 : W2.heap.size = z + 1 := by rw [← hW2, ← hz]; simp
  have hfn : ∀ j, j < 3 → W2.cell? ⟨z, j, none⟩ = some (.func (.func (partF j)) #[.pointer (some ⟨t, 0, none⟩)] #[]) := fun j hj => by
    have hr : W2.heap[z]? = some (.cells #[.func (.func 71) #[.pointer (some ⟨t, 0, none⟩)] #[], .func (.func 72) #[.pointer (some ⟨t, 0, none⟩)] #[], .func (.func 73) #[.pointer (some ⟨t, 0, none⟩)] #[]] 116 (0, 0)) := by rw [← hW2, ← hz]; exact heap_alloc_new W1 _
    rw [cell_of_row W2 z j _ 116 (0, 0) hr]
    have : j = 0 ∨ j = 1 ∨ j = 2 := by omega
    rcases this with rfl | rfl | rfl <;> rfl
  have hcm2 := hcm.below (w' := W2) (by rw [hz]; exact hb2)
  have HCM := Lib.hid hcm2
  have HFN := Lib.hid hfn
  have HFR1 := Lib.hid hfr1
  have HB2 := Lib.hid hb2
  have HP := Lib.hid h
  have HROW := Lib.hid hrow1
  have HOTH := Lib.hid hoth
  have HS2 := Lib.hid hs2
  have HS1 := Lib.hid hs1
  have HZ := Lib.hid hz
  have HDL := Lib.hid h.dL
  have HDD := Lib.hid hdeeds
  obtain ⟨l, hl⟩ : ∃ l, allTo N M L T F 3 = l := ⟨_, rfl⟩
  rw [hl]
  have HL := Lib.hid hl
  obtain ⟨z3, hz3⟩ : ∃ z3, z + 1 = z3 := ⟨_, rfl⟩
  have HZ3 := Lib.hid hz3
  obtain ⟨R, hR⟩ : ∃ R : Ending → World → Prop, R = fun e w' => e = .returned (.int .i64 (s.commit log false l).2) ∧ PgC pp t q g (s.commit log false l).1 log ((s.commit log false l).2 == 50) Dw K w w' := ⟨_, rfl⟩
  rw [← hR]
  have HRR := Lib.hid hR
  clear h ht hcm hcm2 hfn hfr1 hb2 hs2 hoth hrow1 hs1 hdeeds hl hz3 hR hppl htl
  go_enter Tryz.func29, Tryz.ntmps29
  go_wp2_with fail
  refine HR.out.mono ?_
  rintro e w1 ⟨rfl, rfl⟩
  go_wp2_with fail
  refine HEN.out.mono ?_
  rintro e w1 ⟨⟨ev, rfl⟩, rfl⟩
  go_wp2
  go_loopw [22, 4] (fun i v wr => ∃ k : Nat, k ≤ 3 ∧ i = .int .i64 k ∧ (∃ Ls : List Te, Ls.map teP = allTo N M L T F k ∧ OwnG wr z3 v Ls ∧ ∀ t ∈ Ls, (K t.blk ∧ t.blk ≠ pp) ∨ z3 ≤ t.blk) ∧ Below z3 W2 wr) (fun i _ _ => 3 - (RowKit.intOf i).toNat)
  case atStart => exact ⟨0, Nat.zero_le _, rfl, ⟨[], rfl, OwnG.nil _ _, fun t h => (by cases h)⟩, by rw [← HZ3.out, ← HS2.out]; exact Below.refl _ _⟩
  case round =>
    obtain ⟨k, hk, rfl, ⟨Ls, hLs, hO, hKs⟩, hbl⟩ := hrel
    have HLS := Lib.hid hLs
    have HO := Lib.hid hO
    have HKs := Lib.hid hKs
    have HBL := Lib.hid hbl
    have hz32 : z3 = W2.heap.size := by rw [HS2.out]; exact HZ3.out.symm
    by_cases hlt : k < 3
    · have hc := (hbl.cell (p := ⟨z, k, none⟩) (by show z < z3; have := HZ3.out; omega)).trans (HFN.out k hlt)
      have hcmr := HCM.out.below (w' := wr) (by rw [← hz32]; exact hbl)
      have HPA := Lib.hid (part_any k wr pp t q g s log N Bz M L T Dw _ KV bv mb ro F hcmr)
      have hent := part_enter k
      have hlen : Ls.length + (partL N M L T F k).length ≤ 1000000 := by
        have h1 := congrArg List.length hLs
        rw [List.length_map] at h1
        have h2 := allTo_len HDL.out T F k
        have h3 := partL_len HDL.out T F k
        omega
      have hzr : z3 ≤ wr.heap.size := by rw [hz32]; exact hbl.size
      have HPT := Lib.hid (fun (w' : World) (v2 : Value) (ht : Told wr w' v2 (partL N M L T F k) (fun k => K k ∧ k ≠ pp)) => hO.part hzr (fun j hj => by have := HCM.out.lt j hj; omega) ht hlen)
      obtain ⟨fk, hfk⟩ : ∃ fk, partF k = fk := ⟨_, rfl⟩
      rw [hfk] at hc hent HPA
      clear hLs hO hKs hbl hcmr hlen hfk hz32
      go_wp2_with fail
      refine HPA.out.mono ?_
      rintro e w2 ⟨v2, rfl, htold⟩
      obtain ⟨v', w'', L2, hrun, hL2, hown, hk2, hbel⟩ := HPT.out w2 v2 htold
      have HRUN := Lib.hid hrun
      have HL2 := Lib.hid hL2
      have HOW := Lib.hid hown
      have HK2 := Lib.hid hk2
      have HBE := Lib.hid hbel
      clear hrun hL2 hown hk2 hbel htold
      go_wp2_with (at_builtin; refine wpList_run_appT _ rfl (.tmp 26) (.tmp 28) 115 rfl _ _ _ _ rfl rfl HRUN.out ?_)
      go_roundw
      case rel =>
        refine ⟨k + 1, by omega, by go_num, ⟨Ls ++ L2, ?_, HOW.out, fun t ht => ?_⟩, HBL.out.trans HBE.out⟩
        · rw [List.map_append, HLS.out, HL2.out]; rfl
        · rcases List.mem_append.1 ht with ht | ht
          · exact HKs.out t ht
          · exact HK2.out t ht
      case measure => simp [RowKit.intOf]; omega
    · have hkM : k = 3 := by omega
      subst hkM
      have hcmr := HCM.out.below (w' := wr) (by rw [← hz32]; exact hbl)
      obtain ⟨A, c, rfl, hchs⟩ := hO.chs
      rw [hLs, HL.out] at hchs
      have hfine : s.Fine := by unfold S.Fine; rw [HP.out.cc]; exact Nat.zero_le _
      have hll : Ls.length ≤ 1000000 := by
        have h1 := congrArg List.length hLs
        rw [List.length_map] at h1
        have h2 := allTo_len HDL.out T F 3
        omega
      have hDz : ∀ k, Dw k → k < z := fun k hd => by rw [← HZ.out, HS1.out]; exact HP.out.wal.disk.lt k hd
      have HCO := Lib.hid (Commit_any wr q g s log false Dw hcmr.wal hfine A Ls.length c l _ hchs (fun k hk hd => by
        have h1 := hDz k hd
        have h3 := HZ3.out
        rcases hk.1 with e | ⟨t', ht', e⟩
        · have := (hO.block k e).1; omega
        · rcases hKs t' ht' with h2 | h2
          · rw [e] at h2; exact (HP.out.KD k h2.1).1 hd
          · omega) hll HDD.out)
      obtain ⟨now, hp⟩ := hcmr.rowP
      obtain ⟨e0, _, _⟩ := pgr_cells hp
      have d0 := (txr_cells hcmr.tx.row).1
      have HCR := Lib.hid hcmr
      have HPL : Hid (pp < z) := by show pp < z; rw [← HZ.out, HS1.out]; exact (HP.out.KD pp HP.out.inK.1).2.2
      have HTL : Hid (t < z) := by show t < z; rw [← HZ.out, HS1.out]; exact (HP.out.KD t HP.out.inK.2).2.2
      clear hLs hO hKs hbl hcmr hchs hfine hll hDz hp hz32
      go_wp2_with fail
      refine HCO.out.mono ?_
      rintro e w3 ⟨rfl, D', hw3, hD3, hf3⟩
      have HW3 := Lib.hid hw3
      have HD3 := Lib.hid hD3
      have HF3 := Lib.hid hf3
      clear hw3 hD3 hf3
      go_wp2
      rw [HRR.out]
      have hb3 : Below z w1 wr := HB2.out.trans (HBL.out.mono (by have := HZ3.out; omega))
      have hfw : Fr (fun k => K k ∨ k = q ∨ Dw k) w1 wr := Fr.of (by rw [HZ.out]; exact hb3)
      have hpl := HPL.out
      have htl := HTL.out
      have hzw : z ≤ wr.heap.size := by rw [← HZ.out]; exact Nat.le_trans (by rw [HZ.out]; exact Nat.le_refl _) (by have := hb3.size; omega)
      refine ⟨rfl, D', HW3.out, fun k hk => ?_, ?_, ?_, ?_, ?_⟩
      · rcases HD3.out k hk with h1 | h1
        · exact .inl h1
        · exact .inr (by rw [← HS1.out, HZ.out]; omega)
      · refine (HF3.out.block pp (by omega) (fun hk => ?_)).trans ((hb3.block pp hpl).trans HROW.out)
        rcases hk with hk | hk
        · exact (HP.out.KD pp HP.out.inK.1).1 hk
        · exact (HP.out.KD pp HP.out.inK.1).2.1 hk
      · refine (World.cell?_of_block (a := ⟨t, 0, none⟩) ((HF3.out.block t (by omega) (fun hk => ?_)))).trans d0
        rcases hk with hk | hk
        · exact (HP.out.KD t HP.out.inK.2).1 hk
        · exact (HP.out.KD t HP.out.inK.2).2.1 hk
      · refine ⟨_, (HF3.out.block t (by omega) (fun hk => ?_)).trans HCR.out.tx.row⟩
        rcases hk with hk | hk
        · exact (HP.out.KD t HP.out.inK.2).1 hk
        · exact (HP.out.KD t HP.out.inK.2).2.1 hk
      · exact (HFR1.out.trans hfw).step HF3.out (fun k hk => .inl (by
          rcases hk with hk | hk
          · exact .inr (.inr hk)
          · exact .inr (.inl hk)))
end Go.Proofs.YtephmcbofcfpmaaGreat

