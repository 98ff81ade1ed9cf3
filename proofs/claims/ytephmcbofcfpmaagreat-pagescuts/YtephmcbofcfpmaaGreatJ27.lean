/- The changes of the map's blocks. Conditions: none. The change of the root's block. Conditions: none. -/
import Derived.Test.YtephmcbofcfpmaaGreatJ26
set_option maxRecDepth 8000
set_option linter.unusedSimpArgs false
set_option linter.unusedVariables false
namespace Go.Proofs.YtephmcbofcfpmaaGreat
open Go.RowKit Go.Bs Go.Dk Rp

/-- a transaction whose changes are told. -/
structure Cm (w : World) (pp t q g : Nat) (s : S) (log N Bz M : Nat) (L : Nat → List UInt8) (T : TX) (Dw K KV : Nat → Prop) (bv : Value) (mb ro : Nat) (F : Nat → Option Value) : Prop where
  wal : WalAt w q g s log false Dw
  hN : nbl s log = N
  hB : s.bytes = Bz
  hM : mapN N Bz = M
  rowP : ∃ now, w.heap[pp]? = some (.cells (pgr q now) 106 (0, 0))
  tx : TxD w pp t N Bz M L T K KV false bv mb ro F
  dL : Dm N Bz M L
  dT : Dm N Bz M T.L
  inK : K t
  lt : ∀ k, K k → k < w.heap.size
theorem Cm.below {w w' : World} {pp t q g : Nat} {s : S} {log N Bz M : Nat} {L : Nat → List UInt8} {T : TX} {Dw K KV : Nat → Prop} {bv : Value} {mb ro : Nat} {F : Nat → Option Value} (h : Cm w pp t q g s log N Bz M L T Dw K KV bv mb ro F) (hb : Below w.heap.size w w') : Cm w' pp t q g s log N Bz M L T Dw K KV bv mb ro F := by
  obtain ⟨now, hp⟩ := h.rowP
  exact ⟨h.wal.below hb, h.hN, h.hB, h.hM, ⟨now, (hb.block pp (Array.getElem?_eq_some_iff.1 hp).1).trans hp⟩, h.tx.keep h.inK hb.size (fun k hk => hb.block k (h.lt k hk)) (fun _ x => x), h.dL, h.dT, h.inK, fun k hk => Nat.lt_of_lt_of_le (h.lt k hk) hb.size⟩
theorem Equal_any (w : World) (A B : Option Addr) (n c m d : Nat) (xs ys : List UInt8) (h1 : Rd w A n c xs) (h2 : Rd w B m d ys) :
    Calls Tryz.prog 109 #[.slice A n c, .slice B m d] w fun e w' => e = .returned (.bool (decide (xs = ys))) ∧ w = w' := by
  have e1 := string_rd w A n c xs h1
  have e2 := string_rd w B m d ys h2
  clear h1 h2
  by_cases h : xs = ys
  · subst h
    go_enter Tryz.func109, Tryz.ntmps109
    go_wp2
    go_ret
    exact ⟨by simp, rfl⟩
  · go_enter Tryz.func109, Tryz.ntmps109
    go_wp2
    go_ret
    refine ⟨?_, rfl⟩
    have h3 : decide (xs = ys) = false := by simp [h]
    rw [h3]
    show Ending.returned (.bool (xs == ys)) = _
    have h4 : (xs == ys) = false := by simp [h]
    rw [h4]
/-- a part of a row. -/
theorem slice_mid (g n c l h : Nat) (h1 : l ≤ h) (h2 : h ≤ c) (h3 : l < c) (w : World) : (Instr.slice 39 (.slice (some ⟨g, 0, none⟩) n c) (some (.int .i64 (l : Int))) (some (.int .i64 (h : Int))) none).run Tryz.prog w = .ok (.slice (some ⟨g, l, none⟩) (h - l) (c - l)) w := by
  rw [run_slice_lh (P := Tryz.prog) w 39 _ n c (by rw [elem24]; exact Tryz.underlying39) .i64 .i64 (l : Int) (h : Int) (by omega) (by omega) (by omega), elem24, size5, Result.andThen_ok]
  have e : ¬ c = l := by omega
  simp [sliced, e, addr_add]
def mapCh (M : Nat) (L : Nat → List UInt8) (T : TX) (k : Nat) : List Ch := ((List.range k).filter (chg1 M L T)).map fun i : Nat => ((i : Int), T.L i)
theorem mapCh_succ (M : Nat) (L : Nat → List UInt8) (T : TX) (k : Nat) : mapCh M L T (k + 1) = mapCh M L T k ++ (if chg1 M L T k then [((k : Int), T.L k)] else []) := by
  unfold mapCh
  rw [List.range_succ, List.filter_append, List.map_append]
  by_cases h : chg1 M L T k = true
  · simp [h]
  · simp [h]
theorem mapCh_len (M : Nat) (L : Nat → List UInt8) (T : TX) (k : Nat) : (mapCh M L T k).length ≤ k := by
  unfold mapCh
  rw [List.length_map]
  exact Nat.le_trans (List.length_filter_le _ _) (by simp)
theorem zero83 (w : World) : (zeroValue 169).run Tryz.prog w = .ok (.agg #[.int .i64 0, .slice none 0 0]) w := by kernel_rfl
/-- what telling changes leaves. -/
def Told (w w' : World) (v : Value) (l : List Ch) (K : Nat → Prop) : Prop := ∃ Ls : List Te, Ls.map teP = l ∧ OwnG w' w.heap.size v Ls ∧ (∀ t ∈ Ls, K t.blk ∨ w.heap.size ≤ t.blk) ∧ Below w.heap.size w w'
set_option maxHeartbeats 1000000 in
theorem mapChanges_any (w : World) (pp t q g : Nat) (s : S) (log N Bz M : Nat) (L : Nat → List UInt8) (T : TX) (Dw K KV : Nat → Prop) (bv : Value) (mb ro : Nat) (F : Nat → Option Value) (h : Cm w pp t q g s log N Bz M L T Dw K KV bv mb ro F) :
    Calls Tryz.prog 71 #[.pointer (some ⟨t, 0, none⟩)] w fun e w' => ∃ v, e = .returned v ∧ Told w w' v (mapCh M L T M) K := by
  obtain ⟨now, hp⟩ := h.rowP
  obtain ⟨c0, c1, _⟩ := txr_cells h.tx.row
  have hmn := h.dL.mn
  have hn1 := h.dL.n1
  have hb1 := h.dL.b1
  have hb0 := h.dL.b0
  rcases h.tx.bits with ⟨_, rfl, hTL⟩ | ⟨bb, wb, wcap, nb, ncap, rfl, hba, hkv, hne⟩
  · have HE : Hid (mapCh M L T M = []) := by
      show mapCh M L T M = []
      unfold mapCh
      rw [List.filter_eq_nil_iff.2 ?_]
      · rfl
      · intro i hi
        have := List.mem_range.1 hi
        unfold chg1
        simp [hTL i this]
    clear h hp hTL
    go_enter Tryz.func71, Tryz.ntmps71
    go_wp2
    go_ret
    exact ⟨_, rfl, [], HE.out.symm, OwnG.nil _ _, fun t h => (by cases h), Below.refl _ _⟩
  · have HCM := Lib.hid h
    have HBY := Lib.hid (tBytes_at w pp t q g now s log Bz Dw c0 hp h.wal h.hB)
    have HRB := Lib.hid (fun k => rootBlock_any (w.drewN k) pp q g now s log false Dw hp (h.wal.drewN k))
    rw [h.hN, h.hB, h.hM] at HRB
    have hlL : ∀ k, k < M → (L k).length = Bz := fun k hk => h.dL.len k (by omega)
    have hlT : ∀ k, k < M → (T.L k).length = Bz := fun k hk => h.dT.len k (by omega)
    have hMB : M * Bz ≤ 10000000000 := Nat.mul_le_mul (Nat.le_trans (by omega) hn1) hb1
    have HBA := Lib.hid hba
    have HTB := Lib.hid (show ∀ k, K k → k < w.heap.size from h.lt)
    obtain ⟨z, hz⟩ : ∃ z, w.heap.size = z := ⟨_, rfl⟩
    have HZ := Lib.hid hz
    have HLL := Lib.hid hlL
    have HLT := Lib.hid hlT
    have hbr := (br_cells hba.row)
    have b0 := hbr.1
    have b1 := hbr.2.1
    have hcw := hba.rdw.cap
    have hcn := hba.rd.cap
    obtain ⟨mz, hmz⟩ : ∃ mz, M * Bz = mz := ⟨_, rfl⟩
    rw [hmz] at b0 b1 hcw hcn hMB
    have HMZ := Lib.hid hmz
    have HNE := Lib.hid hne
    have htl := h.lt t h.inK
    obtain ⟨R, hR⟩ : ∃ R : Ending → World → Prop, R = fun e w' => ∃ v, e = .returned v ∧ Told w w' v (mapCh M L T M) K := ⟨_, rfl⟩
    rw [← hR]
    have HRR := Lib.hid hR
    clear h hp hba hkv hne hlL hlT hbr hz hmz hR
    go_enter Tryz.func71, Tryz.ntmps71
    go_wp2_with fail
    refine HBY.out.mono ?_
    rintro e w1 ⟨rfl, k1, rfl⟩
    go_wp2_with fail
    refine (HRB.out k1).mono ?_
    rintro e w1 ⟨rfl, k2, rfl⟩
    rw [World.drewN_drewN]
    go_wp2
    go_loopw [20, 3] (fun i v wr => ∃ k : Nat, k ≤ M ∧ i = .int .i64 k ∧ (∃ Ls : List Te, Ls.map teP = mapCh M L T k ∧ OwnG wr z v Ls ∧ ∀ t ∈ Ls, K t.blk) ∧ Below z w wr) (fun i _ _ => M - (RowKit.intOf i).toNat)
    case atStart => exact ⟨0, Nat.zero_le _, rfl, ⟨[], rfl, OwnG.nil _ _, fun t h => (by cases h)⟩, by rw [← HZ.out]; exact below_drewN (Below.refl _ _) _⟩
    case round =>
      obtain ⟨k, hk, rfl, ⟨Ls, hLs, hO, hKs⟩, hbl⟩ := hrel
      by_cases hlt : k < M
      · have hzw : z ≤ wr.heap.size := by rw [← HZ.out]; exact hbl.size
        have d0 := (hbl.cell (p := ⟨t, 0, none⟩) (by rw [← HZ.out]; exact htl)).trans c0
        have d1 := (hbl.cell (p := ⟨t, 1, none⟩) (by rw [← HZ.out]; exact htl)).trans c1
        have hbbl : bb < z := by rw [← HZ.out]; exact HTB.out bb HBA.out.inK.1
        have g0 := (hbl.cell (p := ⟨bb, 0, none⟩) hbbl).trans b0
        have g1 := (hbl.cell (p := ⟨bb, 1, none⟩) hbbl).trans b1
        have hba := HBA.out.keep (w' := wr) (K' := K) (fun k hk => hbl.block k (by rw [← HZ.out]; exact HTB.out k hk)) (fun _ x => x)
        obtain ⟨f, hf⟩ : ∃ f, k * Bz = f := ⟨_, rfl⟩
        obtain ⟨e1, he1⟩ : ∃ e1, (k + 1) * Bz = e1 := ⟨_, rfl⟩
        have hfe : e1 = f + Bz := by rw [← he1, ← hf, Nat.succ_mul]
        have hem : e1 ≤ mz := by rw [← he1, ← HMZ.out]; exact Nat.mul_le_mul_right _ hlt
        have hw1 : IntKind.i64.wrap ((k : Int) * (Bz : Int)) = (f : Int) := by rw [← Int.natCast_mul, hf]; exact IntWalk.i64_in _ (by omega)
        have hw2 : IntKind.i64.wrap (((k : Int) + 1) * (Bz : Int)) = (e1 : Int) := by rw [show ((k : Int) + 1) = ((k + 1 : Nat) : Int) by omega, ← Int.natCast_mul, he1]; exact IntWalk.i64_in _ (by omega)
        have hs1 := fun W => slice_mid nb mz ncap f e1 (by omega) (by omega) (by omega) W
        have hs0 := fun W => slice_mid wb mz wcap f e1 (by omega) (by omega) (by omega) W
        rw [show e1 - f = Bz by omega] at hs1 hs0
        have hr1 : Rd wr (some ⟨nb, f, none⟩) Bz (ncap - f) (T.L k) := by
          have := hba.rd.part f Bz (ncap - f) (by rw [HMZ.out]; omega) (by omega)
          rw [← hf, cat_part HLT.out k hlt, Nat.zero_add, hf] at this
          exact this
        have hr0 : Rd wr (some ⟨wb, f, none⟩) Bz (wcap - f) (L k) := by
          have := hba.rdw.part f Bz (wcap - f) (by rw [HMZ.out]; omega) (by omega)
          rw [← hf, cat_part HLL.out k hlt, Nat.zero_add, hf] at this
          exact this
        obtain ⟨C1, hC1⟩ : ∃ C1, ncap - f = C1 := ⟨_, rfl⟩
        obtain ⟨C0, hC0⟩ : ∃ C0, wcap - f = C0 := ⟨_, rfl⟩
        rw [hC1] at hs1 hr1
        rw [hC0] at hs0 hr0
        have HEQ := Lib.hid (fun m => (Equal_any (wr.drewN m) _ _ Bz C1 Bz C0 _ _ (hr1.drewN m) (hr0.drewN m)).mono (fun e w' (h : e = .returned (.bool (decide (T.L k = L k))) ∧ wr.drewN m = w') => (⟨h.1, m, h.2.symm⟩ : e = .returned (.bool (decide (T.L k = L k))) ∧ ∃ j, w' = wr.drewN j)))
        have hsu := mapCh_succ M L T k
        have HLS := Lib.hid hLs
        have HO := Lib.hid hO
        have HKS := Lib.hid hKs
        have HBL := Lib.hid hbl
        have HR1 := Lib.hid hr1
        have HKN := Lib.hid hba.inK.2.2
        have hnbl : nb < z := by rw [← HZ.out]; exact HTB.out nb HBA.out.inK.2.2
        by_cases heq : T.L k = L k
        · have hch : chg1 M L T k = false := by unfold chg1; simp [heq]
          rw [hch, if_neg (by simp), List.append_nil] at hsu
          have hde : decide (T.L k = L k) = true := by simp [heq]
          rw [hde] at HEQ
          have HSU := Lib.hid hsu
          clear hba hLs hO hKs hbl hr1 hr0 hsu heq hch hde hC1 hC0 hf he1 hfe hem
          go_wp2_with fail
          go_quiet (exact HEQ.out _)
          go_wp2
          go_roundw
          case rel => exact ⟨k + 1, by omega, by go_num, ⟨Ls, by rw [HSU.out]; exact HLS.out, HO.out.keep (below_drewN (Below.refl _ _) _), HKS.out⟩, HBL.out.trans ((below_drewN (Below.refl _ _) _).mono (by have := HBL.out.size; omega))⟩
          case measure => simp [RowKit.intOf]; omega
        · have hch : chg1 M L T k = true := by unfold chg1; simp [heq, hlt]
          rw [hch, if_pos rfl] at hsu
          have hde : decide (T.L k = L k) = false := by simp [heq]
          rw [hde] at HEQ
          have HSU := Lib.hid hsu
          have HLEN : Hid (Ls.length ≤ 100000) := by
            show Ls.length ≤ 100000
            have h1 := congrArg List.length hLs
            rw [List.length_map] at h1
            have h2 := mapCh_len M L T k
            omega
          clear hba hLs hO hKs hbl hr1 hr0 hsu heq hch hde hC1 hC0 hf he1 hfe hem
          go_wp2_with fail
          go_quiet (exact HEQ.out _)
          obtain ⟨Y, hY⟩ : ∃ Y, wr.drewN nq = Y := ⟨_, rfl⟩
          have hbY : Below wr.heap.size wr Y := by rw [← hY]; exact below_drewN (Below.refl _ _) _
          have hYs : Y.heap.size = wr.heap.size := by rw [← hY]; rfl
          have d1' : Y.cell? ⟨t, 1, none⟩ = some (.pointer (some ⟨bb, 0, none⟩)) := by rw [← hY]; exact d1
          have g1' : Y.cell? ⟨bb, 1, none⟩ = some (.slice (some ⟨nb, 0, none⟩) mz ncap) := by rw [← hY]; exact g1
          rw [hY]
          obtain ⟨X, hX⟩ : ∃ X, Y.alloc (.cells #[.int .i64 (k : Int), .slice (some ⟨nb, f, none⟩) Bz C1] 169) = X := ⟨_, rfl⟩
          have hte : TeAt Y ⟨k, nb, f, Bz, C1, T.L k⟩ := ⟨by rw [← hY]; exact HR1.out.drewN _, by show 0 < Bz; omega, by show k ≤ 1000000; omega⟩
          have hoY := HO.out.keep hbY
          obtain ⟨v', w', hrun, hown, hbel⟩ := hoY.one (by omega) (by have := HLEN.out; omega) ⟨k, nb, f, Bz, C1, T.L k⟩ ⟨hte, fun e => by have := (hoY.block nb e).1; omega⟩ X hX
          have hzero := zero83
          have HOW := Lib.hid hown
          have HBE := Lib.hid hbel
          have HBY2 := Lib.hid hbY
          rw [hYs] at hrun
          have HRUN := Lib.hid hrun
          clear hrun hown hbel hte hoY hbY hY
          go_wp2_with (at_builtin; refine wpList_run_appT _ rfl (.tmp 52) (.tmp 65) 115 rfl _ _ _ _ rfl rfl HRUN.out ?_)
          go_roundw
          case rel => exact ⟨k + 1, by omega, by go_num, ⟨Ls ++ [⟨k, nb, f, Bz, C1, T.L k⟩], by rw [HSU.out, List.map_append, HLS.out]; rfl, HOW.out, fun t ht => by
            rcases List.mem_append.1 ht with ht | ht
            · exact HKS.out t ht
            · have e : t = ⟨k, nb, f, Bz, C1, T.L k⟩ := by simpa using ht
              subst e
              exact HKN.out⟩, HBL.out.trans ((HBY2.out.mono (by have := HBL.out.size; omega)).trans HBE.out)⟩
          case measure => simp [RowKit.intOf]; omega
      · have hkM : k = M := by omega
        subst hkM
        have HLS := Lib.hid hLs
        have HO := Lib.hid hO
        have HKS := Lib.hid hKs
        have HBL := Lib.hid hbl
        clear hLs hO hKs hbl
        go_wp2
        rw [HRR.out]
        exact ⟨_, rfl, Ls, HLS.out, by rw [HZ.out]; exact HO.out, fun t ht => .inl (HKS.out t ht), by rw [HZ.out]; exact HBL.out⟩
end Go.Proofs.YtephmcbofcfpmaaGreat

set_option maxRecDepth 8000
set_option linter.unusedSimpArgs false
set_option linter.unusedVariables false
namespace Go.Proofs.YtephmcbofcfpmaaGreat
open Go.RowKit Go.Bs Go.Dk Rp

def rootCh (M : Nat) (T : TX) : List Ch := if T.root then [((M : Int), T.L M)] else []
set_option maxHeartbeats 1000000 in
theorem rootChanges_any (w : World) (pp t q g : Nat) (s : S) (log N Bz M : Nat) (L : Nat → List UInt8) (T : TX) (Dw K KV : Nat → Prop) (bv : Value) (mb ro : Nat) (F : Nat → Option Value) (h : Cm w pp t q g s log N Bz M L T Dw K KV bv mb ro F) :
    Calls Tryz.prog 72 #[.pointer (some ⟨t, 0, none⟩)] w fun e w' => ∃ v, e = .returned v ∧ Told w w' v (rootCh M T) K := by
  obtain ⟨now, hp⟩ := h.rowP
  obtain ⟨c0, _, _, c3, c4, _⟩ := txr_cells h.tx.row
  have hmn := h.dL.mn
  have hn1 := h.dL.n1
  have hb1 := h.dL.b1
  have hb0 := h.dL.b0
  unfold rootCh
  cases hroot : T.root
  · rw [hroot] at c3
    clear h hp
    go_enter Tryz.func72, Tryz.ntmps72
    go_wp2
    go_ret
    exact ⟨_, rfl, [], rfl, OwnG.nil _ _, fun t h => (by cases h), Below.refl _ _⟩
  · rw [hroot] at c3
    have hro1 := h.tx.ro1
    have hTM : T.L M = encR Bz ro := by
      rcases h.tx.root with ⟨_, e⟩ | ⟨e, _⟩
      · exact e
      · rw [e] at hroot; cases hroot
    have HBY := Lib.hid (tBytes_at w pp t q g now s log Bz Dw c0 hp h.wal h.hB)
    have HCM := Lib.hid h
    have HP := Lib.hid hp
    have HTM := Lib.hid hTM
    have htl := h.lt t h.inK
    have x0 : Value.int .u8 ((ro : Int) % 256) = B (byteAt ro 0) := bv0 ro _ rfl
    clear h hp hTM
    simp only [if_true]
    go_enter Tryz.func72, Tryz.ntmps72
    go_wp2_with fail
    refine HBY.out.mono ?_
    rintro e w1 ⟨rfl, k1, rfl⟩
    obtain ⟨W0, hW0⟩ : ∃ W0, w.drewN k1 = W0 := ⟨_, rfl⟩
    have hmk := make_zeros Bz (by omega) W0
    have hs0 : W0.heap.size = w.heap.size := by rw [← hW0]; rfl
    obtain ⟨z, hz⟩ : ∃ z, w.heap.size = z := ⟨_, rfl⟩
    rw [hs0, hz] at hmk
    obtain ⟨W1, hW1⟩ : ∃ W1, W0.alloc (rowObj 5 (zeros Bz)) = W1 := ⟨_, rfl⟩
    rw [hW1] at hmk
    have hbl : Blk W1 z 5 (zeros Bz) := by rw [← hW1, ← hz, ← hs0]; exact Blk.new W0 5 (zeros Bz)
    have hB01 : Below z w W1 := by rw [← hW1, ← hW0, ← hz]; exact (below_drewN (Below.refl _ _) k1).alloc (Nat.le_refl _) _
    have e4 : W1.cell? ⟨t, 4, none⟩ = some (.int .i64 (ro : Int)) := (hB01.cell (p := ⟨t, 4, none⟩) (by rw [← hz]; exact htl)).trans c4
    rw [hW0]
    have HBL := Lib.hid hbl
    have HB01 := Lib.hid hB01
    obtain ⟨x0, hx0⟩ : ∃ x, byteAt ro 0 = x := ⟨_, rfl⟩
    obtain ⟨x1, hx1⟩ : ∃ x, byteAt ro 1 = x := ⟨_, rfl⟩
    obtain ⟨x2, hx2⟩ : ∃ x, byteAt ro 2 = x := ⟨_, rfl⟩
    obtain ⟨x3, hx3⟩ : ∃ x, byteAt ro 3 = x := ⟨_, rfl⟩
    have y0 : IntKind.u8.wrap (ro : Int) = (x0.toNat : Int) := by rw [IntKind.wrap_u8, ← hx0, byteAt_toNat]; simp
    have y1 : IntKind.u8.wrap ((ro : Int) / 256) = (x1.toNat : Int) := by rw [IntKind.wrap_u8, ← hx1, byteAt_toNat]; simp
    have y2 : IntKind.u8.wrap ((ro : Int) / 65536) = (x2.toNat : Int) := by rw [IntKind.wrap_u8, ← hx2, byteAt_toNat]; simp
    have y3 : IntKind.u8.wrap ((ro : Int) / 16777216) = (x3.toNat : Int) := by rw [IntKind.wrap_u8, ← hx3, byteAt_toNat]; simp
    have hb0' : Blk W1.drew z 5 (zeros Bz) := hbl
    have hb1' := hb0'.set 0 x0
    have hb2' := hb1'.set 1 x1
    have hb3' := hb2'.set 2 x2
    have hb4' := hb3'.set 3 x3
    have hlz : (zeros Bz).length = Bz := zeros_length _
    have q0 := hbl.cell 0 (by omega)
    have q1 := hbl.cell 1 (by omega)
    have q2 := hbl.cell 2 (by omega)
    have q3 := hbl.cell 3 (by omega)
    have f0 := hbl.frozen 0
    have f1 := hbl.frozen 1
    have f2 := hbl.frozen 2
    have f3 := hbl.frozen 3
    have htz : t ≠ z := by rw [← hz]; omega
    have e4' : W1.drew.cell? ⟨t, 4, none⟩ = some (.int .i64 (ro : Int)) := e4
    have s1 : (W1.drew.setCell ⟨z, 0, none⟩ (B x0)).cell? ⟨t, 4, none⟩ = some (.int .i64 (ro : Int)) := (World.cell?_of_block (a := ⟨t, 4, none⟩) (sc_other _ _ _ _ _ htz)).trans e4'
    have s2 := (World.cell?_of_block (a := ⟨t, 4, none⟩) (sc_other (W1.drew.setCell ⟨z, 0, none⟩ (B x0)) z 1 t (B x1) htz)).trans s1
    have s3 := (World.cell?_of_block (a := ⟨t, 4, none⟩) (sc_other ((W1.drew.setCell ⟨z, 0, none⟩ (B x0)).setCell ⟨z, 1, none⟩ (B x1)) z 2 t (B x2) htz)).trans s2
    have s4 := (World.cell?_of_block (a := ⟨t, 4, none⟩) (sc_other (((W1.drew.setCell ⟨z, 0, none⟩ (B x0)).setCell ⟨z, 1, none⟩ (B x1)).setCell ⟨z, 2, none⟩ (B x2)) z 3 t (B x3) htz)).trans s3
    have i0 : 0 < Bz := by omega
    have i1 : (1 : Int) < (Bz : Int) := by omega
    have i2 : (2 : Int) < (Bz : Int) := by omega
    have i3 : (3 : Int) < (Bz : Int) := by omega
    have HB4' := Lib.hid hb4'
    have HX := Lib.hid (And.intro hx0 (And.intro hx1 (And.intro hx2 hx3)))
    clear hbl hB01 hW0 hs0 hb0' hb1' hb2' hb3' hb4' hlz hx0 hx1 hx2 hx3
    go_wp2_with fail
    refine wp_region_held_drew (S := fun W => W.cell? ⟨t, 4, none⟩ = some (.int .i64 (ro : Int))) (by kernel_rfl) (e4) (fun hHeld => ?_)
    refine wpAnyH_take (i := 0) (oi := { dst := some 12, op := Go.Op.move (Go.Operand.tmp 3), type := 39, pos := "pages.go:246", after := #[], guard := none }) (v := ?v0) rfl (by kernel_rfl) (by kernel_rfl) (by kernel_rfl) (fun _ _ _ h => h) (Or.inl ⟨by rfl, ?hy0⟩) hHeld ?_
    case hy0 => (intro w hSw; (try dsimp only at hSw); go_simp; first | done | with_reducible rfl)
    try simp only [Act.put, List.setIfInBounds_toArray, List.set_cons_zero, List.set_cons_succ]
    refine wpAnyH_take (i := 1) (oi := { dst := some 13, op := Go.Op.move (Go.Operand.tmp 3), type := 39, pos := "pages.go:246", after := #[{ on := 28, ground := Go.Ground.gcOnly Go.Departure.lateStores }], guard := none }) (v := ?v1) rfl (by kernel_rfl) (by kernel_rfl) (by kernel_rfl) (fun _ _ _ h => h) (Or.inl ⟨by rfl, ?hy1⟩) hHeld ?_
    case hy1 => (intro w hSw; (try dsimp only at hSw); go_simp; first | done | with_reducible rfl)
    try simp only [Act.put, List.setIfInBounds_toArray, List.set_cons_zero, List.set_cons_succ]
    refine wpAnyH_take (i := 2) (oi := { dst := some 14, op := Go.Op.move (Go.Operand.tmp 3), type := 39, pos := "pages.go:246", after := #[{ on := 30, ground := Go.Ground.gcOnly Go.Departure.lateStores }], guard := none }) (v := ?v2) rfl (by kernel_rfl) (by kernel_rfl) (by kernel_rfl) (fun _ _ _ h => h) (Or.inl ⟨by rfl, ?hy2⟩) hHeld ?_
    case hy2 => (intro w hSw; (try dsimp only at hSw); go_simp; first | done | with_reducible rfl)
    try simp only [Act.put, List.setIfInBounds_toArray, List.set_cons_zero, List.set_cons_succ]
    refine wpAnyH_take (i := 3) (oi := { dst := some 15, op := Go.Op.move (Go.Operand.tmp 3), type := 39, pos := "pages.go:246", after := #[{ on := 32, ground := Go.Ground.gcOnly Go.Departure.lateStores }], guard := none }) (v := ?v3) rfl (by kernel_rfl) (by kernel_rfl) (by kernel_rfl) (fun _ _ _ h => h) (Or.inl ⟨by rfl, ?hy3⟩) hHeld ?_
    case hy3 => (intro w hSw; (try dsimp only at hSw); go_simp; first | done | with_reducible rfl)
    try simp only [Act.put, List.setIfInBounds_toArray, List.set_cons_zero, List.set_cons_succ]
    refine wpAnyH_take (i := 4) (oi := { dst := some 16, op := Go.Op.move (Go.Operand.tmp 0), type := 35, pos := "pages.go:246", after := #[], guard := none }) (v := ?v4) rfl (by kernel_rfl) (by kernel_rfl) (by kernel_rfl) (fun _ _ _ h => h) (Or.inl ⟨by rfl, ?hy4⟩) hHeld ?_
    case hy4 => (intro w hSw; (try dsimp only at hSw); go_simp; first | done | with_reducible rfl)
    try simp only [Act.put, List.setIfInBounds_toArray, List.set_cons_zero, List.set_cons_succ]
    refine wpAnyH_take (i := 5) (oi := { dst := some 17, op := Go.Op.nilCheck (Go.Operand.tmp 16), type := 0, pos := "pages.go:246", after := #[{ on := 4, ground := Go.Ground.data }], guard := none }) (v := ?v5) rfl (by kernel_rfl) (by kernel_rfl) (by kernel_rfl) (fun _ _ _ h => h) (Or.inl ⟨by rfl, ?hy5⟩) hHeld ?_
    case hy5 => (intro w hSw; (try dsimp only at hSw); go_simp; first | done | with_reducible rfl)
    try simp only [Act.put, List.setIfInBounds_toArray, List.set_cons_zero, List.set_cons_succ]
    refine wpAnyH_take (i := 6) (oi := { dst := some 18, op := Go.Op.fieldAddr 104 (Go.Operand.tmp 17) 4, type := 0, pos := "pages.go:246", after := #[{ on := 5, ground := Go.Ground.data }], guard := none }) (v := ?v6) rfl (by kernel_rfl) (by kernel_rfl) (by kernel_rfl) (fun _ _ _ h => h) (Or.inl ⟨by rfl, ?hy6⟩) hHeld ?_
    case hy6 => (intro w hSw; (try dsimp only at hSw); go_simp; first | done | with_reducible rfl)
    try simp only [Act.put, List.setIfInBounds_toArray, List.set_cons_zero, List.set_cons_succ]
    refine wpAnyH_take (i := 7) (oi := { dst := some 19, op := Go.Op.load 3 (Go.Operand.tmp 18), type := 3, pos := "pages.go:246", after := #[{ on := 6, ground := Go.Ground.data }], guard := none }) (v := ?v7) rfl (by kernel_rfl) (by kernel_rfl) (by kernel_rfl) (fun _ _ _ h => h) (Or.inl ⟨by rfl, ?hy7⟩) hHeld ?_
    case hy7 => (intro w hSw; (try dsimp only at hSw); go_simp; first | done | with_reducible rfl)
    try simp only [Act.put, List.setIfInBounds_toArray, List.set_cons_zero, List.set_cons_succ]
    refine wpAnyH_take (i := 8) (oi := { dst := some 20, op := Go.Op.convert 3 5 (Go.Operand.tmp 19), type := 5, pos := "pages.go:246", after := #[{ on := 7, ground := Go.Ground.data }], guard := none }) (v := ?v8) rfl (by kernel_rfl) (by kernel_rfl) (by kernel_rfl) (fun _ _ _ h => h) (Or.inl ⟨by rfl, ?hy8⟩) hHeld ?_
    case hy8 => (intro w hSw; (try dsimp only at hSw); go_simp; first | done | with_reducible rfl)
    try simp only [Act.put, List.setIfInBounds_toArray, List.set_cons_zero, List.set_cons_succ]
    refine wpAnyH_take (i := 9) (oi := { dst := some 21, op := Go.Op.move (Go.Operand.tmp 0), type := 35, pos := "pages.go:246", after := #[], guard := none }) (v := ?v9) rfl (by kernel_rfl) (by kernel_rfl) (by kernel_rfl) (fun _ _ _ h => h) (Or.inl ⟨by rfl, ?hy9⟩) hHeld ?_
    case hy9 => (intro w hSw; (try dsimp only at hSw); go_simp; first | done | with_reducible rfl)
    try simp only [Act.put, List.setIfInBounds_toArray, List.set_cons_zero, List.set_cons_succ]
    refine wpAnyH_take (i := 10) (oi := { dst := some 22, op := Go.Op.nilCheck (Go.Operand.tmp 21), type := 0, pos := "pages.go:246", after := #[{ on := 9, ground := Go.Ground.data }], guard := none }) (v := ?v10) rfl (by kernel_rfl) (by kernel_rfl) (by kernel_rfl) (fun _ _ _ h => h) (Or.inl ⟨by rfl, ?hy10⟩) hHeld ?_
    case hy10 => (intro w hSw; (try dsimp only at hSw); go_simp; first | done | with_reducible rfl)
    try simp only [Act.put, List.setIfInBounds_toArray, List.set_cons_zero, List.set_cons_succ]
    refine wpAnyH_take (i := 11) (oi := { dst := some 23, op := Go.Op.fieldAddr 104 (Go.Operand.tmp 22) 4, type := 0, pos := "pages.go:246", after := #[{ on := 10, ground := Go.Ground.data }], guard := none }) (v := ?v11) rfl (by kernel_rfl) (by kernel_rfl) (by kernel_rfl) (fun _ _ _ h => h) (Or.inl ⟨by rfl, ?hy11⟩) hHeld ?_
    case hy11 => (intro w hSw; (try dsimp only at hSw); go_simp; first | done | with_reducible rfl)
    try simp only [Act.put, List.setIfInBounds_toArray, List.set_cons_zero, List.set_cons_succ]
    refine wpAnyH_take (i := 12) (oi := { dst := some 24, op := Go.Op.load 3 (Go.Operand.tmp 23), type := 3, pos := "pages.go:246", after := #[{ on := 11, ground := Go.Ground.data }], guard := none }) (v := ?v12) rfl (by kernel_rfl) (by kernel_rfl) (by kernel_rfl) (fun _ _ _ h => h) (Or.inl ⟨by rfl, ?hy12⟩) hHeld ?_
    case hy12 => (intro w hSw; (try dsimp only at hSw); go_simp; first | done | with_reducible rfl)
    try simp only [Act.put, List.setIfInBounds_toArray, List.set_cons_zero, List.set_cons_succ]
    refine wpAnyH_take (i := 13) (oi := { dst := some 25, op := Go.Op.binOp Go.BinOp.shr 3 (Go.Operand.tmp 24) (Go.Operand.const (Go.Value.int Go.IntKind.u64 8)) 108, type := 3, pos := "pages.go:246", after := #[{ on := 12, ground := Go.Ground.data }], guard := none }) (v := ?v13) rfl (by kernel_rfl) (by kernel_rfl) (by kernel_rfl) (fun _ _ _ h => h) (Or.inl ⟨by rfl, ?hy13⟩) hHeld ?_
    case hy13 => (intro w hSw; (try dsimp only at hSw); go_simp; first | done | with_reducible rfl)
    try simp only [Act.put, List.setIfInBounds_toArray, List.set_cons_zero, List.set_cons_succ]
    refine wpAnyH_take (i := 14) (oi := { dst := some 26, op := Go.Op.convert 3 5 (Go.Operand.tmp 25), type := 5, pos := "pages.go:246", after := #[{ on := 13, ground := Go.Ground.data }], guard := none }) (v := ?v14) rfl (by kernel_rfl) (by kernel_rfl) (by kernel_rfl) (fun _ _ _ h => h) (Or.inl ⟨by rfl, ?hy14⟩) hHeld ?_
    case hy14 => (intro w hSw; (try dsimp only at hSw); go_simp; first | done | with_reducible rfl)
    try simp only [Act.put, List.setIfInBounds_toArray, List.set_cons_zero, List.set_cons_succ]
    refine wpAnyH_take (i := 15) (oi := { dst := some 27, op := Go.Op.move (Go.Operand.tmp 0), type := 35, pos := "pages.go:246", after := #[], guard := none }) (v := ?v15) rfl (by kernel_rfl) (by kernel_rfl) (by kernel_rfl) (fun _ _ _ h => h) (Or.inl ⟨by rfl, ?hy15⟩) hHeld ?_
    case hy15 => (intro w hSw; (try dsimp only at hSw); go_simp; first | done | with_reducible rfl)
    try simp only [Act.put, List.setIfInBounds_toArray, List.set_cons_zero, List.set_cons_succ]
    refine wpAnyH_take (i := 16) (oi := { dst := some 28, op := Go.Op.nilCheck (Go.Operand.tmp 27), type := 0, pos := "pages.go:246", after := #[{ on := 15, ground := Go.Ground.data }], guard := none }) (v := ?v16) rfl (by kernel_rfl) (by kernel_rfl) (by kernel_rfl) (fun _ _ _ h => h) (Or.inl ⟨by rfl, ?hy16⟩) hHeld ?_
    case hy16 => (intro w hSw; (try dsimp only at hSw); go_simp; first | done | with_reducible rfl)
    try simp only [Act.put, List.setIfInBounds_toArray, List.set_cons_zero, List.set_cons_succ]
    refine wpAnyH_take (i := 17) (oi := { dst := some 29, op := Go.Op.fieldAddr 104 (Go.Operand.tmp 28) 4, type := 0, pos := "pages.go:246", after := #[{ on := 16, ground := Go.Ground.data }], guard := none }) (v := ?v17) rfl (by kernel_rfl) (by kernel_rfl) (by kernel_rfl) (fun _ _ _ h => h) (Or.inl ⟨by rfl, ?hy17⟩) hHeld ?_
    case hy17 => (intro w hSw; (try dsimp only at hSw); go_simp; first | done | with_reducible rfl)
    try simp only [Act.put, List.setIfInBounds_toArray, List.set_cons_zero, List.set_cons_succ]
    refine wpAnyH_take (i := 18) (oi := { dst := some 30, op := Go.Op.load 3 (Go.Operand.tmp 29), type := 3, pos := "pages.go:246", after := #[{ on := 17, ground := Go.Ground.data }], guard := none }) (v := ?v18) rfl (by kernel_rfl) (by kernel_rfl) (by kernel_rfl) (fun _ _ _ h => h) (Or.inl ⟨by rfl, ?hy18⟩) hHeld ?_
    case hy18 => (intro w hSw; (try dsimp only at hSw); go_simp; first | done | with_reducible rfl)
    try simp only [Act.put, List.setIfInBounds_toArray, List.set_cons_zero, List.set_cons_succ]
    refine wpAnyH_take (i := 19) (oi := { dst := some 31, op := Go.Op.binOp Go.BinOp.shr 3 (Go.Operand.tmp 30) (Go.Operand.const (Go.Value.int Go.IntKind.u64 16)) 108, type := 3, pos := "pages.go:246", after := #[{ on := 18, ground := Go.Ground.data }], guard := none }) (v := ?v19) rfl (by kernel_rfl) (by kernel_rfl) (by kernel_rfl) (fun _ _ _ h => h) (Or.inl ⟨by rfl, ?hy19⟩) hHeld ?_
    case hy19 => (intro w hSw; (try dsimp only at hSw); go_simp; first | done | with_reducible rfl)
    try simp only [Act.put, List.setIfInBounds_toArray, List.set_cons_zero, List.set_cons_succ]
    refine wpAnyH_take (i := 20) (oi := { dst := some 32, op := Go.Op.convert 3 5 (Go.Operand.tmp 31), type := 5, pos := "pages.go:246", after := #[{ on := 19, ground := Go.Ground.data }], guard := none }) (v := ?v20) rfl (by kernel_rfl) (by kernel_rfl) (by kernel_rfl) (fun _ _ _ h => h) (Or.inl ⟨by rfl, ?hy20⟩) hHeld ?_
    case hy20 => (intro w hSw; (try dsimp only at hSw); go_simp; first | done | with_reducible rfl)
    try simp only [Act.put, List.setIfInBounds_toArray, List.set_cons_zero, List.set_cons_succ]
    refine wpAnyH_take (i := 21) (oi := { dst := some 33, op := Go.Op.move (Go.Operand.tmp 0), type := 35, pos := "pages.go:246", after := #[], guard := none }) (v := ?v21) rfl (by kernel_rfl) (by kernel_rfl) (by kernel_rfl) (fun _ _ _ h => h) (Or.inl ⟨by rfl, ?hy21⟩) hHeld ?_
    case hy21 => (intro w hSw; (try dsimp only at hSw); go_simp; first | done | with_reducible rfl)
    try simp only [Act.put, List.setIfInBounds_toArray, List.set_cons_zero, List.set_cons_succ]
    refine wpAnyH_take (i := 22) (oi := { dst := some 34, op := Go.Op.nilCheck (Go.Operand.tmp 33), type := 0, pos := "pages.go:246", after := #[{ on := 21, ground := Go.Ground.data }], guard := none }) (v := ?v22) rfl (by kernel_rfl) (by kernel_rfl) (by kernel_rfl) (fun _ _ _ h => h) (Or.inl ⟨by rfl, ?hy22⟩) hHeld ?_
    case hy22 => (intro w hSw; (try dsimp only at hSw); go_simp; first | done | with_reducible rfl)
    try simp only [Act.put, List.setIfInBounds_toArray, List.set_cons_zero, List.set_cons_succ]
    refine wpAnyH_take (i := 23) (oi := { dst := some 35, op := Go.Op.fieldAddr 104 (Go.Operand.tmp 34) 4, type := 0, pos := "pages.go:246", after := #[{ on := 22, ground := Go.Ground.data }], guard := none }) (v := ?v23) rfl (by kernel_rfl) (by kernel_rfl) (by kernel_rfl) (fun _ _ _ h => h) (Or.inl ⟨by rfl, ?hy23⟩) hHeld ?_
    case hy23 => (intro w hSw; (try dsimp only at hSw); go_simp; first | done | with_reducible rfl)
    try simp only [Act.put, List.setIfInBounds_toArray, List.set_cons_zero, List.set_cons_succ]
    refine wpAnyH_take (i := 24) (oi := { dst := some 36, op := Go.Op.load 3 (Go.Operand.tmp 35), type := 3, pos := "pages.go:246", after := #[{ on := 23, ground := Go.Ground.data }], guard := none }) (v := ?v24) rfl (by kernel_rfl) (by kernel_rfl) (by kernel_rfl) (fun _ _ _ h => h) (Or.inl ⟨by rfl, ?hy24⟩) hHeld ?_
    case hy24 => (intro w hSw; (try dsimp only at hSw); go_simp; first | done | with_reducible rfl)
    try simp only [Act.put, List.setIfInBounds_toArray, List.set_cons_zero, List.set_cons_succ]
    refine wpAnyH_take (i := 25) (oi := { dst := some 37, op := Go.Op.binOp Go.BinOp.shr 3 (Go.Operand.tmp 36) (Go.Operand.const (Go.Value.int Go.IntKind.u64 24)) 108, type := 3, pos := "pages.go:246", after := #[{ on := 24, ground := Go.Ground.data }], guard := none }) (v := ?v25) rfl (by kernel_rfl) (by kernel_rfl) (by kernel_rfl) (fun _ _ _ h => h) (Or.inl ⟨by rfl, ?hy25⟩) hHeld ?_
    case hy25 => (intro w hSw; (try dsimp only at hSw); go_simp; first | done | with_reducible rfl)
    try simp only [Act.put, List.setIfInBounds_toArray, List.set_cons_zero, List.set_cons_succ]
    refine wpAnyH_take (i := 26) (oi := { dst := some 38, op := Go.Op.convert 3 5 (Go.Operand.tmp 37), type := 5, pos := "pages.go:246", after := #[{ on := 25, ground := Go.Ground.data }], guard := none }) (v := ?v26) rfl (by kernel_rfl) (by kernel_rfl) (by kernel_rfl) (fun _ _ _ h => h) (Or.inl ⟨by rfl, ?hy26⟩) hHeld ?_
    case hy26 => (intro w hSw; (try dsimp only at hSw); go_simp; first | done | with_reducible rfl)
    try simp only [Act.put, List.setIfInBounds_toArray, List.set_cons_zero, List.set_cons_succ]
    refine wpAnyH_take (i := 27) (oi := { dst := some 39, op := Go.Op.indexAddr 39 (Go.Operand.tmp 12) (Go.Operand.const (Go.Value.int Go.IntKind.i64 0)), type := 0, pos := "pages.go:246", after := #[{ on := 0, ground := Go.Ground.data }, { on := 0, ground := Go.Ground.phase }, { on := 1, ground := Go.Ground.textOnly Go.Departure.lateStores }, { on := 2, ground := Go.Ground.textOnly Go.Departure.lateStores }, { on := 3, ground := Go.Ground.textOnly Go.Departure.lateStores }, { on := 4, ground := Go.Ground.phase }, { on := 5, ground := Go.Ground.phase }, { on := 6, ground := Go.Ground.phase }, { on := 7, ground := Go.Ground.phase }, { on := 8, ground := Go.Ground.phase }, { on := 9, ground := Go.Ground.textOnly Go.Departure.lateStores }, { on := 10, ground := Go.Ground.textOnly Go.Departure.lateStoresUnsure }, { on := 11, ground := Go.Ground.textOnly Go.Departure.lateStoresUnsure }, { on := 12, ground := Go.Ground.phase }, { on := 13, ground := Go.Ground.textOnly Go.Departure.lateStoresUnsure }, { on := 14, ground := Go.Ground.textOnly Go.Departure.lateStoresUnsure }, { on := 15, ground := Go.Ground.textOnly Go.Departure.lateStores }, { on := 16, ground := Go.Ground.textOnly Go.Departure.lateStoresUnsure }, { on := 17, ground := Go.Ground.textOnly Go.Departure.lateStoresUnsure }, { on := 18, ground := Go.Ground.phase }, { on := 19, ground := Go.Ground.textOnly Go.Departure.lateStoresUnsure }, { on := 20, ground := Go.Ground.textOnly Go.Departure.lateStoresUnsure }, { on := 21, ground := Go.Ground.textOnly Go.Departure.lateStores }, { on := 22, ground := Go.Ground.textOnly Go.Departure.lateStoresUnsure }, { on := 23, ground := Go.Ground.textOnly Go.Departure.lateStoresUnsure }, { on := 24, ground := Go.Ground.phase }, { on := 25, ground := Go.Ground.textOnly Go.Departure.lateStoresUnsure }, { on := 26, ground := Go.Ground.textOnly Go.Departure.lateStoresUnsure }], guard := none }) (v := ?v27) rfl (by kernel_rfl) (by kernel_rfl) (by kernel_rfl) (fun _ _ _ h => h) (Or.inl ⟨by rfl, ?hy27⟩) hHeld ?_
    case hy27 => (intro w hSw; (try dsimp only at hSw); go_simp; first | done | with_reducible rfl)
    try simp only [Act.put, List.setIfInBounds_toArray, List.set_cons_zero, List.set_cons_succ]
    refine wpAnyH_ready (rs := [28]) (by kernel_rfl) (by simp) ?_
    refine AllReadyH.cons (o := { dst := none, op := Go.Op.store 5 (Go.Operand.tmp 39) (Go.Operand.tmp 20), type := 0, pos := "pages.go:246", after := #[{ on := 27, ground := Go.Ground.data }, { on := 8, ground := Go.Ground.data }, { on := 0, ground := Go.Ground.phase }, { on := 1, ground := Go.Ground.textOnly Go.Departure.lateStores }, { on := 2, ground := Go.Ground.textOnly Go.Departure.lateStores }, { on := 3, ground := Go.Ground.textOnly Go.Departure.lateStores }, { on := 4, ground := Go.Ground.phase }, { on := 5, ground := Go.Ground.phase }, { on := 6, ground := Go.Ground.phase }, { on := 7, ground := Go.Ground.phase }, { on := 8, ground := Go.Ground.phase }, { on := 9, ground := Go.Ground.textOnly Go.Departure.lateStores }, { on := 10, ground := Go.Ground.textOnly Go.Departure.lateStoresUnsure }, { on := 11, ground := Go.Ground.textOnly Go.Departure.lateStoresUnsure }, { on := 12, ground := Go.Ground.phase }, { on := 13, ground := Go.Ground.textOnly Go.Departure.lateStoresUnsure }, { on := 14, ground := Go.Ground.textOnly Go.Departure.lateStoresUnsure }, { on := 15, ground := Go.Ground.textOnly Go.Departure.lateStores }, { on := 16, ground := Go.Ground.textOnly Go.Departure.lateStoresUnsure }, { on := 17, ground := Go.Ground.textOnly Go.Departure.lateStoresUnsure }, { on := 18, ground := Go.Ground.phase }, { on := 19, ground := Go.Ground.textOnly Go.Departure.lateStoresUnsure }, { on := 20, ground := Go.Ground.textOnly Go.Departure.lateStoresUnsure }, { on := 21, ground := Go.Ground.textOnly Go.Departure.lateStores }, { on := 22, ground := Go.Ground.textOnly Go.Departure.lateStoresUnsure }, { on := 23, ground := Go.Ground.textOnly Go.Departure.lateStoresUnsure }, { on := 24, ground := Go.Ground.phase }, { on := 25, ground := Go.Ground.textOnly Go.Departure.lateStoresUnsure }, { on := 26, ground := Go.Ground.textOnly Go.Departure.lateStoresUnsure }], guard := none }) rfl (fun K hK => ?_) AllReadyH.nil
    go_simp
    refine hK.out _ _ (s1) (fun hHeld => ?_)
    clear hK K
    try simp only [Act.put, List.setIfInBounds_toArray, List.set_cons_zero, List.set_cons_succ]
    refine wpAnyH_take (i := 29) (oi := { dst := some 40, op := Go.Op.indexAddr 39 (Go.Operand.tmp 13) (Go.Operand.const (Go.Value.int Go.IntKind.i64 1)), type := 0, pos := "pages.go:246", after := #[{ on := 1, ground := Go.Ground.data }, { on := 0, ground := Go.Ground.phase }, { on := 1, ground := Go.Ground.phase }, { on := 2, ground := Go.Ground.textOnly Go.Departure.lateStores }, { on := 3, ground := Go.Ground.textOnly Go.Departure.lateStores }, { on := 4, ground := Go.Ground.phase }, { on := 5, ground := Go.Ground.phase }, { on := 6, ground := Go.Ground.phase }, { on := 7, ground := Go.Ground.phase }, { on := 8, ground := Go.Ground.phase }, { on := 9, ground := Go.Ground.phase }, { on := 10, ground := Go.Ground.phase }, { on := 11, ground := Go.Ground.phase }, { on := 12, ground := Go.Ground.phase }, { on := 13, ground := Go.Ground.phase }, { on := 14, ground := Go.Ground.phase }, { on := 15, ground := Go.Ground.textOnly Go.Departure.lateStores }, { on := 16, ground := Go.Ground.textOnly Go.Departure.lateStoresUnsure }, { on := 17, ground := Go.Ground.textOnly Go.Departure.lateStoresUnsure }, { on := 18, ground := Go.Ground.phase }, { on := 19, ground := Go.Ground.textOnly Go.Departure.lateStoresUnsure }, { on := 20, ground := Go.Ground.textOnly Go.Departure.lateStoresUnsure }, { on := 21, ground := Go.Ground.textOnly Go.Departure.lateStores }, { on := 22, ground := Go.Ground.textOnly Go.Departure.lateStoresUnsure }, { on := 23, ground := Go.Ground.textOnly Go.Departure.lateStoresUnsure }, { on := 24, ground := Go.Ground.phase }, { on := 25, ground := Go.Ground.textOnly Go.Departure.lateStoresUnsure }, { on := 26, ground := Go.Ground.textOnly Go.Departure.lateStoresUnsure }, { on := 27, ground := Go.Ground.phase }, { on := 28, ground := Go.Ground.phase }], guard := none }) (v := ?v29) rfl (by kernel_rfl) (by kernel_rfl) (by kernel_rfl) (fun _ _ _ h => h) (Or.inl ⟨by rfl, ?hy29⟩) hHeld ?_
    case hy29 => (intro w hSw; (try dsimp only at hSw); go_simp; first | done | with_reducible rfl)
    try simp only [Act.put, List.setIfInBounds_toArray, List.set_cons_zero, List.set_cons_succ]
    refine wpAnyH_ready (rs := [30]) (by kernel_rfl) (by simp) ?_
    refine AllReadyH.cons (o := { dst := none, op := Go.Op.store 5 (Go.Operand.tmp 40) (Go.Operand.tmp 26), type := 0, pos := "pages.go:246", after := #[{ on := 29, ground := Go.Ground.data }, { on := 14, ground := Go.Ground.data }, { on := 28, ground := Go.Ground.chain }, { on := 0, ground := Go.Ground.phase }, { on := 1, ground := Go.Ground.phase }, { on := 2, ground := Go.Ground.textOnly Go.Departure.lateStores }, { on := 3, ground := Go.Ground.textOnly Go.Departure.lateStores }, { on := 4, ground := Go.Ground.phase }, { on := 5, ground := Go.Ground.phase }, { on := 6, ground := Go.Ground.phase }, { on := 7, ground := Go.Ground.phase }, { on := 8, ground := Go.Ground.phase }, { on := 9, ground := Go.Ground.phase }, { on := 10, ground := Go.Ground.phase }, { on := 11, ground := Go.Ground.phase }, { on := 12, ground := Go.Ground.phase }, { on := 13, ground := Go.Ground.phase }, { on := 14, ground := Go.Ground.phase }, { on := 15, ground := Go.Ground.textOnly Go.Departure.lateStores }, { on := 16, ground := Go.Ground.textOnly Go.Departure.lateStoresUnsure }, { on := 17, ground := Go.Ground.textOnly Go.Departure.lateStoresUnsure }, { on := 18, ground := Go.Ground.phase }, { on := 19, ground := Go.Ground.textOnly Go.Departure.lateStoresUnsure }, { on := 20, ground := Go.Ground.textOnly Go.Departure.lateStoresUnsure }, { on := 21, ground := Go.Ground.textOnly Go.Departure.lateStores }, { on := 22, ground := Go.Ground.textOnly Go.Departure.lateStoresUnsure }, { on := 23, ground := Go.Ground.textOnly Go.Departure.lateStoresUnsure }, { on := 24, ground := Go.Ground.phase }, { on := 25, ground := Go.Ground.textOnly Go.Departure.lateStoresUnsure }, { on := 26, ground := Go.Ground.textOnly Go.Departure.lateStoresUnsure }, { on := 27, ground := Go.Ground.phase }, { on := 28, ground := Go.Ground.phase }], guard := none }) rfl (fun K hK => ?_) AllReadyH.nil
    go_simp
    refine hK.out _ _ (s2) (fun hHeld => ?_)
    clear hK K
    try simp only [Act.put, List.setIfInBounds_toArray, List.set_cons_zero, List.set_cons_succ]
    refine wpAnyH_take (i := 31) (oi := { dst := some 41, op := Go.Op.indexAddr 39 (Go.Operand.tmp 14) (Go.Operand.const (Go.Value.int Go.IntKind.i64 2)), type := 0, pos := "pages.go:246", after := #[{ on := 2, ground := Go.Ground.data }, { on := 0, ground := Go.Ground.phase }, { on := 1, ground := Go.Ground.phase }, { on := 2, ground := Go.Ground.phase }, { on := 3, ground := Go.Ground.textOnly Go.Departure.lateStores }, { on := 4, ground := Go.Ground.phase }, { on := 5, ground := Go.Ground.phase }, { on := 6, ground := Go.Ground.phase }, { on := 7, ground := Go.Ground.phase }, { on := 8, ground := Go.Ground.phase }, { on := 9, ground := Go.Ground.phase }, { on := 10, ground := Go.Ground.phase }, { on := 11, ground := Go.Ground.phase }, { on := 12, ground := Go.Ground.phase }, { on := 13, ground := Go.Ground.phase }, { on := 14, ground := Go.Ground.phase }, { on := 15, ground := Go.Ground.phase }, { on := 16, ground := Go.Ground.phase }, { on := 17, ground := Go.Ground.phase }, { on := 18, ground := Go.Ground.phase }, { on := 19, ground := Go.Ground.phase }, { on := 20, ground := Go.Ground.phase }, { on := 21, ground := Go.Ground.textOnly Go.Departure.lateStores }, { on := 22, ground := Go.Ground.textOnly Go.Departure.lateStoresUnsure }, { on := 23, ground := Go.Ground.textOnly Go.Departure.lateStoresUnsure }, { on := 24, ground := Go.Ground.phase }, { on := 25, ground := Go.Ground.textOnly Go.Departure.lateStoresUnsure }, { on := 26, ground := Go.Ground.textOnly Go.Departure.lateStoresUnsure }, { on := 27, ground := Go.Ground.phase }, { on := 28, ground := Go.Ground.phase }, { on := 29, ground := Go.Ground.phase }, { on := 30, ground := Go.Ground.phase }], guard := none }) (v := ?v31) rfl (by kernel_rfl) (by kernel_rfl) (by kernel_rfl) (fun _ _ _ h => h) (Or.inl ⟨by rfl, ?hy31⟩) hHeld ?_
    case hy31 => (intro w hSw; (try dsimp only at hSw); go_simp; first | done | with_reducible rfl)
    try simp only [Act.put, List.setIfInBounds_toArray, List.set_cons_zero, List.set_cons_succ]
    refine wpAnyH_ready (rs := [32]) (by kernel_rfl) (by simp) ?_
    refine AllReadyH.cons (o := { dst := none, op := Go.Op.store 5 (Go.Operand.tmp 41) (Go.Operand.tmp 32), type := 0, pos := "pages.go:246", after := #[{ on := 31, ground := Go.Ground.data }, { on := 20, ground := Go.Ground.data }, { on := 30, ground := Go.Ground.chain }, { on := 0, ground := Go.Ground.phase }, { on := 1, ground := Go.Ground.phase }, { on := 2, ground := Go.Ground.phase }, { on := 3, ground := Go.Ground.textOnly Go.Departure.lateStores }, { on := 4, ground := Go.Ground.phase }, { on := 5, ground := Go.Ground.phase }, { on := 6, ground := Go.Ground.phase }, { on := 7, ground := Go.Ground.phase }, { on := 8, ground := Go.Ground.phase }, { on := 9, ground := Go.Ground.phase }, { on := 10, ground := Go.Ground.phase }, { on := 11, ground := Go.Ground.phase }, { on := 12, ground := Go.Ground.phase }, { on := 13, ground := Go.Ground.phase }, { on := 14, ground := Go.Ground.phase }, { on := 15, ground := Go.Ground.phase }, { on := 16, ground := Go.Ground.phase }, { on := 17, ground := Go.Ground.phase }, { on := 18, ground := Go.Ground.phase }, { on := 19, ground := Go.Ground.phase }, { on := 20, ground := Go.Ground.phase }, { on := 21, ground := Go.Ground.textOnly Go.Departure.lateStores }, { on := 22, ground := Go.Ground.textOnly Go.Departure.lateStoresUnsure }, { on := 23, ground := Go.Ground.textOnly Go.Departure.lateStoresUnsure }, { on := 24, ground := Go.Ground.phase }, { on := 25, ground := Go.Ground.textOnly Go.Departure.lateStoresUnsure }, { on := 26, ground := Go.Ground.textOnly Go.Departure.lateStoresUnsure }, { on := 27, ground := Go.Ground.phase }, { on := 28, ground := Go.Ground.phase }, { on := 29, ground := Go.Ground.phase }, { on := 30, ground := Go.Ground.phase }], guard := none }) rfl (fun K hK => ?_) AllReadyH.nil
    go_simp
    refine hK.out _ _ (s3) (fun hHeld => ?_)
    clear hK K
    try simp only [Act.put, List.setIfInBounds_toArray, List.set_cons_zero, List.set_cons_succ]
    refine wpAnyH_take (i := 33) (oi := { dst := some 42, op := Go.Op.indexAddr 39 (Go.Operand.tmp 15) (Go.Operand.const (Go.Value.int Go.IntKind.i64 3)), type := 0, pos := "pages.go:246", after := #[{ on := 3, ground := Go.Ground.data }, { on := 0, ground := Go.Ground.phase }, { on := 1, ground := Go.Ground.phase }, { on := 2, ground := Go.Ground.phase }, { on := 3, ground := Go.Ground.phase }, { on := 4, ground := Go.Ground.phase }, { on := 5, ground := Go.Ground.phase }, { on := 6, ground := Go.Ground.phase }, { on := 7, ground := Go.Ground.phase }, { on := 8, ground := Go.Ground.phase }, { on := 9, ground := Go.Ground.phase }, { on := 10, ground := Go.Ground.phase }, { on := 11, ground := Go.Ground.phase }, { on := 12, ground := Go.Ground.phase }, { on := 13, ground := Go.Ground.phase }, { on := 14, ground := Go.Ground.phase }, { on := 15, ground := Go.Ground.phase }, { on := 16, ground := Go.Ground.phase }, { on := 17, ground := Go.Ground.phase }, { on := 18, ground := Go.Ground.phase }, { on := 19, ground := Go.Ground.phase }, { on := 20, ground := Go.Ground.phase }, { on := 21, ground := Go.Ground.phase }, { on := 22, ground := Go.Ground.phase }, { on := 23, ground := Go.Ground.phase }, { on := 24, ground := Go.Ground.phase }, { on := 25, ground := Go.Ground.phase }, { on := 26, ground := Go.Ground.phase }, { on := 27, ground := Go.Ground.phase }, { on := 28, ground := Go.Ground.phase }, { on := 29, ground := Go.Ground.phase }, { on := 30, ground := Go.Ground.phase }, { on := 31, ground := Go.Ground.phase }, { on := 32, ground := Go.Ground.phase }], guard := none }) (v := ?v33) rfl (by kernel_rfl) (by kernel_rfl) (by kernel_rfl) (fun _ _ _ h => h) (Or.inl ⟨by rfl, ?hy33⟩) hHeld ?_
    case hy33 => (intro w hSw; (try dsimp only at hSw); go_simp; first | done | with_reducible rfl)
    try simp only [Act.put, List.setIfInBounds_toArray, List.set_cons_zero, List.set_cons_succ]
    refine wpAnyH_ready (rs := [34]) (by kernel_rfl) (by simp) ?_
    refine AllReadyH.cons (o := { dst := none, op := Go.Op.store 5 (Go.Operand.tmp 42) (Go.Operand.tmp 38), type := 0, pos := "pages.go:246", after := #[{ on := 33, ground := Go.Ground.data }, { on := 26, ground := Go.Ground.data }, { on := 32, ground := Go.Ground.chain }, { on := 0, ground := Go.Ground.phase }, { on := 1, ground := Go.Ground.phase }, { on := 2, ground := Go.Ground.phase }, { on := 3, ground := Go.Ground.phase }, { on := 4, ground := Go.Ground.phase }, { on := 5, ground := Go.Ground.phase }, { on := 6, ground := Go.Ground.phase }, { on := 7, ground := Go.Ground.phase }, { on := 8, ground := Go.Ground.phase }, { on := 9, ground := Go.Ground.phase }, { on := 10, ground := Go.Ground.phase }, { on := 11, ground := Go.Ground.phase }, { on := 12, ground := Go.Ground.phase }, { on := 13, ground := Go.Ground.phase }, { on := 14, ground := Go.Ground.phase }, { on := 15, ground := Go.Ground.phase }, { on := 16, ground := Go.Ground.phase }, { on := 17, ground := Go.Ground.phase }, { on := 18, ground := Go.Ground.phase }, { on := 19, ground := Go.Ground.phase }, { on := 20, ground := Go.Ground.phase }, { on := 21, ground := Go.Ground.phase }, { on := 22, ground := Go.Ground.phase }, { on := 23, ground := Go.Ground.phase }, { on := 24, ground := Go.Ground.phase }, { on := 25, ground := Go.Ground.phase }, { on := 26, ground := Go.Ground.phase }, { on := 27, ground := Go.Ground.phase }, { on := 28, ground := Go.Ground.phase }, { on := 29, ground := Go.Ground.phase }, { on := 30, ground := Go.Ground.phase }, { on := 31, ground := Go.Ground.phase }, { on := 32, ground := Go.Ground.phase }], guard := none }) rfl (fun K hK => ?_) AllReadyH.nil
    go_simp
    refine hK.out _ _ (s4) (fun hHeld => ?_)
    clear hK K
    try simp only [Act.put, List.setIfInBounds_toArray, List.set_cons_zero, List.set_cons_succ]
    refine wpAnyH_done (by kernel_rfl) ?_ _
    obtain ⟨W5, hW5⟩ : ∃ W5, (((W1.drew.setCell ⟨z, 0, none⟩ (B x0)).setCell ⟨z, 1, none⟩ (B x1)).setCell ⟨z, 2, none⟩ (B x2)).setCell ⟨z, 3, none⟩ (B x3) = W5 := ⟨_, rfl⟩
    have hrow : Blk W5 z 5 (encR Bz ro) := by
      have := HB4'.out
      rw [hW5] at this
      obtain ⟨a0, a1, a2, a3⟩ := HX.out
      rw [← a0, ← a1, ← a2, ← a3] at this
      exact this
    have hb5 : Below z w W5 := by
      rw [← hW5]
      exact ((((HB01.out.drew).setCell (p := ⟨z, 0, none⟩) (Nat.le_refl _) _).setCell (p := ⟨z, 1, none⟩) (Nat.le_refl _) _).setCell (p := ⟨z, 2, none⟩) (Nat.le_refl _) _).setCell (p := ⟨z, 3, none⟩) (Nat.le_refl _) _
    have d0 : W5.cell? ⟨t, 0, none⟩ = some (.pointer (some ⟨pp, 0, none⟩)) := (hb5.cell (p := ⟨t, 0, none⟩) (by rw [← hz]; exact htl)).trans c0
    have hcm5 := HCM.out.below (w' := W5) (by rw [hz]; exact hb5)
    have HRB := Lib.hid (rootBlock_any W5 pp q g now s log false Dw ((hb5.block pp (by rw [← hz]; exact (Array.getElem?_eq_some_iff.1 HP.out).1)).trans HP.out) hcm5.wal)
    rw [HCM.out.hN, HCM.out.hB, HCM.out.hM] at HRB
    have hzero := zero83
    have HROW := Lib.hid hrow
    have HB5 := Lib.hid hb5
    have HZ := Lib.hid hz
    clear q0 q1 q2 q3 f0 f1 f2 f3 s1 s2 s3 s4 hHeld hrow hb5 hcm5
    rw [show ((((W1.setCell ⟨z, 0, none⟩ (.int .u8 (x0.toNat : Int))).setCell ⟨z, 1, none⟩ (.int .u8 (x1.toNat : Int))).setCell ⟨z, 2, none⟩ (.int .u8 (x2.toNat : Int))).setCell ⟨z, 3, none⟩ (.int .u8 (x3.toNat : Int))).drew = W5 from hW5]
    go_wp2_with fail
    refine HRB.out.mono ?_
    rintro e w6 ⟨rfl, k6, rfl⟩
    obtain ⟨W6, hW6⟩ : ∃ W6, W5.drewN k6 = W6 := ⟨_, rfl⟩
    have hb6 : Below z w W6 := by rw [← hW6]; exact below_drewN HB5.out k6
    have hrow6 : Blk W6 z 5 (encR Bz ro) := by rw [← hW6]; exact HROW.out
    rw [hW6]
    have HB6 := Lib.hid hb6
    have HR6 := Lib.hid hrow6
    clear hb6 hrow6 hW6
    go_wp2
    go_ret
    obtain ⟨X, hX⟩ : ∃ X, W6.alloc (.cells #[.int .i64 (M : Int), .slice (some ⟨z, 0, none⟩) Bz Bz] 169) = X := ⟨_, rfl⟩
    have hbX : Below W6.heap.size W6 X := by rw [← hX]; exact (Below.refl _ _).alloc (Nat.le_refl _) _
    have hsX := hbX.size
    have hs6 := HB6.out.size
    have hzl := HR6.out.lt
    have hXn : X.heap[W6.heap.size]? = some (.cells #[.int .i64 (M : Int), .slice (some ⟨z, 0, none⟩) Bz Bz] 169 (0, 0)) := by rw [← hX]; exact heap_alloc_new W6 _
    rw [hX]
    refine ⟨_, rfl, [⟨M, z, 0, Bz, Bz, encR Bz ro⟩], ?_, ⟨?_, fun t' ht' => ?_⟩, fun t' ht' => ?_, ?_⟩
    · rw [HTM.out]; rfl
    · refine ⟨rfl, .inr ⟨W6.heap.size, 1, _, rfl, by rw [HZ.out]; omega, hXn, Nat.le_refl _, by unfold maxLen; omega, rfl, rfl⟩⟩
    · have e : t' = ⟨M, z, 0, Bz, Bz, encR Bz ro⟩ := by simpa using ht'
      subst e
      refine ⟨⟨?_, by show 0 < Bz; omega, by show M ≤ 1000000; omega⟩, fun e => ?_⟩
      · exact (HR6.out.all' Bz Bz (encR_len Bz ro) (Nat.le_refl _)).keep hbX
      · have : W6.heap.size = z := by simpa [Value.ownBlock] using e
        omega
    · have e : t' = ⟨M, z, 0, Bz, Bz, encR Bz ro⟩ := by simpa using ht'
      subst e
      exact .inr (by show w.heap.size ≤ z; rw [HZ.out]; exact Nat.le_refl _)
    · rw [HZ.out]; exact HB6.out.trans (hbX.mono (by omega))
end Go.Proofs.YtephmcbofcfpmaaGreat

