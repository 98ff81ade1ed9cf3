/- The changes of a commit that is set. Conditions: none. redo, whatever the commit says. Conditions: none. -/
import Derived.Test.YtephmcbofcfpmaaGreatJ19
set_option maxRecDepth 8000
set_option linter.unusedSimpArgs false
set_option linter.unusedVariables false
namespace Go.Proofs.YtephmcbofcfpmaaGreat
open Go.RowKit Go.Bs Go.Dk

set_option maxHeartbeats 8000000 in
theorem changesOf_any (w : World) (p g : Nat) (s : S) (log : Nat) (down : Bool) (D : Nat → Prop) (h : WalAt w p g s log down D) (hu : s.up = true) (A : Option Addr) (c : Nat) (cm : List UInt8) (hcm : Rd w A s.bytes c cm) :
    Calls Tryz.prog 137 #[.pointer (some ⟨p, 0, none⟩), .slice A s.bytes c] w fun e w' => ∃ A' n' c', e = .returned (.tuple #[.slice A' n' c', .int .i64 0]) ∧ Chs w' A' n' c' (chs s log cm) (fun k => w.heap.size ≤ k ∧ k < w'.heap.size) ∧ Below w.heap.size w w' := by
  have c1 := (wc_cells h.row).2.1
  have hb1 := h.disk.ok.b1
  have hb0 := h.disk.ok.b0
  have hl2 := h.l2
  have hl1 := h.l1
  have hsx := h.disk.ok.s1
  have HOK := Lib.hid h.disk.ok
  have hcc := hcm.cap
  obtain ⟨nb, hnb⟩ : ∃ nb, s.bytes = nb := ⟨_, rfl⟩
  have HW := Lib.hid h
  rw [hnb] at hcm hb1 hb0 hl2 hcc ⊢
  obtain ⟨q, o, rfl, hq, hcell⟩ := hcm.cells (by omega)
  obtain ⟨x1, hx1, hx1l⟩ : ∃ x : Nat, (cm.getD 1 0).toNat = x ∧ x < 256 := ⟨_, rfl, (cm.getD 1 0).toNat_lt⟩
  obtain ⟨x2, hx2, hx2l⟩ : ∃ x : Nat, (cm.getD 2 0).toNat = x ∧ x < 256 := ⟨_, rfl, (cm.getD 2 0).toNat_lt⟩
  have k1 : w.cell? ⟨q, o + 1, none⟩ = some (.int .u8 (x1 : Int)) := by rw [← hx1]; exact hcell 1 (by omega)
  have k2 : w.cell? ⟨q, o + 2, none⟩ = some (.int .u8 (x2 : Int)) := by rw [← hx2]; exact hcell 2 (by omega)
  obtain ⟨cn, hcn⟩ : ∃ cn, cntN cm = cn := ⟨_, rfl⟩
  have hcnv : 256 * x1 + x2 = cn := by rw [← hx1, ← hx2]; exact hcn
  have hor := or_hi8 x1 x2 (by omega) hx2l
  rw [hcnv] at hor
  have hw1 : IntKind.i64.wrap (x1 : Int) = x1 := IntWalk.i64_in _ (by omega)
  have hw2 : IntKind.i64.wrap (x2 : Int) = x2 := IntWalk.i64_in _ (by omega)
  have hw3 : IntKind.i64.wrap ((x1 : Int) * 256) = (x1 : Int) * 256 := IntWalk.i64_in _ (by omega)
  have hin1 : (1 : Int) < (nb : Int) := by omega
  have hin2 : (2 : Int) < (nb : Int) := by omega
  obtain ⟨m, hm⟩ : ∃ m, min cn log = m := ⟨_, rfl⟩
  have hml : m ≤ log := by omega
  have hmin : ∀ (ts : Array TypeId) (t : TypeId) (W : World), (Builtin.min_ ts t #[.int .i64 (cn : Int), .int .i64 (log : Int)]).run Tryz.prog W = .ok (.int .i64 (m : Int)) W := fun ts t W => by
    rw [run_min_int2]
    congr 2
    split <;> omega
  obtain ⟨C, hC⟩ : ∃ C, chs s log cm = C := ⟨_, rfl⟩
  have HC : Hid (chsTo s log cm m = C) := by show chsTo s log cm m = C; rw [← hC, ← hm, ← hcn]; rfl
  obtain ⟨base, hbase⟩ : ∃ base, w.heap.size = base := ⟨_, rfl⟩
  have HBA := Lib.hid hbase
  rw [hC, hbase]
  have HCE := Lib.hid hcell
  have HNB := Lib.hid hnb
  have hqb : q < base := by omega
  clear h hcell hcm hx1 hx2 hcn hm hC hcnv hnb
  go_enter Tryz.func137, Tryz.ntmps137
  go_wp2_with fail
  go_quiet (fail)
  obtain ⟨W1, hW1⟩ : ∃ W1, w.drewN nq = W1 := ⟨_, rfl⟩
  have hbW : Below base w W1 := by rw [← hW1, ← HBA.out]; exact below_drewN (Below.refl _ _) _
  have c1' : W1.cell? ⟨p, 1, none⟩ = some (.int .i64 (log : Int)) := by rw [← hW1]; exact c1
  rw [hW1]
  have HBW := Lib.hid hbW
  clear hW1 hor hw1 hw2 hw3 k1 k2 hbW hbase
  go_wp2
  go_loopw [29, 7] (fun i v wr => ∃ k : Nat, k ≤ m ∧ i = .int .i64 k ∧ (∃ L, L.map (fun t : Tr => (t.1, t.2.2)) = chsTo s log cm k ∧ OwnC wr base v L) ∧ Below base w wr) (fun i _ _ => m - (RowKit.intOf i).toNat)
  case atStart => exact ⟨0, Nat.zero_le _, rfl, ⟨[], rfl, OwnC.nil _ _⟩, HBW.out⟩
  case round =>
    obtain ⟨k, hk, rfl, ⟨L, hL, hO⟩, hbl⟩ := hrel
    by_cases hlt : k < m
    · obtain ⟨y0, hy0, hy0l⟩ : ∃ x : Nat, (cm.getD (3 + 3 * k) 0).toNat = x ∧ x < 256 := ⟨_, rfl, (cm.getD (3 + 3 * k) 0).toNat_lt⟩
      obtain ⟨y1, hy1, hy1l⟩ : ∃ x : Nat, (cm.getD (3 + 3 * k + 1) 0).toNat = x ∧ x < 256 := ⟨_, rfl, (cm.getD (3 + 3 * k + 1) 0).toNat_lt⟩
      obtain ⟨y2, hy2, hy2l⟩ : ∃ x : Nat, (cm.getD (3 + 3 * k + 2) 0).toNat = x ∧ x < 256 := ⟨_, rfl, (cm.getD (3 + 3 * k + 2) 0).toNat_lt⟩
      have hcw : ∀ j, j < nb → wr.cell? ⟨q, o + j, none⟩ = some (B (cm.getD j 0)) := fun j hj => (hbl.cell (p := ⟨q, o + j, none⟩) hqb).trans (HCE.out j hj)
      obtain ⟨f, hf⟩ : ∃ f, 3 + 3 * k = f := ⟨_, rfl⟩
      have hfl : f + 3 ≤ nb := by omega
      have j0 : wr.cell? ⟨q, o + f, none⟩ = some (.int .u8 (y0 : Int)) := by rw [← hy0, hf]; exact hcw f (by omega)
      have j1 : wr.cell? ⟨q, o + f + 1, none⟩ = some (.int .u8 (y1 : Int)) := by rw [← hy1, hf]; exact hcw (f + 1) (by omega)
      have j2 : wr.cell? ⟨q, o + f + 2, none⟩ = some (.int .u8 (y2 : Int)) := by rw [← hy2, hf]; exact hcw (f + 2) (by omega)
      obtain ⟨x, hx⟩ : ∃ x, be24 cm (3 + 3 * k) = x := ⟨_, rfl⟩
      have hxv : 256 * (256 * y0 + y1) + y2 = x := by rw [← hx, ← hy0, ← hy1, ← hy2]; rfl
      have hor1 := or_hi16 y0 y1 hy0l hy1l
      obtain ⟨y01, hy01⟩ : ∃ y, 256 * y0 + y1 = y := ⟨_, rfl⟩
      have hor2 := or_hi8 y01 y2 (by omega) hy2l
      rw [hy01] at hor1 hxv
      rw [hxv] at hor2
      have hv0 : IntKind.i64.wrap (y0 : Int) = y0 := IntWalk.i64_in _ (by omega)
      have hv1 : IntKind.i64.wrap (y1 : Int) = y1 := IntWalk.i64_in _ (by omega)
      have hv2 : IntKind.i64.wrap (y2 : Int) = y2 := IntWalk.i64_in _ (by omega)
      have hv3 : IntKind.i64.wrap ((y0 : Int) * 65536) = (y0 : Int) * 65536 := IntWalk.i64_in _ (by omega)
      have hv4 : IntKind.i64.wrap ((y1 : Int) * 256) = (y1 : Int) * 256 := IntWalk.i64_in _ (by omega)
      obtain ⟨N1, hN1⟩ : ∃ N1, nb - f = N1 := ⟨_, rfl⟩
      obtain ⟨C1, hC1⟩ : ∃ C1, c - f = C1 := ⟨_, rfl⟩
      have hin0 : (0 : Int) < (N1 : Int) := by omega
      have hinA : (1 : Int) < (N1 : Int) := by omega
      have hinB : (2 : Int) < (N1 : Int) := by omega
      have hxl : x < 16777216 := by omega
      have HX := Lib.hid hx
      have HL := Lib.hid hL
      have HO := Lib.hid hO
      have HBL := Lib.hid hbl
      clear hcw hx hxv hy0 hy1 hy2 hL hO hbl
      go_wp2_with fail
      rw [hf, hN1, hC1]
      go_quiet (fail)
      obtain ⟨Y1, hY1⟩ : ∃ Y1, wr.drewN nq = Y1 := ⟨_, rfl⟩
      have hbY : Below wr.heap.size wr Y1 := by rw [← hY1]; exact below_drewN (Below.refl _ _) _
      have hbs : base ≤ wr.heap.size := by have := HBL.out.size; rw [HBA.out] at this; exact this
      have hbwY : Below base w Y1 := HBL.out.trans (hbY.mono hbs)
      rw [hY1]
      have hWY := HW.out.below (by rw [HBA.out]; exact hbwY)
      have HH := Lib.hid (whas_any Y1 p g s log down D hWY (x : Int))
      have HBY := Lib.hid hbY
      have HWY := Lib.hid hWY
      clear hY1 hor1 hor2 hv0 hv1 hv2 hv3 hv4 hbY hbwY hWY j0 j1 j2
      obtain ⟨nn, hnn⟩ : ∃ nn, nbl s log = nn := ⟨_, rfl⟩
      rw [hnn] at HH
      have HNN := Lib.hid hnn
      by_cases hin : x < nn
      · have hib : (decide (0 ≤ (x : Int)) && decide ((x : Int) < (nn : Int))) = true := by simp; omega
        rw [hib] at HH
        obtain ⟨bs, hbsv⟩ : ∃ bs, cur s.L s.c (1 + k) = bs := ⟨_, rfl⟩
        have hbsl : bs.length = nb := by rw [← hbsv, ← HNB.out]; exact HOK.out.curLen _
        have HYES : Hid (chsTo s log cm (k + 1) = chsTo s log cm k ++ [((x : Int), bs)]) := by
          show _ = _
          rw [chsTo_yes s log cm k (by rw [HX.out]; show x < nbl s log; rw [HNN.out]; exact hin), HX.out, hbsv]
        have hrd : s.read (1 + (k : Int)) = (bs, 0) := by
          rw [← hbsv, ← read_up s HOK.out hu (1 + k) (by omega)]
          rfl
        go_wp2_with fail
        refine HH.out.mono ?_
        rintro e Y2 ⟨rfl, k2, rfl⟩
        obtain ⟨Y2, hY2⟩ : ∃ Y2, Y1.drewN k2 = Y2 := ⟨_, rfl⟩
        have hbY2 : Below wr.heap.size wr Y2 := by rw [← hY2]; exact below_drewN HBY.out _
        have hbwY2 : Below base w Y2 := HBL.out.trans (hbY2.mono hbs)
        have hWY2 := HW.out.below (by rw [HBA.out]; exact hbwY2)
        have c0 := (wc_cells hWY2.row).1
        have HRE := Lib.hid (Read_any Y2 g s D hWY2.disk (1 + (k : Int)))
        rw [hrd] at HRE
        have HBY2 := Lib.hid hbY2
        have hszY : wr.heap.size ≤ Y2.heap.size := hbY2.size
        rw [hY2]
        clear hY2 hbY2 hbwY2 hWY2 hrd hib hbsv
        go_wp2_with fail
        refine HRE.out.mono ?_
        rintro e w3 ⟨v, rfl, hrv, hb3⟩
        rcases hrv with ⟨_, hv⟩ | ⟨rfl, hkb⟩
        · have hv' : bs = [] := hv
          rw [hv'] at hbsl
          simp at hbsl
          omega
        · obtain ⟨z, hz⟩ : ∃ z, Y2.heap.size = z := ⟨_, rfl⟩
          have hkb' : Blk w3 z 5 bs := by rw [← hz]; exact hkb
          have hbw3 : Below wr.heap.size wr w3 := HBY2.out.trans (hb3.mono hszY)
          have hO3 := HO.out.keep hbw3
          have hs3 := hb3.size
          obtain ⟨X, hX⟩ : ∃ X, w3.alloc (.cells (trC ((x : Int), z, bs)).toArray 169) = X := ⟨_, rfl⟩
          have hzo : u7.ownBlock ≠ some z := fun e => by
            rcases HO.out.own.2 with ⟨e1, _⟩ | ⟨g', cap, cur, e1, _, hg', _⟩
            · rw [e1] at e; cases e
            · rw [e1] at e
              have : g' = z := by simpa [Value.ownBlock] using e
              have := (Array.getElem?_eq_some_iff.1 hg').1
              omega
          have hLlen : L.length ≤ 1000000 := by
            have h1 := congrArg List.length HL.out
            rw [List.length_map] at h1
            have h2 := chsTo_len s log cm k
            omega
          obtain ⟨v', w4, hrun, hO4, hb4⟩ := hO3.app (by omega) hLlen ((x : Int), z, bs) hkb' (by show base ≤ z; omega) hzo (by show _ ≤ (x : Int) ∧ (x : Int) ≤ _; omega) X hX
          have hX' : w3.alloc (.cells #[.int .i64 (x : Int), .slice (some ⟨z, 0, none⟩) nb nb] 169) = X := by rw [← hX]; simp [trC, hbsl]
          obtain ⟨z3, hz3⟩ : ∃ z3, w3.heap.size = z3 := ⟨_, rfl⟩
          rw [hz3] at hrun
          have HRUN := Lib.hid hrun
          have HO4 := Lib.hid hO4
          have HB4 : Hid (Below base w w4) := (HBL.out.trans (hbw3.mono hbs)).trans hb4
          have hl0 : (bs, (0 : Int)).1.length = nb := hbsl
          rw [hz, hl0]
          clear hrun hO4 hb4 hO3 hbw3 hb3 hkb hkb' hX hzo hl0 hbsl
          go_wp2_with (at_builtin; refine wpList_run_appT _ rfl (.tmp 70) (.tmp 74) 115 rfl _ _ _ _ rfl rfl HRUN.out ?_)
          go_roundw
          case rel => exact ⟨k + 1, by omega, by go_num, ⟨L ++ [((x : Int), z, bs)], by rw [List.map_append, HL.out, HYES.out]; rfl, HO4.out⟩, HB4.out⟩
          case measure => simp [RowKit.intOf]; omega
      · have hib : (decide (0 ≤ (x : Int)) && decide ((x : Int) < (nn : Int))) = false := by simp; omega
        rw [hib] at HH
        have HNO : Hid (chsTo s log cm (k + 1) = chsTo s log cm k) := chsTo_no s log cm k (by rw [HX.out]; show ¬ x < nbl s log; rw [HNN.out]; exact hin)
        clear hib
        go_wp2_with fail
        refine HH.out.mono ?_
        rintro e Y2 ⟨rfl, k2, rfl⟩
        have HB2 := Lib.hid (below_drewN HBY.out k2)
        go_wp2
        go_roundw
        case rel => exact ⟨k + 1, by omega, by go_num, ⟨L, by rw [HNO.out]; exact HL.out, HO.out.keep HB2.out⟩, HBL.out.trans (HB2.out.mono hbs)⟩
        case measure => simp [RowKit.intOf]; omega
    · obtain rfl : k = m := by omega
      obtain ⟨A', c', rfl, hch⟩ := hO.chs
      rw [hL, HC.out] at hch
      have HCH := Lib.hid hch
      have HBL := Lib.hid hbl
      clear hch hL hO hbl
      go_wp2
      go_ret2
      exact ⟨A', _, c', rfl, HCH.out, HBL.out⟩
end Go.Proofs.YtephmcbofcfpmaaGreat

set_option maxRecDepth 8000
set_option linter.unusedSimpArgs false
set_option linter.unusedVariables false
namespace Go.Dk
open Go.RowKit Go.Bs
/-- what an opening does to the disk. -/
def S.redo (s : S) (log : Nat) : S × Int :=
  if s.up = false then (s, 50) else if (cur s.L s.c 0).getD 0 0 ≠ 1 then (s, 0) else S.all (Go.Proofs.YtephmcbofcfpmaaGreat.finL log (chs s log (cur s.L s.c 0))) s
theorem chsTo_mem {s : S} {log : Nat} {cm : List UInt8} {k : Nat} {t : Ch} (h : t ∈ chsTo s log cm k) : ∃ j, j < k ∧ be24 cm (3 + 3 * j) < s.sectors - 1 - log ∧ t = ((be24 cm (3 + 3 * j) : Int), cur s.L s.c (1 + j)) := by
  unfold chsTo at h
  obtain ⟨j, hj, e⟩ := List.mem_filterMap.1 h
  unfold chN at e
  split at e
  · rename_i hb
    exact ⟨j, List.mem_range.1 hj, hb, (Option.some.inj e).symm⟩
  · cases e
theorem chAt_mem {l : List Ch} {j : Nat} (hj : j < l.length) : chAt l j ∈ l := by
  simp [chAt, List.getD, List.getElem?_eq_getElem hj]
end Go.Dk
namespace Go.Proofs.YtephmcbofcfpmaaGreat
open Go.RowKit Go.Bs Go.Dk

theorem chs_may {s : S} (hok : s.Ok) (log : Nat) (cm : List UInt8) : MayC log (chs s log cm).length (chs s log cm) := by
  refine ⟨Nat.le_trans (chsTo_len s log cm _) (Nat.min_le_right _ _), fun j hj => ?_, fun j hj => ?_⟩
  · obtain ⟨i, _, _, e⟩ := chsTo_mem (chAt_mem hj)
    rw [show chAt (chs s log cm) j = _ from e]
    have := hok.curLen (1 + i)
    have := hok.b1
    show (cur s.L s.c (1 + i)).length ≤ 100000
    omega
  · obtain ⟨i, _, hb, e⟩ := chsTo_mem (chAt_mem hj)
    rw [show chAt (chs s log cm) j = _ from e]
    have := hok.s1
    constructor
    · show (0 : Int) ≤ (be24 cm (3 + 3 * i) : Int); omega
    · show (be24 cm (3 + 3 * i) : Int) < 65536; omega
set_option maxHeartbeats 2000000 in
theorem redo_set (w : World) (p g : Nat) (s : S) (log : Nat) (down : Bool) (D : Nat → Prop) (h : WalAt w p g s log down D) (hf : s.Fine) (hd : s.deeds + 4 * (log + 1) < 900000) (hu : s.up = true) (h1 : (cur s.L s.c 0).getD 0 0 = 1) :
    Calls Tryz.prog 102 #[.pointer (some ⟨p, 0, none⟩)] w fun e w' => e = .returned (.int .i64 (S.all (finL log (chs s log (cur s.L s.c 0))) s).2) ∧ Wd D p g (S.all (finL log (chs s log (cur s.L s.c 0))) s).1 log down w w' := by
  have HW := Lib.hid h
  have HF := Lib.hid hf
  have x2 := (wc_cells h.row).1
  have HR := Lib.hid (Read_any w g s D h.disk 0)
  have hlen := h.disk.ok.curLen 0
  have hb0 := h.disk.ok.b0
  have hlog : log ≤ 65536 := by have := h.l1; have := h.disk.ok.s1; omega
  have HM := Lib.hid (chs_may h.disk.ok log (cur s.L s.c 0))
  have hrd : s.read 0 = (cur s.L s.c 0, 0) := read_up s h.disk.ok hu 0 (by have := h.l1; omega)
  rw [hrd] at HR
  obtain ⟨bs, hbs⟩ : ∃ bs, cur s.L s.c 0 = bs := ⟨_, rfl⟩
  rw [hbs] at HR hlen h1 HM ⊢
  obtain ⟨l, hl⟩ : ∃ l, chs s log bs = l := ⟨_, rfl⟩
  rw [hl] at HM ⊢
  obtain ⟨R, hR⟩ : ∃ R, S.all (finL log l) s = R := ⟨_, rfl⟩
  rw [hR]
  have HRR := Lib.hid hR
  have HL := Lib.hid hl
  have hpl := (Array.getElem?_eq_some_iff.1 h.row).1
  clear h hrd hbs hR hf hl
  go_enter Tryz.func102, Tryz.ntmps102
  go_wp2_with fail
  refine HR.out.mono ?_
  rintro e w1 ⟨v, rfl, hrv, hbl⟩
  have HB := Lib.hid hbl
  rcases hrv with ⟨_, hv⟩ | ⟨rfl, hk⟩
  · have hv' : bs = [] := hv
    rw [hv'] at hlen
    simp at hlen
    omega
  · have hk' : Blk w1 w.heap.size 5 bs := hk
    have hc := Blk.cell (bs := bs) hk 0 (by rw [hlen]; omega)
    rw [h1] at hc
    have hl2 : (bs, (0 : Int)).1.length = s.bytes := hlen
    rw [hl2]
    obtain ⟨z, hz⟩ : ∃ z, w.heap.size = z := ⟨_, rfl⟩
    rw [hz] at hc hk' ⊢
    have hc' : w1.cell? ⟨z, 0, none⟩ = some (.int .u8 1) := hc
    have hrdC : Rd w1 (some ⟨z, 0, none⟩) s.bytes s.bytes bs := hk'.all' _ _ hlen (Nat.le_refl _)
    have HCO := Lib.hid (changesOf_any w1 p g s log down D (HW.out.below hbl) hu _ _ bs hrdC)
    rw [HL.out] at HCO
    obtain ⟨nb, hnb⟩ : ∃ nb, s.bytes = nb := ⟨_, rfl⟩
    have HNB := Lib.hid hnb
    rw [hnb] at hb0 HCO ⊢
    have HZ := Lib.hid hz
    clear hbl hk hl2 hlen hc hz h1 hk' hrdC hnb
    go_wp2_with fail
    refine HCO.out.mono ?_
    rintro e w2 ⟨A', n', c', rfl, hch, hb2⟩
    have hbT : Below w.heap.size w w2 := bstep HB.out hb2
    have HFI := Lib.hid (finish_any w2 p g s log down D (HW.out.below hbT) A' n' c')
    have HCH := Lib.hid hch
    have HB2 := Lib.hid hb2
    have HBT := Lib.hid hbT
    clear hch hb2 hbT
    go_wp2_with fail
    refine HFI.out.mono ?_
    rintro e w3 ⟨q, b1, b2, rfl, hb3, hq, hq1, hq2, hrow, y1, y2⟩
    have hbT3 : Below w.heap.size w w3 := bstep HBT.out hb3
    have hcl := HCH.out.len
    have hDl : ∀ k, D k → k < w2.heap.size := fun k hk => (HW.out.below HBT.out).disk.lt k hk
    have hKD : ∀ k, (w1.heap.size ≤ k ∧ k < w2.heap.size) → ¬ D k := fun k hk hd => by have := (HW.out.below HB.out).disk.lt k hd; omega
    have HDO := Lib.hid (do_all w3 p g s log down D (HW.out.below hbT3) HF.out (finL log l) 4 (n' + 1) rfl (by omega) (by have := HM.out.le; omega) (finL_good log l (n' + 1) (by omega)) q 4 fnF (fbF g p) (cpF b1 b2)
      (fun j hj => by
        rw [cell_of_row w3 q j _ 51 (0, 0) hrow]
        match j, hj with
        | 0, _ => rfl
        | 1, _ => rfl
        | 2, _ => rfl
        | 3, _ => rfl)
      (fun hd => by have := hDl q hd; omega) entF
      (fin_step w3 p g s log down D A' n' c' l _ (HCH.out.below hb3) hKD (by rw [← hcl]; exact HM.out) hlog b1 b2 y1 y2 (fun hd => by have := hDl b1 hd; omega) (fun hd => by have := hDl b2 hd; omega) (n' + 1) (Nat.le_refl _)))
    rw [HRR.out] at HDO
    have HB3 := Lib.hid hbT3
    clear hb3 hq hq1 hq2 hrow y1 y2 hbT3 hcl hDl hKD
    go_wp2_with fail
    refine HDO.out.mono ?_
    rintro e w4 ⟨rfl, D4, k1, k2, k3⟩
    have K1 := Lib.hid k1
    have K2 := Lib.hid k2
    have K3 := Lib.hid k3
    clear k1 k2 k3
    go_wp2
    go_ret
    refine ⟨rfl, D4, K1.out, fun k hk => ?_, (Fr.of HB3.out).trans K3.out⟩
    rcases K2.out k hk with h | h
    · exact .inl h
    · exact .inr (Nat.le_trans HB3.out.size h)
theorem redo_any (w : World) (p g : Nat) (s : S) (log : Nat) (down : Bool) (D : Nat → Prop) (h : WalAt w p g s log down D) (hf : s.Fine) (hd : s.deeds + 4 * (log + 1) < 900000) :
    Calls Tryz.prog 102 #[.pointer (some ⟨p, 0, none⟩)] w fun e w' => e = .returned (.int .i64 (s.redo log).2) ∧ Wd D p g (s.redo log).1 log down w w' := by
  unfold S.redo
  by_cases hu : s.up = false
  · rw [if_pos hu]
    exact redo_dn w p g s log down D h hu
  · rw [if_neg hu]
    have hu' : s.up = true := by simpa using hu
    by_cases h1 : (cur s.L s.c 0).getD 0 0 = 1
    · rw [if_neg (fun e => e h1)]
      exact redo_set w p g s log down D h hf hd hu' h1
    · rw [if_pos h1]
      exact redo_un w p g s log down D h hu' h1
/-- Open. -/
theorem Open_any (w : World) (g : Nat) (s : S) (D : Nat → Prop) (h : DiskAt w g s D) (hf : s.Fine) (log : Nat) (hm : may s log = true) (hd : s.deeds + 4 * (log + 1) < 900000) :
    Calls Tryz.prog 53 #[.pointer (some ⟨g, 0, none⟩), .int .i64 (log : Int)] w fun e w' => ∃ v, e = .returned (.tuple #[v, .int .i64 (s.redo log).2]) ∧ Opened w D g log (s.redo log) v w' :=
  Open_yes w g s D h log hm (s.redo log) fun W p hW => redo_any W p g s log false D hW hf hd
end Go.Proofs.YtephmcbofcfpmaaGreat

