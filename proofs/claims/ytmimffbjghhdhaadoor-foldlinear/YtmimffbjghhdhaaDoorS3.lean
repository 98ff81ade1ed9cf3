/- spread. Conditions: none. -/
import Derived.Test.YtmimffbjghhdhaaDoorS2
import Derived.StillTailTactics
import Derived.Deep.QuietTactic
import Derived.BigQuiet
import Derived.Great.Walk
namespace Go.Proofs.YtmimffbjghhdhaaDoor
open Go.RowKit Go.Bs Go.Sha

def A64 : Array Value := ((List.replicate 64 0).map U).toArray
def O64 : Obj := .cells A64 58 (0, 0)
/-- as many words as are made, noughts behind them. -/
def filled (bs : List UInt8) (t : Nat) : List Nat := sched bs t ++ List.replicate (64 - t) 0
theorem filled_length (bs : List UInt8) (t : Nat) (h : t ≤ 64) : (filled bs t).length = 64 := by simp [filled, sched_length]; omega
theorem filled_getD (bs : List UInt8) (t k : Nat) (h : k < t) : (filled bs t).getD k 0 = (sched bs t).getD k 0 := by
  unfold filled
  simp [List.getD, List.getElem?_append_left (show k < (sched bs t).length by rw [sched_length]; exact h)]
theorem filled_set (bs : List UInt8) (t : Nat) (h : t < 64) : (filled bs t).set t ((sched bs (t + 1)).getD t 0) = filled bs (t + 1) := by
  unfold filled
  have hl := sched_length bs t
  rw [List.set_append_right _ _ (by omega), hl, Nat.sub_self, show 64 - t = (64 - (t + 1)) + 1 by omega, List.replicate_succ, List.set_cons_zero]
  have e : (sched bs (t + 1)).getD t 0 = if t < 16 then wordN bs (4 * t) else next (sched bs t) t := by
    rw [sched]
    simp [List.getD, List.getElem?_append_right (show (sched bs t).length ≤ t by omega), hl]
  rw [e, sched, List.append_assoc]
  rfl

theorem U_one (xs : List Nat) : (xs.map U).toArray.all (·.oneCell') = true := by
  rw [Array.all_eq_true_iff_forall_mem]
  intro v hv
  obtain ⟨x, _, rfl⟩ := List.mem_map.1 (by simpa using hv)
  rfl
theorem alloc67 (w : World) : (Instr.alloc 58 true (.tuple #[])).run Tryd.prog w = .ok (.pointer (some ⟨w.heap.size, 0, none⟩)) (w.alloc O64) := by kernel_rfl
theorem build67 (w : World) : (Instr.build 58 #[]).run Tryd.prog w = .ok (.agg A64) w := by kernel_rfl
theorem wl_alloc67 {ops : Array Oper} {rest : List Oper} {d : Tmp} {ty : TypeId} {pos : String} {after : Array Edge} {a : Act} {w : World} {Q : Exit → Act → World → Prop}
    (h : wpList Tryd.prog ops Q rest (a.put (some d) (.pointer (some ⟨w.heap.size, 0, none⟩))) (w.alloc O64)) : wpList Tryd.prog ops Q (⟨some d, .alloc 58, ty, pos, after, none⟩ :: rest) a w :=
  Great.wpList_runTo rfl (some d) rfl _ _ (by simp [execOp, alloc67]) h
theorem wl_build67 {ops : Array Oper} {rest : List Oper} {d : Tmp} {ty : TypeId} {pos : String} {after : Array Edge} {a : Act} {w : World} {Q : Exit → Act → World → Prop}
    (h : wpList Tryd.prog ops Q rest (a.put (some d) (.agg A64)) w) : wpList Tryd.prog ops Q (⟨some d, .build 58 #[], ty, pos, after, none⟩ :: rest) a w :=
  Great.wpList_runTo rfl (some d) rfl _ _ (by simp [execOp, build67]) h

theorem wl_loadRow {ops : Array Oper} {rest : List Oper} {d : Tmp} {ty0 : TypeId} {pos : String} {after : Array Edge} {a : Act} {w : World} {Q : Exit → Act → World → Prop} {ty : TypeId} {x : Operand} {g : Nat} {v : Value}
    (hx : a.eval x = .pointer (some ⟨g, 0, none⟩)) (hl : (loadVar ty ⟨g, 0, none⟩).run Tryd.prog w = .ok v w)
    (h : wpList Tryd.prog ops Q rest (a.put (some d) v) w) : wpList Tryd.prog ops Q (⟨some d, .load ty x, ty0, pos, after, none⟩ :: rest) a w :=
  Great.wpList_runTo rfl (some d) rfl _ _ (by simp [execOp, Instr.loadAt, Instr.sureAddr, hx, hl]) h
theorem or_add (a b k : Nat) (ha : a < 2 ^ k) (hb : 2 ^ k * b + a < 4294967296) : bits .or .u32 ((2 ^ k * b : Nat) : Int) (a : Int) = ((2 ^ k * b + a : Nat) : Int) := by
  rw [u32_or_nat _ _ (by omega) (by omega), Nat.two_pow_add_eq_or_of_lt ha]
theorem word_or (x0 x1 x2 x3 : UInt8) : bits .or .u32 (bits .or .u32 (bits .or .u32 (IntKind.u32.wrap (IntKind.u32.wrap (x0.toNat : Int) * 16777216)) (IntKind.u32.wrap (IntKind.u32.wrap (x1.toNat : Int) * 65536))) (IntKind.u32.wrap (IntKind.u32.wrap (x2.toNat : Int) * 256))) (IntKind.u32.wrap (x3.toNat : Int))
    = ((16777216 * x0.toNat + 65536 * x1.toNat + 256 * x2.toNat + x3.toNat : Nat) : Int) := by
  have h0 := x0.toNat_lt
  have h1 := x1.toNat_lt
  have h2 := x2.toNat_lt
  have h3 := x3.toNat_lt
  have e0 : IntKind.u32.wrap (IntKind.u32.wrap (x0.toNat : Int) * 16777216) = ((2 ^ 24 * x0.toNat : Nat) : Int) := by rw [IntKind.wrap_u32', IntKind.wrap_u32']; omega
  have e1 : IntKind.u32.wrap (IntKind.u32.wrap (x1.toNat : Int) * 65536) = ((65536 * x1.toNat : Nat) : Int) := by rw [IntKind.wrap_u32', IntKind.wrap_u32']; omega
  have e2 : IntKind.u32.wrap (IntKind.u32.wrap (x2.toNat : Int) * 256) = ((256 * x2.toNat : Nat) : Int) := by rw [IntKind.wrap_u32', IntKind.wrap_u32']; omega
  have e3 : IntKind.u32.wrap (x3.toNat : Int) = ((x3.toNat : Nat) : Int) := by rw [IntKind.wrap_u32']; omega
  rw [e0, e1, e2, e3, or_add (65536 * x1.toNat) x0.toNat 24 (by omega) (by omega)]
  rw [show 2 ^ 24 * x0.toNat + 65536 * x1.toNat = 2 ^ 16 * (256 * x0.toNat + x1.toNat) by omega, or_add (256 * x2.toNat) _ 16 (by omega) (by omega)]
  rw [show 2 ^ 16 * (256 * x0.toNat + x1.toNat) + 256 * x2.toNat = 2 ^ 8 * (65536 * x0.toNat + 256 * x1.toNat + x2.toNat) by omega, or_add x3.toNat _ 8 (by omega) (by omega)]

theorem next_sum (x u y v : Nat) (hx : x < 4294967296) (hy : y < 4294967296) :
    IntKind.u32.wrap (IntKind.u32.wrap (IntKind.u32.wrap (bits .xor .u32 (bits .xor .u32 ((x : Int) / 1024) (rotr x 17 : Nat)) (rotr x 19 : Nat) + (u : Int)) + bits .xor .u32 (bits .xor .u32 ((y : Int) / 8) (rotr y 7 : Nat)) (rotr y 18 : Nat)) + (v : Int))
      = (((ss1 x + u + ss0 y + v) % 4294967296 : Nat) : Int) := by
  have e1 := xor3 (x / 1024) (rotr x 17) (rotr x 19) (div_lt' hx) (rotr_lt _ _ hx (by omega)) (rotr_lt _ _ hx (by omega))
  have e2 := xor3 (y / 8) (rotr y 7) (rotr y 18) (div_lt' hy) (rotr_lt _ _ hy (by omega)) (rotr_lt _ _ hy (by omega))
  rw [show ((x : Int) / 1024) = ((x / 1024 : Nat) : Int) from rfl, show ((y : Int) / 8) = ((y / 8 : Nat) : Int) from rfl, e1, e2, IntKind.wrap_u32', IntKind.wrap_u32', IntKind.wrap_u32']
  show _ = (((ss1 x + u + ss0 y + v) % 4294967296 : Nat) : Int)
  have f1 : x / 1024 ^^^ rotr x 17 ^^^ rotr x 19 = ss1 x := rfl
  have f2 : y / 8 ^^^ rotr y 7 ^^^ rotr y 18 = ss0 y := rfl
  rw [f1, f2]
  omega

set_option maxRecDepth 100000 in
set_option maxHeartbeats 2000000 in
theorem spread_any (A : Option Addr) (c : Nat) (bs : List UInt8) (w : World) (h : Rd w A 64 c bs) (hc : c ≤ 9223372036854775807) :
    Calls Tryd.prog 43 #[.slice A 64 c] w fun e w' => e = .returned (.agg ((sched bs 64).map U).toArray) ∧ Below w.heap.size w w' := by
  have h64 := h.cap
  have HR := Lib.hid h
  obtain ⟨g0, o, rfl, hg0, hcc⟩ := h.cells (by omega)
  clear h hcc
  obtain ⟨W, hW⟩ : ∃ W, (w.alloc O64).alloc O64 = W := ⟨_, rfl⟩
  have HB1 : Hid (BlkU W w.heap.size 58 (List.replicate 64 0) ∧ BlkU W (w.heap.size + 1) 58 (filled bs 0) ∧ Below w.heap.size w W) := by
    rw [← hW]
    refine ⟨?_, ?_, ((Below.refl _ _).alloc (Nat.le_refl _) _).alloc (by simp) _⟩
    · exact (BlkU.new w 58 _).keep ((Below.refl _ _).alloc (Nat.le_refl _) _) (by simp)
    · have e : (w.alloc O64).heap.size = w.heap.size + 1 := by simp
      rw [← e]
      exact heap_alloc_new (w.alloc O64) _
  obtain ⟨g, hg⟩ : ∃ g, w.heap.size = g := ⟨_, rfl⟩
  rw [hg] at HB1
  have hrow : W.heap[g + 1]? = some (.cells A64 58 (0, 0)) := HB1.out.2.1
  have hz : A64.size = 64 := rfl
  have hst : (storeCells ⟨g + 1, 0, none⟩ A64.toList).run Tryd.prog W = .ok () W := by
    rw [stC (P := Tryd.prog) W (g + 1) 58 64 A64 A64 hrow rfl rfl (U_one _), setRow_self W (g + 1) A64 58 _ hrow]
  have HG := Lib.hid hg
  clear hrow
  go_enter Tryd.func43, Tryd.ntmps43
  go_wp2_with (first | with_reducible refine wl_alloc67 ?_ | with_reducible refine wl_build67 ?_)
  clear hst hz hW
  go_loopw [10] (fun i wr => ∃ t : Nat, t ≤ 16 ∧ i = .int .i64 t ∧ BlkU wr g 58 (List.replicate 64 0) ∧ BlkU wr (g + 1) 58 (filled bs t) ∧ Below g w wr) (fun i _ => 16 - (intOf i).toNat)
  case atStart => exact ⟨0, Nat.zero_le _, rfl, HB1.out⟩
  case round =>
    obtain ⟨t, ht, rfl, hB0, hB, hG⟩ := hrel
    have HGG := Lib.hid hG
    have HB := Lib.hid hB
    have HB0 := Lib.hid hB0
    by_cases hlt : t < 16
    · have hcell := hB.cell t (by rw [filled_length _ _ (by omega)]; omega)
      have hfz := hB.frozen t
      obtain ⟨y, hy⟩ : ∃ y, (filled bs t).getD t 0 = y := ⟨_, rfl⟩
      rw [hy] at hcell
      clear hy hB hB0 hG
      obtain ⟨g0', o', e', _, hc0⟩ := (HR.out.keep (by rw [HG.out]; exact HGG.out)).cells (by omega)
      injection e' with e'
      injection e' with e1 e2
      subst e1 e2
      have c0 := hc0 (4 * t) (by omega)
      have c1 := hc0 (4 * t + 1) (by omega)
      have c2 := hc0 (4 * t + 2) (by omega)
      have c3 := hc0 (4 * t + 3) (by omega)
      rw [← Nat.add_assoc] at c1 c2 c3
      have HWO : Hid ((sched bs (t + 1)).getD t 0 = wordN bs (4 * t)) := by
        show (sched bs (t + 1)).getD t 0 = wordN bs (4 * t)
        rw [sched, if_pos hlt]
        simp [List.getD, List.getElem?_append_right (show (sched bs t).length ≤ t by rw [sched_length]; exact Nat.le_refl _), sched_length]
      unfold wordN at HWO
      obtain ⟨x0, hx0⟩ : ∃ x, bs.getD (4 * t) 0 = x := ⟨_, rfl⟩
      obtain ⟨x1, hx1⟩ : ∃ x, bs.getD (4 * t + 1) 0 = x := ⟨_, rfl⟩
      obtain ⟨x2, hx2⟩ : ∃ x, bs.getD (4 * t + 2) 0 = x := ⟨_, rfl⟩
      obtain ⟨x3, hx3⟩ : ∃ x, bs.getD (4 * t + 3) 0 = x := ⟨_, rfl⟩
      rw [hx0] at c0 HWO
      rw [hx1] at c1 HWO
      rw [hx2] at c2 HWO
      rw [hx3] at c3 HWO
      have HOR := Lib.hid (word_or x0 x1 x2 x3)
      clear hx0 hx1 hx2 hx3
      have hb64 : (t : Int) < 64 := by omega
      have q1 : IntKind.i64.wrap (4 * (t : Int)) = 4 * (t : Int) := IntWalk.i64_in _ (by omega)
      have q2 : IntKind.i64.wrap (4 * (t : Int) + 4) = 4 * (t : Int) + 4 := IntWalk.i64_in _ (by omega)
      clear hc0
      go_wp2
      go_still_tail 24, (by kernel_rfl)
      simp only [HOR.out, ← HWO.out]
      obtain ⟨V, hV⟩ : ∃ V, (sched bs (t + 1)).getD t 0 = V := ⟨_, rfl⟩
      have HV := Lib.hid hV
      simp only [hV]
      clear hV
      change wpList _ _ _ _ _ wr.drew
      go_wp2
      go_roundw
      case rel =>
        refine ⟨t + 1, by omega, by go_num, ?_, ?_, ?_⟩
        · exact HB0.out.drew.other _ _ (by omega)
        · rw [← filled_set bs t (by omega), HV.out]
          exact HB.out.drew.set _ _
        · exact HGG.out.drew.setCell (by show g ≤ g + 1; omega) _
      case measure => simp [intOf]; omega
    · obtain rfl : t = 16 := by omega
      clear hB hB0 hG
      simp only [show ((16 : Nat) : Int) = 16 from rfl]
      clear hlt ht
      go_wp2
      go_loopw [6] (fun i wr => ∃ t : Nat, 16 ≤ t ∧ t ≤ 64 ∧ i = .int .i64 t ∧ BlkU wr g 58 (List.replicate 64 0) ∧ BlkU wr (g + 1) 58 (filled bs t) ∧ Below g w wr) (fun i _ => 64 - (intOf i).toNat)
      case atStart => exact ⟨16, by omega, by omega, rfl, HB0.out, HB.out, HGG.out⟩
      case round =>
        clear HB0 HB HGG
        obtain ⟨t, ht16, ht, rfl, hB0, hB, hG⟩ := hrel
        have HGG := Lib.hid hG
        have HB := Lib.hid hB
        have HB0 := Lib.hid hB0
        by_cases hlt : t < 64
        · have hl := filled_length bs t ht
          have c2 := hB.cell (t - 2) (by omega)
          have c7 := hB.cell (t - 7) (by omega)
          have c15 := hB.cell (t - 15) (by omega)
          have c16 := hB.cell (t - 16) (by omega)
          have ct := hB.cell t (by omega)
          have hfz := hB.frozen t
          rw [filled_getD _ _ _ (by omega)] at c2 c7 c15 c16
          have HSL := Lib.hid (sched_lt bs t)
          have HN : Hid ((sched bs (t + 1)).getD t 0 = next (sched bs t) t) := by
            show (sched bs (t + 1)).getD t 0 = next (sched bs t) t
            rw [sched, if_neg (by omega)]
            simp [List.getD, List.getElem?_append_right (show (sched bs t).length ≤ t by rw [sched_length]; exact Nat.le_refl _), sched_length]
          unfold next at HN
          obtain ⟨x, hx⟩ : ∃ x, (sched bs t).getD (t - 2) 0 = x := ⟨_, rfl⟩
          obtain ⟨u, hu⟩ : ∃ x, (sched bs t).getD (t - 7) 0 = x := ⟨_, rfl⟩
          obtain ⟨y, hy⟩ : ∃ x, (sched bs t).getD (t - 15) 0 = x := ⟨_, rfl⟩
          obtain ⟨v, hv⟩ : ∃ x, (sched bs t).getD (t - 16) 0 = x := ⟨_, rfl⟩
          obtain ⟨z, hz⟩ : ∃ x, (filled bs t).getD t 0 = x := ⟨_, rfl⟩
          have hxM : x < 4294967296 := by rw [← hx]; exact getD_lt HSL.out _
          have huM : u < 4294967296 := by rw [← hu]; exact getD_lt HSL.out _
          have hyM : y < 4294967296 := by rw [← hy]; exact getD_lt HSL.out _
          have hvM : v < 4294967296 := by rw [← hv]; exact getD_lt HSL.out _
          rw [hx] at c2 HN
          rw [hu] at c7 HN
          rw [hy] at c15 HN
          rw [hv] at c16 HN
          rw [hz] at ct
          clear hx hu hy hv hz hB hB0 hG hl
          have q2 : IntKind.i64.wrap ((t : Int) - 2) = ((t - 2 : Nat) : Int) := by rw [IntWalk.i64_in _ (by omega)]; omega
          have q7 : IntKind.i64.wrap ((t : Int) - 7) = ((t - 7 : Nat) : Int) := by rw [IntWalk.i64_in _ (by omega)]; omega
          have q15 : IntKind.i64.wrap ((t : Int) - 15) = ((t - 15 : Nat) : Int) := by rw [IntWalk.i64_in _ (by omega)]; omega
          have q16 : IntKind.i64.wrap ((t : Int) - 16) = ((t - 16 : Nat) : Int) := by rw [IntWalk.i64_in _ (by omega)]; omega
          have b2 : ((t - 2 : Nat) : Int) < 64 := by omega
          have b7 : ((t - 7 : Nat) : Int) < 64 := by omega
          have b15 : ((t - 15 : Nat) : Int) < 64 := by omega
          have b16 : ((t - 16 : Nat) : Int) < 64 := by omega
          have bt : (t : Int) < 64 := by omega
          go_wp2
          go_quiet (fail)
          go_wp2
          obtain ⟨wq, hq⟩ : ∃ wq, wr.drewN nq = wq := ⟨_, rfl⟩
          replace c7 : wq.cell? ⟨g + 1, t - 7, none⟩ = some (U u) := by rw [← hq]; exact c7
          replace c16 : wq.cell? ⟨g + 1, t - 16, none⟩ = some (U v) := by rw [← hq]; exact c16
          replace ct : wq.cell? ⟨g + 1, t, none⟩ = some (U z) := by rw [← hq]; exact ct
          replace hfz : wq.frozen? ⟨g + 1, t, none⟩ = false := by rw [← hq]; exact hfz
          have HG2 : Hid (Below g w wq) := by rw [← hq]; exact drewK HGG.out _
          have HB2 : Hid (BlkU wq (g + 1) 58 (filled bs t)) := by rw [← hq]; exact HB.out
          have HB3 : Hid (BlkU wq g 58 (List.replicate 64 0)) := by rw [← hq]; exact HB0.out
          rw [hq]
          clear hq c2 c15
          refine wp_region_still_tail 29 (by kernel_rfl) (by kernel_rfl) ?_
          simp only [List.take_succ_cons, List.take_zero, List.drop_succ_cons, List.drop_zero]
          repeat still_step
          still_call (rot_st 17 17 rfl x hxM (by omega) (by omega) _)
          repeat still_step
          still_call (rot_st 19 19 rfl x hxM (by omega) (by omega) _)
          repeat still_step
          still_call (rot_st 7 7 rfl y hyM (by omega) (by omega) _)
          repeat still_step
          still_call (rot_st 18 18 rfl y hyM (by omega) (by omega) _)
          repeat still_step
          refine wpStill_nil ?_
          simp only [next_sum x u y v hxM hyM, ← HN.out]
          obtain ⟨V, hV⟩ : ∃ V, (sched bs (t + 1)).getD t 0 = V := ⟨_, rfl⟩
          have HV := Lib.hid hV
          simp only [hV]
          clear hV
          change wpList _ _ _ _ _ wq.drew
          go_wp2
          go_roundw
          case rel =>
            refine ⟨t + 1, by omega, by omega, by go_num, ?_, ?_, ?_⟩
            · exact HB3.out.drew.other _ _ (by omega)
            · rw [← filled_set bs t (by omega), HV.out]
              exact HB2.out.drew.set _ _
            · exact HG2.out.drew.setCell (by show g ≤ g + 1; omega) _
          case measure => simp [intOf]; omega
        · obtain rfl : t = 64 := by omega
          have e64 : filled bs 64 = sched bs 64 := by simp [filled]
          rw [e64] at hB
          obtain ⟨SC, hSC⟩ : ∃ SC : Array Value, ((sched bs 64).map U).toArray = SC := ⟨_, rfl⟩
          have hB' : wr.heap[g + 1]? = some (.cells SC 58 (0, 0)) := by rw [← hSC]; exact hB
          have hz : SC.size = 64 := by rw [← hSC]; simp [sched_length]
          have hld := run_loadVar_row (P := Tryd.prog) wr (g + 1) 58 58 SC (0, 0) _ hB' Tryd.underlying58 rfl (by rw [hz]; kernel_rfl)
          have hst := stC (P := Tryd.prog) wr g 58 64 SC _ hB0 hz rfl (by rw [← hSC]; exact U_one _)
          have hres := run_loadVar_row (P := Tryd.prog) (wr.setRow g SC) g 58 58 SC (0, 0) _ (setRow_heap wr g _ _ 58 _ hB0) Tryd.underlying58 rfl (by rw [hz]; kernel_rfl)
          obtain ⟨V, hV⟩ : ∃ V, wr.setRow g SC = V := ⟨_, rfl⟩
          have HBV : Hid (Below g w V) := by
            rw [← hV]
            exact below_row hG (Nat.le_refl _) (by have := hG.size; omega) _
          rw [hV] at hst hres
          have HSC := Lib.hid hSC
          clear hB' hSC hV hB hB0 hG e64 hlt ht ht16
          go_wp2_with ((with_reducible refine wl_loadRow (ty := 58) (x := .tmp 3) (g := g + 1) (v := .agg SC) ?hx hld ?_); (case hx => rfl))
          refine bodyPost_ret (v := .agg SC) (results_cell Tryd.results43 _ _ rfl hres) rfl ⟨by rw [← HSC.out], by rw [HG.out]; exact HBV.out⟩
end Go.Proofs.YtmimffbjghhdhaaDoor
