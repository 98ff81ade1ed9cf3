/- Pages in memory; what is asked of them without a change. Conditions: none. The map's bits in memory: asked, turned, the lowest that is 0. Conditions: none. -/
import Derived.Test.YtephmcbofcfpmaaGreatJ03
import Derived.Test.YtephmcbofcfpmaaGreatJ08
import Derived.StillTailTactics
import Derived.Deep.RegionHeld3
set_option maxRecDepth 8000
set_option linter.unusedSimpArgs false
set_option linter.unusedVariables false
namespace Go.Proofs.YtephmcbofcfpmaaGreat
open Go.RowKit Go.Bs Go.Dk Rp

theorem mixedP : Tryz.prog.follows .mixedOrders = true := by kernel_rfl
def pgr (q : Nat) (now : Value) : Array Value := #[.pointer (some ⟨q, 0, none⟩), now]
theorem pgr_cells {w : World} {pp q : Nat} {now : Value} (h : w.heap[pp]? = some (.cells (pgr q now) 106 (0, 0))) :
    w.cell? ⟨pp, 0, none⟩ = some (.pointer (some ⟨q, 0, none⟩)) ∧ w.cell? ⟨pp, 1, none⟩ = some now ∧ ∀ i, w.frozen? ⟨pp, i, none⟩ = false := by
  refine ⟨?_, ?_, fun i => by simp [World.frozen?, h]⟩ <;> (rw [cell_of_row w pp _ _ 106 (0, 0) h]; rfl)
theorem pgr_set {w : World} {pp q : Nat} {now : Value} (h : w.heap[pp]? = some (.cells (pgr q now) 106 (0, 0))) (v : Value) :
    (w.setCell ⟨pp, 1, none⟩ v).heap[pp]? = some (.cells (pgr q v) 106 (0, 0)) := by
  rw [setCell_eq_setRow w pp 1 _ 106 (0, 0) v h, setRow_heap w pp _ _ 106 _ h]
  rfl
theorem div_run (a b : Nat) (hb : 1 ≤ b) (ha : a ≤ 1000000000000) (W : World) : (Op.intDiv .quo .i64 (a : Int) (b : Int)).run Tryz.prog W = .ok (.int .i64 ((a / b : Nat) : Int)) W := by
  have h1 : ¬ (b = 0) := by omega
  have h0 : a / b ≤ a := Nat.div_le_self _ _
  have h2 : IntKind.i64.wrap ((a : Int) / (b : Int)) = (a : Int) / (b : Int) := by
    obtain ⟨q, hq⟩ : ∃ q, a / b = q := ⟨_, rfl⟩
    have e : (a : Int) / (b : Int) = (q : Int) := by rw [← hq]; simp
    rw [hq] at h0
    rw [e]
    exact IntWalk.i64_in _ (by omega)
  simp [Op.intDiv, h1, h2]
theorem rem_run (a b : Nat) (hb : 1 ≤ b) (ha : a ≤ 1000000000000) (W : World) : (Op.intDiv .rem .i64 (a : Int) (b : Int)).run Tryz.prog W = .ok (.int .i64 ((a % b : Nat) : Int)) W := by
  have h1 : ¬ (b = 0) := by omega
  have h2 : (a : Int).tmod (b : Int) = ((a % b : Nat) : Int) := rfl
  simp [Op.intDiv, h1, h2]
set_option maxHeartbeats 1000000 in
theorem rootBlock_any (w : World) (pp q g : Nat) (now : Value) (s : S) (log : Nat) (down : Bool) (D : Nat → Prop) (hp : w.heap[pp]? = some (.cells (pgr q now) 106 (0, 0))) (h : WalAt w q g s log down D) :
    Calls Tryz.prog 58 #[.pointer (some ⟨pp, 0, none⟩)] w fun e w' => e = .returned (.int .i64 (mapN (nbl s log) s.bytes : Int)) ∧ ∃ k, w' = w.drewN k := by
  obtain ⟨c0, _, _⟩ := pgr_cells hp
  have HS := Lib.hid (wSize_any w q g s log down D h)
  have hs1 := h.disk.ok.s1
  have hb0 := h.disk.ok.b0
  have hb1 := h.disk.ok.b1
  obtain ⟨n, hn⟩ : ∃ n, nbl s log = n := ⟨_, rfl⟩
  obtain ⟨b, hb⟩ : ∃ b, s.bytes = b := ⟨_, rfl⟩
  have hnl : n ≤ 65536 := by unfold nbl at hn; omega
  unfold mapN
  rw [hn, hb] at HS ⊢
  rw [hb] at hb0 hb1
  have HQ := Lib.hid (show ((n : Int) + 8 * (b : Int) - 1) / (8 * (b : Int)) = (((n + 8 * b - 1) / (8 * b) : Nat) : Int) by rw [show (n : Int) + 8 * (b : Int) - 1 = ((n + 8 * b - 1 : Nat) : Int) by omega, show 8 * (b : Int) = ((8 * b : Nat) : Int) by omega]; rfl)
  obtain ⟨r, hr⟩ : ∃ r, (n + 8 * b - 1) / (8 * b) = r := ⟨_, rfl⟩
  rw [hr] at HQ ⊢
  clear h hp hn hb hr hs1
  go_enter Tryz.func58, Tryz.ntmps58
  go_wp2_with fail
  refine HS.out.mono ?_
  rintro e w1 ⟨rfl, k, rfl⟩
  go_wp2
  go_ret
  exact ⟨congrArg (fun x => Ending.returned (.int .i64 x)) HQ.out, k, rfl⟩
set_option maxHeartbeats 1000000 in
theorem firstPage_any (w : World) (pp q g : Nat) (now : Value) (s : S) (log : Nat) (down : Bool) (D : Nat → Prop) (hp : w.heap[pp]? = some (.cells (pgr q now) 106 (0, 0))) (h : WalAt w q g s log down D) :
    Calls Tryz.prog 62 #[.pointer (some ⟨pp, 0, none⟩)] w fun e w' => e = .returned (.int .i64 ((mapN (nbl s log) s.bytes + 1 : Nat) : Int)) ∧ ∃ k, w' = w.drewN k := by
  have HR := Lib.hid (rootBlock_any w pp q g now s log down D hp h)
  have hb0 := h.disk.ok.b0
  have hs1 := h.disk.ok.s1
  have hm := mapN_le (nbl s log) s.bytes (by omega)
  obtain ⟨m, hm'⟩ : ∃ m, mapN (nbl s log) s.bytes = m := ⟨_, rfl⟩
  rw [hm'] at HR hm ⊢
  have hml : m ≤ 65536 := by unfold nbl at hm; omega
  have hw : IntKind.i64.wrap ((m : Int) + 1) = ((m + 1 : Nat) : Int) := by rw [IntWalk.i64_in _ (by omega)]; omega
  obtain ⟨m1, hm1⟩ : ∃ m1, m + 1 = m1 := ⟨_, rfl⟩
  rw [hm1] at hw ⊢
  clear h hp hm' hm hm1 hs1 hb0
  go_enter Tryz.func62, Tryz.ntmps62
  go_wp2_with fail
  refine HR.out.mono ?_
  rintro e w1 ⟨rfl, k, rfl⟩
  go_wp2
  go_ret
  exact ⟨rfl, k, rfl⟩
theorem pgr_drewN {w : World} {pp q : Nat} {now : Value} (h : w.heap[pp]? = some (.cells (pgr q now) 106 (0, 0))) (k : Nat) : (w.drewN k).heap[pp]? = some (.cells (pgr q now) 106 (0, 0)) := h
theorem WalAt.drewN {w : World} {p g : Nat} {s : S} {log : Nat} {down : Bool} {D : Nat → Prop} (h : WalAt w p g s log down D) (k : Nat) : WalAt (w.drewN k) p g s log down D := h.below (below_drewN (Below.refl _ _) k)
theorem pSize_nil (w : World) : Calls Tryz.prog 32 #[.pointer none] w fun e w' => e = .returned (.tuple #[.int .i64 0, .int .i64 0]) ∧ w = w' := by
  go_enter Tryz.func32, Tryz.ntmps32
  go_wp2
  go_ret2
  exact ⟨rfl, rfl⟩
set_option maxHeartbeats 1000000 in
theorem pSize_any (w : World) (pp q g : Nat) (now : Value) (s : S) (log : Nat) (down : Bool) (D : Nat → Prop) (hp : w.heap[pp]? = some (.cells (pgr q now) 106 (0, 0))) (h : WalAt w q g s log down D) :
    Calls Tryz.prog 32 #[.pointer (some ⟨pp, 0, none⟩)] w fun e w' => e = .returned (.tuple #[.int .i64 ((nbl s log : Int) - (mapN (nbl s log) s.bytes + 1 : Nat)), .int .i64 (s.bytes : Int)]) ∧ ∃ k, w' = w.drewN k := by
  obtain ⟨c0, _, _⟩ := pgr_cells hp
  have HS := Lib.hid (wSize_any w q g s log down D h)
  have HF := Lib.hid (fun k => firstPage_any (w.drewN k) pp q g now s log down D (pgr_drewN hp k) (h.drewN k))
  have hb0 := h.disk.ok.b0
  have hs1 := h.disk.ok.s1
  have hm := mapN_le (nbl s log) s.bytes (by omega)
  obtain ⟨n, hn⟩ : ∃ n, nbl s log = n := ⟨_, rfl⟩
  have hnl : n ≤ 65536 := by unfold nbl at hn; omega
  obtain ⟨b, hb⟩ : ∃ b, s.bytes = b := ⟨_, rfl⟩
  rw [hn, hb] at HS hm ⊢
  rw [hn, hb] at HF
  obtain ⟨m, hm'⟩ : ∃ m, mapN n b + 1 = m := ⟨_, rfl⟩
  have hml : m ≤ 65537 := by omega
  rw [hm'] at HF ⊢
  have hw : IntKind.i64.wrap ((n : Int) - (m : Int)) = (n : Int) - (m : Int) := IntWalk.i64_in _ (by omega)
  clear h hp hn hb hm hm' hs1 hb0
  go_enter Tryz.func32, Tryz.ntmps32
  go_wp2_with fail
  refine HS.out.mono ?_
  rintro e w1 ⟨rfl, k, rfl⟩
  go_wp2_with fail
  refine (HF.out k).mono ?_
  rintro e w2 ⟨rfl, k2, rfl⟩
  go_wp2
  go_ret2
  exact ⟨rfl, k + k2, by simp [World.drewN, Nat.add_assoc]⟩
set_option maxHeartbeats 2000000 in
theorem phas_any (w : World) (pp q g : Nat) (now : Value) (s : S) (log : Nat) (down : Bool) (D : Nat → Prop) (hp : w.heap[pp]? = some (.cells (pgr q now) 106 (0, 0))) (h : WalAt w q g s log down D) (i : Int) :
    Calls Tryz.prog 63 #[.pointer (some ⟨pp, 0, none⟩), .int .i64 i] w fun e w' => e = .returned (.bool (decide ((mapN (nbl s log) s.bytes : Int) < i) && decide (i < (nbl s log : Int)))) ∧ ∃ k, w' = w.drewN k := by
  obtain ⟨c0, _, _⟩ := pgr_cells hp
  have HS := Lib.hid (wSize_any w q g s log down D h)
  have HF := Lib.hid (fun k => firstPage_any (w.drewN k) pp q g now s log down D (pgr_drewN hp k) (h.drewN k))
  obtain ⟨n, hn⟩ : ∃ n, nbl s log = n := ⟨_, rfl⟩
  obtain ⟨b, hb⟩ : ∃ b, s.bytes = b := ⟨_, rfl⟩
  rw [hn, hb] at HS HF ⊢
  obtain ⟨m0, hm0⟩ : ∃ m0, mapN n b = m0 := ⟨_, rfl⟩
  rw [hm0] at HF ⊢
  obtain ⟨m, hm⟩ : ∃ m, m0 + 1 = m := ⟨_, rfl⟩
  rw [hm] at HF
  clear h hp hn hb hm0
  by_cases h1 : (m : Int) ≤ i
  · by_cases h2 : i < (n : Int)
    · go_enter Tryz.func63, Tryz.ntmps63
      go_wp2_with fail
      refine HS.out.mono ?_
      rintro e w1 ⟨rfl, k, rfl⟩
      go_wp2_with fail
      refine (HF.out k).mono ?_
      rintro e w2 ⟨rfl, k2, rfl⟩
      go_wp2
      go_ret
      exact ⟨by simp [h2]; omega, k + k2, by simp [World.drewN, Nat.add_assoc]⟩
    · go_enter Tryz.func63, Tryz.ntmps63
      go_wp2_with fail
      refine HS.out.mono ?_
      rintro e w1 ⟨rfl, k, rfl⟩
      go_wp2_with fail
      refine (HF.out k).mono ?_
      rintro e w2 ⟨rfl, k2, rfl⟩
      go_wp2
      go_ret
      exact ⟨by simp; omega, k + k2, by simp [World.drewN, Nat.add_assoc]⟩
  · go_enter Tryz.func63, Tryz.ntmps63
    go_wp2_with fail
    refine HS.out.mono ?_
    rintro e w1 ⟨rfl, k, rfl⟩
    go_wp2_with fail
    refine (HF.out k).mono ?_
    rintro e w2 ⟨rfl, k2, rfl⟩
    go_wp2
    go_ret
    exact ⟨by simp; omega, k + k2, by simp [World.drewN, Nat.add_assoc]⟩
theorem wgt_val (p : Nat) : Value.int .u8 ((wgt p).toNat : Int) = .int .u8 (((2 ^ (p % 8) : Nat) : Int)) := by rw [wgt_toNat]
set_option maxHeartbeats 1000000 in
theorem weight_any (w : World) (p : Nat) (hp : p ≤ 1000000000) : Calls Tryz.prog 108 #[.int .i64 (p : Int)] w fun e w' => e = .returned (B (wgt p)) ∧ w = w' := by
  have hm : p % 8 < 8 := Nat.mod_lt _ (by omega)
  have h7 : 2 ^ (p % 8) ≤ 2 ^ 7 := Nat.pow_le_pow_right (by omega) (by omega)
  have hv : Value.int .u8 ((2 : Int) ^ (p % 8) % 256) = B (wgt p) := by
    rw [show B (wgt p) = .int .u8 (((2 ^ (p % 8) : Nat) : Int)) from wgt_val p, show (2 : Int) ^ (p % 8) = ((2 ^ (p % 8) : Nat) : Int) by simp]
    obtain ⟨y, hy⟩ : ∃ y, 2 ^ (p % 8) = y := ⟨_, rfl⟩
    rw [hy] at h7 ⊢
    congr 1
    omega
  have HV := Lib.hid hv
  clear hv h7
  go_enter Tryz.func108, Tryz.ntmps108
  go_wp2
  go_ret
  exact ⟨congrArg Ending.returned HV.out, rfl⟩
end Go.Proofs.YtephmcbofcfpmaaGreat

set_option maxRecDepth 8000
set_option linter.unusedSimpArgs false
set_option linter.unusedVariables false
namespace Go.Proofs.YtephmcbofcfpmaaGreat
open Go.RowKit Go.Bs Go.Dk Rp

theorem br_cells {w : World} {bb : Nat} {wv nv : Value} (h : w.heap[bb]? = some (.cells #[wv, nv] 165 (0, 0))) :
    w.cell? ⟨bb, 0, none⟩ = some wv ∧ w.cell? ⟨bb, 1, none⟩ = some nv ∧ ∀ i, w.frozen? ⟨bb, i, none⟩ = false := by
  refine ⟨?_, ?_, fun i => by simp [World.frozen?, h]⟩ <;> (rw [cell_of_row w bb _ _ 165 (0, 0) h]; rfl)
def bitOf (bs : List UInt8) (p : Nat) : Bool := (bs.getD (p / 8) 0).toNat / 2 ^ (p % 8) % 2 == 1
set_option maxHeartbeats 2000000 in
theorem used_any (w : World) (bb nb n cap : Nat) (wv : Value) (bs : List UInt8) (h : w.heap[bb]? = some (.cells #[wv, .slice (some ⟨nb, 0, none⟩) n cap] 165 (0, 0))) (hr : Rd w (some ⟨nb, 0, none⟩) n cap bs) (p : Nat) (hp : p / 8 < n) (hp2 : p ≤ 1000000000) :
    Calls Tryz.prog 78 #[.pointer (some ⟨bb, 0, none⟩), .int .i64 (p : Int)] w fun e w' => e = .returned (.bool (bitOf bs p)) ∧ ∃ k, w' = w.drewN k := by
  obtain ⟨_, c1, _⟩ := br_cells h
  have hcl : w.cell? ⟨nb, p / 8, none⟩ = some (B (bs.getD (p / 8) 0)) := by
    obtain ⟨g', o', e, _, hc⟩ := hr.cells (by omega)
    cases e
    have := hc (p / 8) hp
    rwa [Nat.zero_add] at this
  unfold bitOf
  obtain ⟨x, hx⟩ : ∃ x, bs.getD (p / 8) 0 = x := ⟨_, rfl⟩
  rw [hx] at hcl ⊢
  have HW := Lib.hid (fun m => (weight_any (w.drewN m) p hp2).mono (fun e w' (h : e = .returned (B (wgt p)) ∧ w.drewN m = w') => (⟨h.1, m, h.2.symm⟩ : e = .returned (B (wgt p)) ∧ ∃ k, w' = w.drewN k)))
  have hab := and_bit x p
  obtain ⟨z, hz⟩ : ∃ z, x.toNat &&& (wgt p).toNat = z := ⟨_, rfl⟩
  rw [hz] at hab
  obtain ⟨r, hrr⟩ : ∃ r, (x.toNat / 2 ^ (p % 8) % 2 == 1) = r := ⟨_, rfl⟩
  rw [hrr] at hab ⊢
  obtain ⟨i, hi⟩ : ∃ i, p / 8 = i := ⟨_, rfl⟩
  have hwr : IntKind.i64.wrap ((p : Int) / 8) = (i : Int) := by rw [IntWalk.i64_in _ (by omega)]; omega
  rw [hi] at hcl hp
  have hne : ((z : Int) != 0) = r := by
    cases r
    · have : z = 0 := by
        rcases Nat.eq_zero_or_pos z with h | h
        · exact h
        · exact absurd (hab.1 (by omega)) (by simp)
      subst this; rfl
    · have h0 : z ≠ 0 := hab.2 rfl
      simp [h0]
  have HNE := Lib.hid (show (bits .and .u8 (x.toNat : Int) ((wgt p).toNat : Int) != 0) = r by rw [u8_and_nat _ _ x.toNat_lt (wgt p).toNat_lt, hz]; exact hne)
  obtain ⟨y, hy⟩ : ∃ y, wgt p = y := ⟨_, rfl⟩
  rw [hy] at HNE HW
  have hcap := hr.cap
  clear h hr hab hz hrr hx hi hne hy
  go_enter Tryz.func78, Tryz.ntmps78
  go_wp2_with fail
  go_quiet (exact HW.out _)
  go_wp2
  go_ret
  exact ⟨congrArg (fun b => Ending.returned (.bool b)) HNE.out, _, rfl⟩
theorem xor_val (x y : UInt8) : Value.int .u8 (bits .xor .u8 (x.toNat : Int) (y.toNat : Int)) = B (x ^^^ y) := by
  rw [u8_xor_nat _ _ x.toNat_lt y.toNat_lt]
  show _ = Value.int .u8 ((x ^^^ y).toNat : Int)
  rw [UInt8.toNat_xor]
set_option maxHeartbeats 2000000 in
theorem turn_any (w : World) (bb nb n cap : Nat) (wv : Value) (x : UInt8) (p : Nat) (h : w.heap[bb]? = some (.cells #[wv, .slice (some ⟨nb, 0, none⟩) n cap] 165 (0, 0))) (hcap : n ≤ cap) (hcl : w.cell? ⟨nb, p / 8, none⟩ = some (B x)) (hfz : w.frozen? ⟨nb, p / 8, none⟩ = false) (hp : p / 8 < n) (hp2 : p ≤ 1000000000) :
    Calls Tryz.prog 64 #[.pointer (some ⟨bb, 0, none⟩), .int .i64 (p : Int)] w fun e w' => (∃ v, e = .returned v) ∧ ∃ k, w' = (w.setCell ⟨nb, p / 8, none⟩ (B (flip8 x (p % 8)))).drewN k := by
  obtain ⟨_, c1, _⟩ := br_cells h
  have HW := Lib.hid (fun W => weight_any W p hp2)
  have HX := Lib.hid ((xor_val x (wgt p)).trans (congrArg B (xor_bit x p)))
  obtain ⟨i, hi⟩ : ∃ i, p / 8 = i := ⟨_, rfl⟩
  have hwr : IntKind.i64.wrap ((p : Int) / 8) = (i : Int) := by rw [IntWalk.i64_in _ (by omega)]; omega
  rw [hi] at hcl hp hfz ⊢
  obtain ⟨y, hy⟩ : ∃ y, wgt p = y := ⟨_, rfl⟩
  obtain ⟨f, hf⟩ : ∃ f, flip8 x (p % 8) = f := ⟨_, rfl⟩
  rw [hy] at HW HX
  rw [hf] at HX ⊢
  clear h hi hy hf
  go_enter Tryz.func64, Tryz.ntmps64
  go_wp2_with fail
  refine wp_region_still_tail 12 mixedP (by kernel_rfl) ?_
  simp only [List.take_succ_cons, List.take_zero, List.drop_succ_cons, List.drop_zero]
  repeat still_step
  still_call ((HW.out _).mono fun _ _ h => ⟨h.1, h.2.symm⟩)
  repeat still_step
  try refine wpStill_nil ?_
  rw [HX.out]
  go_wp2
  go_end0
  exact ⟨⟨_, rfl⟩, 1, rfl⟩
set_option maxRecDepth 100000 in
theorem full_bits : ∀ k : Fin 8, (255 / 2 ^ k.val % 2 == 1) = true := by decide
/-- the lowest number from a on whose bit is 0. -/
def Low (n : Nat) (bs : List UInt8) (a r : Nat) : Prop := a ≤ r ∧ (∀ j, a ≤ j → j < r → j / 8 < n ∧ bitOf bs j = true) ∧ (n ≤ r / 8 ∨ bitOf bs r = false)
set_option maxHeartbeats 4000000 in
theorem lowest_any (w : World) (bb nb n cap : Nat) (wv : Value) (bs : List UInt8) (h : w.heap[bb]? = some (.cells #[wv, .slice (some ⟨nb, 0, none⟩) n cap] 165 (0, 0))) (hr : Rd w (some ⟨nb, 0, none⟩) n cap bs) (a : Nat) (ha : a ≤ 100000) (hn : n ≤ 100000) :
    Calls Tryz.prog 61 #[.pointer (some ⟨bb, 0, none⟩), .int .i64 (a : Int)] w fun e w' => ∃ r : Nat, e = .returned (.int .i64 (r : Int)) ∧ Low n bs a r ∧ ∃ k, w' = w.drewN k := by
  have HH := Lib.hid h
  have HR := Lib.hid hr
  have hcap := hr.cap
  clear h hr
  go_enter Tryz.func61, Tryz.ntmps61
  go_wp2
  go_loopw [1] (fun i wr => ∃ x : Nat, x ≤ 1000000 ∧ i = .int .i64 x ∧ a ≤ x ∧ (∀ j, a ≤ j → j < x → j / 8 < n ∧ bitOf bs j = true) ∧ ∃ m, wr = w.drewN m) (fun i _ => 8 * n - (RowKit.intOf i).toNat)
  case atStart => exact ⟨a, by omega, rfl, Nat.le_refl _, fun j h1 h2 => by omega, 0, rfl⟩
  case round =>
    obtain ⟨x, hx, rfl, hax, hall, m, hwr⟩ := hrel
    have c1 : wr.cell? ⟨bb, 1, none⟩ = some (.slice (some ⟨nb, 0, none⟩) n cap) := by rw [hwr]; exact (br_cells HH.out).2.1
    have HA := Lib.hid hall
    have HW := Lib.hid hwr
    by_cases hlt : x / 8 < n
    · have hcl : wr.cell? ⟨nb, x / 8, none⟩ = some (B (bs.getD (x / 8) 0)) := by
        obtain ⟨g', o', e, _, hc⟩ := HR.out.cells (by omega)
        cases e
        have := hc (x / 8) hlt
        rw [hwr]
        rwa [Nat.zero_add] at this
      have HU := Lib.hid (used_any wr bb nb n cap wv bs (by rw [hwr]; exact HH.out) (by rw [hwr]; exact HR.out.drewN m) x hlt (by omega))
      cases hb : bitOf bs x
      · rw [hb] at HU
        have HB := Lib.hid hb
        clear hall hwr hb hcl
        go_wp2_with fail
        refine HU.out.mono ?_
        rintro e w1 ⟨rfl, k1, rfl⟩
        go_wp2
        go_ret
        exact ⟨x, rfl, ⟨hax, HA.out, .inr HB.out⟩, m + k1, by rw [HW.out, World.drewN_drewN]⟩
      · rw [hb] at HU
        have HB := Lib.hid hb
        obtain ⟨y, hy⟩ : ∃ y, bs.getD (x / 8) 0 = y := ⟨_, rfl⟩
        rw [hy] at hcl
        have HY := Lib.hid hy
        obtain ⟨i, hi⟩ : ∃ i, x / 8 = i := ⟨_, rfl⟩
        have hwq : IntKind.i64.wrap ((x : Int) / 8) = (i : Int) := by rw [IntWalk.i64_in _ (by omega)]; omega
        have hdq : ((x : Int) / 8) = (i : Int) := by omega
        rw [hi] at hcl hlt
        have HI := Lib.hid hi
        clear hall hwr hb hy hi
        by_cases hf : y = 255
        · subst hf
          go_wp2_with fail
          refine HU.out.mono ?_
          rintro e w1 ⟨rfl, k1, rfl⟩
          go_wp2
          go_roundw
          case rel =>
            refine ⟨x + (8 - x % 8), by omega, congrArg (Value.int .i64) (by omega), by omega, fun j h1 h2 => ?_, m + k1, by rw [HW.out, World.drewN_drewN]⟩
            by_cases hjx : j < x
            · exact HA.out j h1 hjx
            · have hj8 : j / 8 = x / 8 := by omega
              refine ⟨by rw [hj8, HI.out]; exact hlt, ?_⟩
              unfold bitOf
              rw [hj8, HY.out]
              exact full_bits ⟨j % 8, Nat.mod_lt _ (by omega)⟩
          case measure => simp [RowKit.intOf]; omega
        · have hne : ((y.toNat : Int) == 255) = false := by
            have : y.toNat ≠ 255 := fun e => hf (UInt8.toNat_inj.1 e)
            simp
            omega
          clear hf
          go_wp2_with fail
          refine HU.out.mono ?_
          rintro e w1 ⟨rfl, k1, rfl⟩
          go_wp2
          go_roundw
          case rel =>
            refine ⟨x + 1, by omega, by go_num, by omega, fun j h1 h2 => ?_, m + k1, by rw [HW.out, World.drewN_drewN]⟩
            by_cases hjx : j < x
            · exact HA.out j h1 hjx
            · have hj : j = x := by omega
              rw [hj]
              exact ⟨by rw [HI.out]; exact hlt, HB.out⟩
          case measure => simp [RowKit.intOf]; omega
    · clear hall hwr
      go_wp2
      go_ret
      exact ⟨x, rfl, ⟨hax, HA.out, .inl (by omega)⟩, m, HW.out⟩
end Go.Proofs.YtephmcbofcfpmaaGreat

