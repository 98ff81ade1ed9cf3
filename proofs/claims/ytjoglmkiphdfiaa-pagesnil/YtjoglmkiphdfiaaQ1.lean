/- Pages in memory; what is asked of them without a change. Conditions: none. -/
import Derived.Test.YtjoglmkiphdfiaaQ0
import Derived.Test.YtjoglmkiphdfiaaW1
import Derived.StillTailTactics
import Derived.Deep.RegionHeld3
set_option maxRecDepth 8000
namespace Go.Proofs.Ytjoglmkiphdfiaa
open Go.RowKit Go.Bs Go.Dk Rp

theorem mixedP : Try.prog.follows .mixedOrders = true := by kernel_rfl
def pgr (q : Nat) (now : Value) : Array Value := #[.pointer (some ⟨q, 0, none⟩), now]
theorem pgr_cells {w : World} {pp q : Nat} {now : Value} (h : w.heap[pp]? = some (.cells (pgr q now) 61 (0, 0))) :
    w.cell? ⟨pp, 0, none⟩ = some (.pointer (some ⟨q, 0, none⟩)) ∧ w.cell? ⟨pp, 1, none⟩ = some now ∧ ∀ i, w.frozen? ⟨pp, i, none⟩ = false := by
  refine ⟨?_, ?_, fun i => by simp [World.frozen?, h]⟩ <;> (rw [cell_of_row w pp _ _ 61 (0, 0) h]; rfl)
theorem pgr_set {w : World} {pp q : Nat} {now : Value} (h : w.heap[pp]? = some (.cells (pgr q now) 61 (0, 0))) (v : Value) :
    (w.setCell ⟨pp, 1, none⟩ v).heap[pp]? = some (.cells (pgr q v) 61 (0, 0)) := by
  rw [setCell_eq_setRow w pp 1 _ 61 (0, 0) v h, setRow_heap w pp _ _ 61 _ h]
  rfl
theorem div_run (a b : Nat) (hb : 1 ≤ b) (ha : a ≤ 1000000000000) (W : World) : (Op.intDiv .quo .i64 (a : Int) (b : Int)).run Try.prog W = .ok (.int .i64 ((a / b : Nat) : Int)) W := by
  have h1 : ¬ (b = 0) := by omega
  have h0 : a / b ≤ a := Nat.div_le_self _ _
  have h2 : IntKind.i64.wrap ((a : Int) / (b : Int)) = (a : Int) / (b : Int) := by
    obtain ⟨q, hq⟩ : ∃ q, a / b = q := ⟨_, rfl⟩
    have e : (a : Int) / (b : Int) = (q : Int) := by rw [← hq]; simp
    rw [hq] at h0
    rw [e]
    exact IntWalk.i64_in _ (by omega)
  simp [Op.intDiv, h1, h2]
theorem rem_run (a b : Nat) (hb : 1 ≤ b) (ha : a ≤ 1000000000000) (W : World) : (Op.intDiv .rem .i64 (a : Int) (b : Int)).run Try.prog W = .ok (.int .i64 ((a % b : Nat) : Int)) W := by
  have h1 : ¬ (b = 0) := by omega
  have h2 : (a : Int).tmod (b : Int) = ((a % b : Nat) : Int) := rfl
  simp [Op.intDiv, h1, h2]
set_option maxHeartbeats 1000000 in
theorem rootBlock_any (w : World) (pp q g : Nat) (now : Value) (s : S) (log : Nat) (down : Bool) (D : Nat → Prop) (hp : w.heap[pp]? = some (.cells (pgr q now) 61 (0, 0))) (h : WalAt w q g s log down D) :
    Calls Try.prog 36 #[.pointer (some ⟨pp, 0, none⟩)] w fun e w' => e = .returned (.int .i64 (mapN (nbl s log) s.bytes : Int)) ∧ ∃ k, w' = w.drewN k := by
  obtain ⟨c0, _, _⟩ := pgr_cells hp
  have HS := Lib.hid (wSize_any w q g s log down D h)
  have hs1 := h.disk.ok.s1
  have hb0 := h.disk.ok.b0
  have hb1 := h.disk.ok.b1
  obtain ⟨n, hn⟩ : ∃ n, nbl s log = n := ⟨_, rfl⟩
  obtain ⟨b, hb⟩ : ∃ b, s.bytes = b := ⟨_, rfl⟩
  have hnl : n ≤ 65536 := by unfold nbl at hn; omega
  unfold mapN
  rw [hn, hb] at HS ⊢
  rw [hb] at hb0 hb1
  have HQ := Lib.hid (show ((n : Int) + 8 * (b : Int) - 1) / (8 * (b : Int)) = (((n + 8 * b - 1) / (8 * b) : Nat) : Int) by rw [show (n : Int) + 8 * (b : Int) - 1 = ((n + 8 * b - 1 : Nat) : Int) by omega, show 8 * (b : Int) = ((8 * b : Nat) : Int) by omega]; rfl)
  obtain ⟨r, hr⟩ : ∃ r, (n + 8 * b - 1) / (8 * b) = r := ⟨_, rfl⟩
  rw [hr] at HQ ⊢
  clear h hp hn hb hr hs1
  go_enter Try.func36, Try.ntmps36
  go_wp2_with fail
  refine HS.out.mono ?_
  rintro e w1 ⟨rfl, k, rfl⟩
  go_wp2
  go_ret
  exact ⟨congrArg (fun x => Ending.returned (.int .i64 x)) HQ.out, k, rfl⟩
set_option maxHeartbeats 1000000 in
theorem firstPage_any (w : World) (pp q g : Nat) (now : Value) (s : S) (log : Nat) (down : Bool) (D : Nat → Prop) (hp : w.heap[pp]? = some (.cells (pgr q now) 61 (0, 0))) (h : WalAt w q g s log down D) :
    Calls Try.prog 25 #[.pointer (some ⟨pp, 0, none⟩)] w fun e w' => e = .returned (.int .i64 ((mapN (nbl s log) s.bytes + 1 : Nat) : Int)) ∧ ∃ k, w' = w.drewN k := by
  have HR := Lib.hid (rootBlock_any w pp q g now s log down D hp h)
  have hb0 := h.disk.ok.b0
  have hs1 := h.disk.ok.s1
  have hm := mapN_le (nbl s log) s.bytes (by omega)
  obtain ⟨m, hm'⟩ : ∃ m, mapN (nbl s log) s.bytes = m := ⟨_, rfl⟩
  rw [hm'] at HR hm ⊢
  have hml : m ≤ 65536 := by unfold nbl at hm; omega
  have hw : IntKind.i64.wrap ((m : Int) + 1) = ((m + 1 : Nat) : Int) := by rw [IntWalk.i64_in _ (by omega)]; omega
  obtain ⟨m1, hm1⟩ : ∃ m1, m + 1 = m1 := ⟨_, rfl⟩
  rw [hm1] at hw ⊢
  clear h hp hm' hm hm1 hs1 hb0
  go_enter Try.func25, Try.ntmps25
  go_wp2_with fail
  refine HR.out.mono ?_
  rintro e w1 ⟨rfl, k, rfl⟩
  go_wp2
  go_ret
  exact ⟨rfl, k, rfl⟩
theorem pgr_drewN {w : World} {pp q : Nat} {now : Value} (h : w.heap[pp]? = some (.cells (pgr q now) 61 (0, 0))) (k : Nat) : (w.drewN k).heap[pp]? = some (.cells (pgr q now) 61 (0, 0)) := h
theorem WalAt.drewN {w : World} {p g : Nat} {s : S} {log : Nat} {down : Bool} {D : Nat → Prop} (h : WalAt w p g s log down D) (k : Nat) : WalAt (w.drewN k) p g s log down D := h.below (below_drewN (Below.refl _ _) k)
theorem pSize_nil (w : World) : Calls Try.prog 11 #[.pointer none] w fun e w' => e = .returned (.tuple #[.int .i64 0, .int .i64 0]) ∧ w = w' := by
  go_enter Try.func11, Try.ntmps11
  go_wp2
  go_ret2
  exact ⟨rfl, rfl⟩
set_option maxHeartbeats 1000000 in
theorem pSize_any (w : World) (pp q g : Nat) (now : Value) (s : S) (log : Nat) (down : Bool) (D : Nat → Prop) (hp : w.heap[pp]? = some (.cells (pgr q now) 61 (0, 0))) (h : WalAt w q g s log down D) :
    Calls Try.prog 11 #[.pointer (some ⟨pp, 0, none⟩)] w fun e w' => e = .returned (.tuple #[.int .i64 ((nbl s log : Int) - (mapN (nbl s log) s.bytes + 1 : Nat)), .int .i64 (s.bytes : Int)]) ∧ ∃ k, w' = w.drewN k := by
  obtain ⟨c0, _, _⟩ := pgr_cells hp
  have HS := Lib.hid (wSize_any w q g s log down D h)
  have HF := Lib.hid (fun k => firstPage_any (w.drewN k) pp q g now s log down D (pgr_drewN hp k) (h.drewN k))
  have hb0 := h.disk.ok.b0
  have hs1 := h.disk.ok.s1
  have hm := mapN_le (nbl s log) s.bytes (by omega)
  obtain ⟨n, hn⟩ : ∃ n, nbl s log = n := ⟨_, rfl⟩
  have hnl : n ≤ 65536 := by unfold nbl at hn; omega
  obtain ⟨b, hb⟩ : ∃ b, s.bytes = b := ⟨_, rfl⟩
  rw [hn, hb] at HS hm ⊢
  rw [hn, hb] at HF
  obtain ⟨m, hm'⟩ : ∃ m, mapN n b + 1 = m := ⟨_, rfl⟩
  have hml : m ≤ 65537 := by omega
  rw [hm'] at HF ⊢
  have hw : IntKind.i64.wrap ((n : Int) - (m : Int)) = (n : Int) - (m : Int) := IntWalk.i64_in _ (by omega)
  clear h hp hn hb hm hm' hs1 hb0
  go_enter Try.func11, Try.ntmps11
  go_wp2_with fail
  refine HS.out.mono ?_
  rintro e w1 ⟨rfl, k, rfl⟩
  go_wp2_with fail
  refine (HF.out k).mono ?_
  rintro e w2 ⟨rfl, k2, rfl⟩
  go_wp2
  go_ret2
  exact ⟨rfl, k + k2, by simp [World.drewN, Nat.add_assoc]⟩
set_option maxHeartbeats 2000000 in
theorem phas_any (w : World) (pp q g : Nat) (now : Value) (s : S) (log : Nat) (down : Bool) (D : Nat → Prop) (hp : w.heap[pp]? = some (.cells (pgr q now) 61 (0, 0))) (h : WalAt w q g s log down D) (i : Int) :
    Calls Try.prog 30 #[.pointer (some ⟨pp, 0, none⟩), .int .i64 i] w fun e w' => e = .returned (.bool (decide ((mapN (nbl s log) s.bytes : Int) < i) && decide (i < (nbl s log : Int)))) ∧ ∃ k, w' = w.drewN k := by
  obtain ⟨c0, _, _⟩ := pgr_cells hp
  have HS := Lib.hid (wSize_any w q g s log down D h)
  have HF := Lib.hid (fun k => firstPage_any (w.drewN k) pp q g now s log down D (pgr_drewN hp k) (h.drewN k))
  obtain ⟨n, hn⟩ : ∃ n, nbl s log = n := ⟨_, rfl⟩
  obtain ⟨b, hb⟩ : ∃ b, s.bytes = b := ⟨_, rfl⟩
  rw [hn, hb] at HS HF ⊢
  obtain ⟨m0, hm0⟩ : ∃ m0, mapN n b = m0 := ⟨_, rfl⟩
  rw [hm0] at HF ⊢
  obtain ⟨m, hm⟩ : ∃ m, m0 + 1 = m := ⟨_, rfl⟩
  rw [hm] at HF
  clear h hp hn hb hm0
  by_cases h1 : (m : Int) ≤ i
  · by_cases h2 : i < (n : Int)
    · go_enter Try.func30, Try.ntmps30
      go_wp2_with fail
      refine HS.out.mono ?_
      rintro e w1 ⟨rfl, k, rfl⟩
      go_wp2_with fail
      refine (HF.out k).mono ?_
      rintro e w2 ⟨rfl, k2, rfl⟩
      go_wp2
      go_ret
      exact ⟨by simp [h2]; omega, k + k2, by simp [World.drewN, Nat.add_assoc]⟩
    · go_enter Try.func30, Try.ntmps30
      go_wp2_with fail
      refine HS.out.mono ?_
      rintro e w1 ⟨rfl, k, rfl⟩
      go_wp2_with fail
      refine (HF.out k).mono ?_
      rintro e w2 ⟨rfl, k2, rfl⟩
      go_wp2
      go_ret
      exact ⟨by simp; omega, k + k2, by simp [World.drewN, Nat.add_assoc]⟩
  · go_enter Try.func30, Try.ntmps30
    go_wp2_with fail
    refine HS.out.mono ?_
    rintro e w1 ⟨rfl, k, rfl⟩
    go_wp2_with fail
    refine (HF.out k).mono ?_
    rintro e w2 ⟨rfl, k2, rfl⟩
    go_wp2
    go_ret
    exact ⟨by simp; omega, k + k2, by simp [World.drewN, Nat.add_assoc]⟩
theorem wgt_val (p : Nat) : Value.int .u8 ((wgt p).toNat : Int) = .int .u8 (((2 ^ (p % 8) : Nat) : Int)) := by rw [wgt_toNat]
set_option maxHeartbeats 1000000 in
theorem weight_any (w : World) (p : Nat) (hp : p ≤ 1000000000) : Calls Try.prog 45 #[.int .i64 (p : Int)] w fun e w' => e = .returned (B (wgt p)) ∧ w = w' := by
  have hm : p % 8 < 8 := Nat.mod_lt _ (by omega)
  have h7 : 2 ^ (p % 8) ≤ 2 ^ 7 := Nat.pow_le_pow_right (by omega) (by omega)
  have hv : Value.int .u8 ((2 : Int) ^ (p % 8) % 256) = B (wgt p) := by
    rw [show B (wgt p) = .int .u8 (((2 ^ (p % 8) : Nat) : Int)) from wgt_val p, show (2 : Int) ^ (p % 8) = ((2 ^ (p % 8) : Nat) : Int) by simp]
    obtain ⟨y, hy⟩ : ∃ y, 2 ^ (p % 8) = y := ⟨_, rfl⟩
    rw [hy] at h7 ⊢
    congr 1
    omega
  have HV := Lib.hid hv
  clear hv h7
  go_enter Try.func45, Try.ntmps45
  go_wp2
  go_ret
  exact ⟨congrArg Ending.returned HV.out, rfl⟩
end Go.Proofs.Ytjoglmkiphdfiaa
