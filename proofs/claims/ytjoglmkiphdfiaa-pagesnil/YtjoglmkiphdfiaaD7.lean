/- A deed; Flush. Conditions: none. -/
import Derived.Test.YtjoglmkiphdfiaaD6
set_option maxRecDepth 8000
namespace Go.Proofs.Ytjoglmkiphdfiaa
open Go.RowKit Go.Bs Go.Dk

set_option maxHeartbeats 1000000 in
theorem deed_any (w : World) (g : Nat) (s : S) (D : Nat → Prop) (h : DiskAt w g s D) (hd : s.deeds < 900000) :
    Calls Try.prog 69 #[.pointer (some ⟨g, 0, none⟩)] w fun e w' => e = .returned (.int .i64 s.deed.2) ∧ Did D g s.deed.1 w w' := by
  obtain ⟨m, cv, kv, M, E, h⟩ := h
  obtain ⟨_, _, _, _, _, c5, c6, c7, hf⟩ := dc_cells h.row
  have hf5 := hf 5
  have hf6 := hf 6
  have hok := h.ok
  have hcd := h.ok.cd
  have hlf := h.ok.lf
  -- the count
  have hrow1 := dc_set h.row 5 (.int .i64 ((s.deeds + 1 : Nat) : Int)) { s with deeds := s.deeds + 1 } m cv kv rfl
  have h1 : DB (w.setCell ⟨g, 5, none⟩ (.int .i64 ((s.deeds + 1 : Nat) : Int))) g { s with deeds := s.deeds + 1 } D m cv kv M E :=
    h.own' ⟨hok.s0, hok.s1, hok.b0, hok.b1, Nat.le_succ_of_le hcd, hok.lf, hok.cs, hok.ls⟩ rfl rfl rfl rfl rfl hrow1 (setCell_size _ _ _).symm (fun k hk => setCell_other _ _ _ _ _ hk)
  obtain ⟨W1, hW1⟩ : ∃ W1, w.setCell ⟨g, 5, none⟩ (.int .i64 ((s.deeds + 1 : Nat) : Int)) = W1 := ⟨_, rfl⟩
  have hfr1 : Fr D w W1 := by rw [← hW1]; exact (Fr.refl _ _).setCell (.inl h.gD) _
  rw [hW1] at h1 hrow1
  have hW1' : w.setCell ⟨g, 5, none⟩ (.int .i64 ((s.deeds : Int) + 1)) = W1 := by rw [← hW1]; rfl
  obtain ⟨_, _, _, _, _, _, b6, b7, bf⟩ := dc_cells hrow1
  have bf6 := bf 6
  by_cases hl0 : s.left = 0
  · have e : s.deed = ({ s with deeds := s.deeds + 1 }, 0) := by unfold S.deed; rw [if_pos hl0]
    rw [e]
    have HD1 := Lib.hid h1
    have HFR1 := Lib.hid hfr1
    rw [hl0] at b6
    clear h h1 hfr1 hrow1 hok bf hf e hW1 hl0 hlf c6
    go_enter Try.func69, Try.ntmps69
    go_wp2
    go_ret
    exact ⟨rfl, D, ⟨m, cv, kv, M, E, HD1.out⟩, fun _ h => .inl h, HFR1.out⟩
  · obtain ⟨lf, hlfe⟩ : ∃ lf, s.left = lf + 1 := ⟨s.left - 1, by omega⟩
    have hrow2 := dc_set hrow1 6 (.int .i64 (lf : Int)) { s with deeds := s.deeds + 1, left := lf } m cv kv rfl
    have h2 : DB (W1.setCell ⟨g, 6, none⟩ (.int .i64 (lf : Int))) g { s with deeds := s.deeds + 1, left := lf } D m cv kv M E :=
      h1.own' ⟨hok.s0, hok.s1, hok.b0, hok.b1, Nat.le_succ_of_le hcd, by show lf ≤ _; omega, hok.cs, hok.ls⟩ rfl rfl rfl rfl rfl hrow2 (setCell_size _ _ _).symm (fun k hk => setCell_other _ _ _ _ _ hk)
    obtain ⟨W2, hW2⟩ : ∃ W2, W1.setCell ⟨g, 6, none⟩ (.int .i64 (lf : Int)) = W2 := ⟨_, rfl⟩
    have hfr2 : Fr D w W2 := by rw [← hW2]; exact hfr1.setCell (.inl h.gD) _
    rw [hW2] at h2 hrow2
    obtain ⟨_, _, _, _, _, _, d6, d7, _⟩ := dc_cells hrow2
    rw [hlfe] at b6
    have hlr : lf + 1 ≤ 9223372036854775807 := by omega
    have HFR2 := Lib.hid hfr2
    have HD2 := Lib.hid h2
    by_cases hl1 : s.left = 1
    · have hlz : lf = 0 := by omega
      have e : s.deed = (({ s with deeds := s.deeds + 1, left := lf } : S).crash s.keep, 50) := by unfold S.deed; rw [if_neg hl0, if_pos hl1, hlz]
      have hnp : ¬ (0 : Int) < (lf : Int) := by omega
      rw [e]
      obtain ⟨kA, kc, hkv, hkr, _⟩ := h2.data.keep
      have HC := Lib.hid (Crash_any W2 g _ D ⟨m, cv, kv, M, E, h2⟩ (by show s.deeds + 1 < 1000000; omega) kA _ kc s.keep hkr)
      rw [hkv] at d7
      clear h h1 h2 hfr1 hfr2 hrow1 hrow2 hok bf hf e hW1 hkr hkv c7 b7 hlz hl0 hl1 hlfe c6 hlf
      go_enter Try.func69, Try.ntmps69
      go_wp2_with fail
      refine HC.out.mono ?_
      rintro e w3 ⟨⟨v, rfl⟩, hdid⟩
      have HDD := Lib.hid hdid
      clear hdid
      go_wp2
      go_ret
      exact ⟨rfl, Did.step (fun _ h => .inl h) HFR2.out HDD.out⟩
    · have e : s.deed = ({ s with deeds := s.deeds + 1, left := lf }, 0) := by unfold S.deed; rw [if_neg hl0, if_neg hl1, hlfe]; rfl
      rw [e]
      have hlp : 0 < lf := by omega
      clear h h1 h2 hfr1 hfr2 hrow1 hrow2 hok bf hf e hW1 hl0 hl1 hlfe c6 hlf
      go_enter Try.func69, Try.ntmps69
      go_wp2
      go_ret
      exact ⟨rfl, D, ⟨m, cv, kv, M, E, HD2.out⟩, fun _ h => .inl h, HFR2.out⟩
end Go.Proofs.Ytjoglmkiphdfiaa
