/-
  The statement 'DiskCounts' (chandlerylaw05) holds at every input: the call returns true and leaves its arguments as they were. Conditions: none beyond the row's own.
-/
import Derived.Test.YtikajhfaoccicaaRows
import Derived.Test.YtikajhfaoccicaaArg
import Derived.WalkKit
import Derived.ProofKit
import Derived.OpenShut
import Derived.ChangeOld
import Derived.Below
namespace Go.Proofs.Ytikajhfaoccicaa.diskCounts
open Go.ChangeShapes Go.WideShapes Go.ChangeAt Go.RowKit Go.Bs Go.Dk
set_option linter.unusedVariables false

theorem own : ownKnob Try.prog.godebug = none := by kernel_rfl
theorem laidOut : laidOutB Try.prog = true := by kernel_rfl

open Go.Bs Go.Dk
/-- behind k deeds that were tried, of which the n-th is cut. -/
structure CI (n k : Nat) (s : S) : Prop where
  sec : s.sectors = 3
  byt : s.bytes = 16
  fine : s.Fine
  st : (k < n ∧ s.up = true ∧ s.deeds = k ∧ s.left = n - k) ∨ (n ≤ k ∧ s.up = false ∧ s.deeds = n)
theorem deed_ci {n k : Nat} {s : S} (hs : s.sectors = 3) (hb : s.bytes = 16) (hc : s.c.length ≤ s.deeds + 1) (hk : k < n) (hu : s.up = true) (hd : s.deeds = k) (hl : s.left = n - k) :
    CI n (k + 1) s.deed.1 ∧ s.deed.2 = (if k + 1 < n then 0 else 50) := by
  have hf := S.Fine.deed hc
  unfold S.deed at hf ⊢
  by_cases h1 : k + 1 < n
  · rw [if_neg (by omega), if_neg (by omega), if_pos h1]
    rw [if_neg (by omega), if_neg (by omega)] at hf
    exact ⟨⟨hs, hb, hf, .inl ⟨h1, hu, by show s.deeds + 1 = _; omega, by show s.left - 1 = _; omega⟩⟩, rfl⟩
  · rw [if_neg (by omega), if_pos (by omega), if_neg h1]
    rw [if_neg (by omega), if_pos (by omega)] at hf
    unfold S.crash at hf ⊢
    simp only [hu, if_true] at hf ⊢
    exact ⟨⟨hs, hb, hf, .inr ⟨by omega, rfl, by show s.deeds + 1 = n; omega⟩⟩, trivial⟩
theorem flush_ci {n k : Nat} {s : S} (h : CI n k s) : ∃ s', s.flush = (s', if k + 1 < n then 0 else 50) ∧ CI n (k + 1) s' := by
  obtain ⟨hs, hb, hf, ⟨h1, hu, hd, hl⟩ | ⟨h1, hu, hd⟩⟩ := h
  · obtain ⟨hc, he⟩ := deed_ci hs hb (Nat.le_succ_of_le hf) h1 hu hd hl
    unfold S.flush
    rw [if_neg (by rw [hu]; simp)]
    by_cases h2 : k + 1 < n
    · rw [if_pos h2] at he
      rw [if_pos he, if_pos h2]
      refine ⟨_, rfl, ⟨hc.sec, hc.byt, Nat.zero_le _, ?_⟩⟩
      rcases hc.st with h | h
      · exact .inl h
      · exact .inr h
    · rw [if_neg h2] at he
      rw [if_neg (by rw [he]; omega), if_neg h2]
      exact ⟨s.deed.1, Prod.ext rfl he, hc⟩
  · unfold S.flush
    rw [if_pos hu, if_neg (by omega)]
    exact ⟨s, rfl, hs, hb, hf, .inr ⟨by omega, hu, hd⟩⟩
theorem write_ci {n k : Nat} {s : S} (h : CI n k s) (i : Nat) (hi : i < 3) (bs : List UInt8) (hbs : bs.length = 16) : ∃ s', s.write (i : Int) bs = (s', if k + 1 < n then 0 else 50) ∧ CI n (k + 1) s' := by
  obtain ⟨hs, hb, hf, ⟨h1, hu, hd, hl⟩ | ⟨h1, hu, hd⟩⟩ := h
  · obtain ⟨hc, he⟩ := deed_ci (n := n) (k := k) (s := { s with c := s.c ++ [(i, bs)] }) hs hb (by simp; exact hf) h1 hu hd hl
    unfold S.write
    rw [if_neg (by rw [hu]; simp), if_neg (by
      rintro (h | h)
      · simp [S.has, hs] at h; omega
      · exact h (by rw [hbs, hb]))]
    exact ⟨_, Prod.ext rfl he, hc⟩
  · unfold S.write
    rw [if_pos hu, if_neg (by omega)]
    exact ⟨s, rfl, hs, hb, hf, .inr ⟨by omega, hu, hd⟩⟩
theorem CI.small {n k : Nat} {s : S} (h : CI n k s) (hk : k ≤ 100) : s.deeds < 900000 := by
  rcases h.st with h | h <;> omega

set_option maxRecDepth 100000 in
set_option maxHeartbeats 4000000 in
theorem walk (a0 : Int) (a1 : Option Addr) (len1 cap1 : Nat) (w : World) (w0 : (Lit.int .i64 a0).wf = true) (w1 : IsQ w a1 len1 cap1) :
    Calls Try.prog 5 #[.int .i64 a0, .slice a1 len1 cap1] w fun e w' => e = .returned (.bool true) ∧ Below w.heap.size w w' := by
  obtain ⟨hlen, fs, hr⟩ := w1
  have wf := bounds_i64 w0
  by_cases hbad : a0 < 1 ∨ 100 < len1
  · rcases hbad with h | h
    · clear hr
      go_enter Try.func5, Try.ntmps5
      go_wp2
      go_ret
      exact ⟨rfl, Below.refl _ _⟩
    · clear hr
      by_cases h0 : a0 < 1
      · go_enter Try.func5, Try.ntmps5
        go_wp2
        go_ret
        exact ⟨rfl, Below.refl _ _⟩
      · go_enter Try.func5, Try.ntmps5
        go_wp2
        go_ret
        exact ⟨rfl, Below.refl _ _⟩
  obtain ⟨n, rfl⟩ := Int.eq_ofNat_of_zero_le (show 0 ≤ a0 by omega)
  have hn1 : 1 ≤ n := by omega
  have hl1 : len1 ≤ 100 := by omega
  have hnm : n ≤ 9223372036854775807 := by omega
  have HR := Lib.hid hr
  have hN := Lib.hid (New_any 3 16 (by omega) (by omega) (by omega) (by omega) w)
  clear hbad w0 wf hr
  go_enter Try.func5, Try.ntmps5
  go_wp2_with fail
  refine hN.out.mono ?_
  rintro e wA ⟨g, D1, rfl, hd1, hk1, hb1⟩
  have HA : Hid (Calls Try.prog 17 #[.pointer (some ⟨g, 0, none⟩), .int .i64 (n : Int), .slice none 0 0] wA fun e b => (∃ v, e = .returned v) ∧ DF w b g ((S.new 3 16).arm (n : Int) [])) :=
    (Arm_any wA g _ D1 hd1 (n : Int) (by omega) none 0 0 [] (RdQ.nil _ _ _) (by omega)).mono fun e b ⟨he, hd⟩ => ⟨he, DF.step hk1 hb1 hd⟩
  clear hd1 hk1 hb1
  go_wp2_with fail
  refine HA.out.mono ?_
  rintro e wB ⟨⟨vB, rfl⟩, hB⟩
  have HB := Lib.hid hB
  clear hB
  go_wp2
  go_loopw [7] (fun i wr => ∃ k : Nat, k ≤ len1 ∧ i = .int .i64 k ∧ ∃ s, CI n k s ∧ DF w wr g s) (fun i _ => len1 - (intOf i).toNat)
  case atStart => exact ⟨0, Nat.zero_le _, rfl, _, ⟨rfl, rfl, Nat.zero_le _, .inl ⟨by omega, rfl, rfl, by show Int.toNat (n : Int) = n - 0; omega⟩⟩, HB.out⟩
  case round =>
    obtain ⟨k, hk, rfl, s, hci, hdf⟩ := hrel
    by_cases hlt : k < len1
    · obtain ⟨ga, oa, rfl, hga, hca⟩ := HR.out.cells (by omega)
      have hcell := (hdf.bel.cell (p := ⟨ga, oa + k, none⟩) hga).trans (hca k hlt)
      have hsm := hci.small (by omega)
      have HCI := Lib.hid hci
      have HDF := Lib.hid hdf
      cases hf : fs.getD k false
      · rw [hf] at hcell
        have hmod : Int.tmod (k : Int) 3 = ((k % 3 : Nat) : Int) := rfl
        have hm3 : k % 3 < 3 := Nat.mod_lt _ (by omega)
        obtain ⟨q, hq⟩ : ∃ q, k % 3 = q := ⟨_, rfl⟩
        rw [hq] at hmod hm3
        obtain ⟨s', hw', hci'⟩ := write_ci hci q hm3 (by16 1) rfl
        have HW : Hid (∀ W, Below wr.heap.size wr W → ∀ A, Rd W A 16 16 (by16 1) → Calls Try.prog 13 #[.pointer (some ⟨g, 0, none⟩), .int .i64 (q : Int), .slice A 16 16] W fun e b => e = .returned (.int .i64 (if k + 1 < n then 0 else 50)) ∧ DF w b g s') :=
          fun W hW A hA => Write_df (HDF.out.below hW) HCI.out.fine hsm (q : Int) A 16 16 _ hA (by omega) _ _ hw'
        have HCI' := Lib.hid hci'
        clear hci hdf hca hf hw' hci' hsm hq
        by_cases hkn : k + 1 < n
        · rw [if_pos hkn] at HW
          go_wp2_with fail
          refine (bytes_any 1 wr).mono ?_
          rintro e wC ⟨rfl, hbk, hbl⟩
          have HW1 := Lib.hid (HW.out wC hbl _ (hbk.all' 16 16 rfl (Nat.le_refl _)))
          clear hbk hbl
          go_wp2_with fail
          refine HW1.out.mono ?_
          rintro e wD ⟨rfl, hdD⟩
          have HDD := Lib.hid hdD
          clear hdD
          go_wp2
          go_roundw
          case rel => exact ⟨k + 1, by omega, by go_num, s', HCI'.out, HDD.out⟩
          case measure => simp [intOf]; omega
        · rw [if_neg hkn] at HW
          go_wp2_with fail
          refine (bytes_any 1 wr).mono ?_
          rintro e wC ⟨rfl, hbk, hbl⟩
          have HW1 := Lib.hid (HW.out wC hbl _ (hbk.all' 16 16 rfl (Nat.le_refl _)))
          clear hbk hbl
          go_wp2_with fail
          refine HW1.out.mono ?_
          rintro e wD ⟨rfl, hdD⟩
          have HDD := Lib.hid hdD
          clear hdD
          go_wp2
          go_roundw
          case rel => exact ⟨k + 1, by omega, by go_num, s', HCI'.out, HDD.out⟩
          case measure => simp [intOf]; omega
      · rw [hf] at hcell
        obtain ⟨s', hw', hci'⟩ := flush_ci hci
        have HW := Lib.hid (Flush_df HDF.out hsm _ _ hw')
        have HCI' := Lib.hid hci'
        clear hci hdf hca hf hw' hci' hsm
        by_cases hkn : k + 1 < n
        · rw [if_pos hkn] at HW
          go_wp2_with fail
          refine HW.out.mono ?_
          rintro e wD ⟨rfl, hdD⟩
          have HDD := Lib.hid hdD
          clear hdD
          go_wp2
          go_roundw
          case rel => exact ⟨k + 1, by omega, by go_num, s', HCI'.out, HDD.out⟩
          case measure => simp [intOf]; omega
        · rw [if_neg hkn] at HW
          go_wp2_with fail
          refine HW.out.mono ?_
          rintro e wD ⟨rfl, hdD⟩
          have HDD := Lib.hid hdD
          clear hdD
          go_wp2
          go_roundw
          case rel => exact ⟨k + 1, by omega, by go_num, s', HCI'.out, HDD.out⟩
          case measure => simp [intOf]; omega
    · obtain rfl : k = len1 := by omega
      have hsm := hci.small (by omega)
      have HU : Hid (Calls Try.prog 26 #[.pointer (some ⟨g, 0, none⟩)] wr fun e w' => e = .returned (.bool (decide ((k : Int) < (n : Int)))) ∧ wr = w') := by
        obtain ⟨D, h1, _⟩ := hdf
        refine (Up_any wr g s D h1).mono fun e w' ⟨he, hw⟩ => ⟨?_, hw⟩
        rw [he]
        rcases hci.st with h | h
        · rw [h.2.1, decide_eq_true (by omega)]
        · rw [h.2.1, decide_eq_false (by omega)]
      have HDE : Hid (Calls Try.prog 27 #[.pointer (some ⟨g, 0, none⟩)] wr fun e w' => e = .returned (.int .i64 ((min n k : Nat) : Int)) ∧ wr = w') := by
        refine (Deeds_df hdf).mono fun e w' ⟨he, hw⟩ => ⟨?_, hw⟩
        rw [he]
        congr 3
        rcases hci.st with h | h <;> omega
      obtain ⟨mn, hmn⟩ : ∃ mn, min n k = mn := ⟨_, rfl⟩
      rw [hmn] at HDE
      have hmin : ∀ ty W, (Builtin.min_ #[3, 3] ty #[.int .i64 (n : Int), .int .i64 (k : Int)]).run Try.prog W = .ok (.int .i64 (mn : Int)) W := fun ty W => by
        rw [run_min_int2, ← hmn]
        congr 2
        split <;> omega
      have HO := Lib.hid (On_df hdf)
      have HBL := Lib.hid hdf.bel
      have HFL : Hid (s.on.flush.2 = 0) := by
        show s.on.flush.2 = 0
        simp [S.flush, S.on, S.deed]
      have hdeeds : s.on.deeds < 900000 := hsm
      clear hci hdf hmn hsm
      by_cases hkn : (k : Int) < (n : Int)
      · rw [decide_eq_true hkn] at HU
        go_wp2_with fail
        refine HU.out.mono ?_
        rintro e wU ⟨rfl, rfl⟩
        go_wp2_with fail
        refine HDE.out.mono ?_
        rintro e wU ⟨rfl, rfl⟩
        go_wp2_with fail
        refine HO.out.mono ?_
        rintro e wV ⟨⟨vV, rfl⟩, hdv⟩
        have HV := Lib.hid hdv
        clear hdv
        go_wp2_with fail
        refine (awake_any wV).mono ?_
        rintro e wX ⟨rfl, hbx⟩
        have HX := Lib.hid (HV.out.below hbx)
        clear hbx
        have HUX : Hid (Calls Try.prog 26 #[.pointer (some ⟨g, 0, none⟩)] wX fun e w' => e = .returned (.bool true) ∧ wX = w') := by
          obtain ⟨D, h1, _⟩ := HX.out
          exact Up_any wX g s.on D h1
        go_wp2_with fail
        refine HUX.out.mono ?_
        rintro e wY ⟨rfl, rfl⟩
        have HFX := Lib.hid (Flush_df HX.out hdeeds s.on.flush.1 0 (Prod.ext rfl HFL.out))
        go_wp2_with fail
        refine HFX.out.mono ?_
        rintro e wZ ⟨rfl, hz⟩
        have HZ := Lib.hid hz.bel
        clear hz
        go_wp2
        go_ret
        exact ⟨rfl, HZ.out⟩
      · rw [decide_eq_false hkn] at HU
        go_wp2_with fail
        refine HU.out.mono ?_
        rintro e wU ⟨rfl, rfl⟩
        go_wp2_with fail
        refine HDE.out.mono ?_
        rintro e wU ⟨rfl, rfl⟩
        go_wp2_with fail
        refine HO.out.mono ?_
        rintro e wV ⟨⟨vV, rfl⟩, hdv⟩
        have HV := Lib.hid hdv
        clear hdv
        go_wp2_with fail
        refine (awake_any wV).mono ?_
        rintro e wX ⟨rfl, hbx⟩
        have HX := Lib.hid (HV.out.below hbx)
        clear hbx
        have HUX : Hid (Calls Try.prog 26 #[.pointer (some ⟨g, 0, none⟩)] wX fun e w' => e = .returned (.bool true) ∧ wX = w') := by
          obtain ⟨D, h1, _⟩ := HX.out
          exact Up_any wX g s.on D h1
        go_wp2_with fail
        refine HUX.out.mono ?_
        rintro e wY ⟨rfl, rfl⟩
        have HFX := Lib.hid (Flush_df HX.out hdeeds s.on.flush.1 0 (Prod.ext rfl HFL.out))
        go_wp2_with fail
        refine HFX.out.mono ?_
        rintro e wZ ⟨rfl, hz⟩
        have HZ := Lib.hid hz.bel
        clear hz
        go_wp2
        go_ret
        exact ⟨rfl, HZ.out⟩

set_option maxRecDepth 100000 in
theorem lifted (os : Os) (started : os.Started) (H : Type) (enc : TypeId × Value → H) :
    ReturnsInHanded {} Try.checked os 5 .any (Rows.diskCountsSpec.pre6 enc Try.prog Try.f5 Rows.diskCountsRow.domain false) (Rows.diskCountsSpec.post enc Try.prog Try.f5 false true false false) := by
  refine returnsInHanded_of_change (C := Try.checked) own started (by kernel_rfl) Try.func5
    (ChangeSpec.witness6 (enc := enc) (C := Try.checked) false ⟨#[], #[.int .i64 0, .slice none 0 0], []⟩ 8 (by kernel_rfl) (by kernel_rfl) (by kernel_rfl) (by kernel_rfl)) ?_
  intro W base args ds gs before hval0 hW hcnd _
  have hval : ∀ (j : Nat) t v, Try.f5.params[j]? = some t → args[j]? = some v → Value.okWide Try.prog W .any base t v := hval0
  have hW' := hW
  obtain ⟨p, q, hA0, hV, rfl, hfz, hnd⟩ := hW
  have hA : DataW.TrodAll enc Try.prog W 0 (fun _ => true) true Try.f5.params.toList args.toList ds p := hA0
  rw [Try.params5] at hA hval
  obtain ⟨v0, vs0, d0, ds0, p0, q0, hargs, rfl, rfl, h0, r0⟩ := trodAll_cons hA
  obtain ⟨v1, vs1, d1, ds1, p1, q1, rfl, rfl, rfl, h1, r1⟩ := trodAll_cons r0
  obtain ⟨rfl, rfl, rfl⟩ := trodAll_nil r1
  obtain rfl : args = #[v0, v1] := by cases args; simp_all
  obtain ⟨rfl, rfl⟩ := trodVars_none hV
  obtain ⟨a0, rfl, rfl, rfl, w0⟩ := open_int Try.underlying3 (hval 0 3 v0 rfl rfl) h0
  obtain ⟨a1, len1, cap1, rfl⟩ := okWide_slice Try.underlying33 (hval 1 33 v1 rfl rfl)
  have k1 := h1
  have lt1 : ∀ x ∈ p1, x.block < W.heap.size := by obtain ⟨m, hm⟩ := k1; exact DataW.trod_lt m _ _ _ hm
  have w1 : IsQ W a1 len1 cap1 := by
    obtain ⟨fuel, hf⟩ := h1
    exact IsQ.of hf
  clear hA0 hval0
  refine (walk a0 a1 len1 cap1 W w0 w1).mono fun e W' ⟨he, bel⟩ => ?_
  subst he
  exact ⟨_, rfl, _, _, _, [], _, [], hW', trodAll_mk1 (shut_bool Try.underlying4 _), (trodAll_cons_mk (shut_int Try.underlying3 w0) (trodAll_cons_mk (Below.trod laidOut (by kernel_rfl) (of_decide_eq_true (by kernel_rfl)) k1 bel lt1) trodAll_mk0)), rfl, bel.frame _, fun h => by cases h⟩

theorem over : Rows.diskCountsRow.holds Try.pinned (OpenSpec.ofChange Rows.diskCountsSpec) :=
  OpenClaim.holds_of_wide 5 Try.f5 rfl rfl rfl rfl rfl rfl rfl ⟨rfl, rfl, rfl, rfl, rfl⟩ rfl rfl rfl rfl rfl (by kernel_rfl) Try.func5 (by kernel_rfl)
    (of_decide_eq_true (by kernel_rfl)) (by unfold Func.isWrapper; first | (rw [if_pos (by decide +kernel)]; kernel_rfl) | (rw [if_neg (by decide +kernel)]; exact ⟨rfl, rfl⟩))
    (fun os started H enc _ => lifted os started H enc)

/-- the statement. -/
theorem proved : Rows.DiskCountsSaid := over
#print axioms proved
end Go.Proofs.Ytikajhfaoccicaa.diskCounts
