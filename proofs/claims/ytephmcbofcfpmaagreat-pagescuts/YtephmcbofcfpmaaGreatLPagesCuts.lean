/-
  The statement 'PagesCuts' (chandlerylaw07) holds at every input: the call returns true and leaves its arguments as they were. Conditions: none beyond the row's own.
-/
import Derived.Test.YtephmcbofcfpmaaGreatRows
import Derived.Test.YtephmcbofcfpmaaGreatJ45
import Derived.WalkKit
import Derived.ProofKit
import Derived.OpenShut
import Derived.ChangeOld
import Derived.Below
set_option linter.unusedSimpArgs false
set_option linter.unusedVariables false
namespace Go.Proofs.YtephmcbofcfpmaaGreat.pagesCuts
open Go.ChangeShapes Go.WideShapes Go.ChangeAt Go.RowKit Go.Bs Go.Dk Go.Proofs.YtephmcbofcfpmaaGreat.Rp
set_option linter.unusedVariables false

theorem own : ownKnob Tryz.prog.godebug = none := by kernel_rfl
theorem laidOut : laidOutB Tryz.prog = true := by kernel_rfl


theorem op_cells {w : World} {z : Nat} {v0 v1 v2 v3 : Value} (h : w.heap[z]? = some (.cells #[v0, v1, v2, v3] 42 (0, 0))) :
    w.cell? ⟨z, 0, none⟩ = some v0 ∧ w.cell? ⟨z, 1, none⟩ = some v1 ∧ w.cell? ⟨z, 2, none⟩ = some v2 ∧ w.cell? ⟨z, 3, none⟩ = some v3 := by
  refine ⟨?_, ?_, ?_, ?_⟩ <;> (rw [cell_of_row w z _ _ 42 (0, 0) h]; rfl)
theorem small_all (a b c : Int) (w : World) : Calls Tryz.prog 10 #[.int .i64 a, .int .i64 b, .int .i64 c] w fun e w' => (e = .returned (.bool false) ∨ (e = .returned (.bool true) ∧ 3 ≤ a ∧ a ≤ 160 ∧ 16 ≤ b ∧ b ≤ 40 ∧ 1 ≤ c ∧ c ≤ 12 ∧ 3 + 3 * c ≤ b)) ∧ w = w' := by
  by_cases h1 : 3 ≤ a
  · by_cases h2 : a ≤ 160
    · by_cases h3 : 16 ≤ b
      · by_cases h4 : b ≤ 40
        · by_cases h5 : 1 ≤ c
          · by_cases h6 : c ≤ 12
            · by_cases h7 : 3 + 3 * c ≤ b
              · go_enter Tryz.func10, Tryz.ntmps10
                go_wp2
                go_ret
                exact ⟨.inr ⟨rfl, h1, h2, h3, h4, h5, h6, h7⟩, rfl⟩
              · go_enter Tryz.func10, Tryz.ntmps10
                go_wp2
                go_ret
                exact ⟨.inl rfl, rfl⟩
            · go_enter Tryz.func10, Tryz.ntmps10
              go_wp2
              go_ret
              exact ⟨.inl rfl, rfl⟩
          · go_enter Tryz.func10, Tryz.ntmps10
            go_wp2
            go_ret
            exact ⟨.inl rfl, rfl⟩
        · go_enter Tryz.func10, Tryz.ntmps10
          go_wp2
          go_ret
          exact ⟨.inl rfl, rfl⟩
      · go_enter Tryz.func10, Tryz.ntmps10
        go_wp2
        go_ret
        exact ⟨.inl rfl, rfl⟩
    · go_enter Tryz.func10, Tryz.ntmps10
      go_wp2
      go_ret
      exact ⟨.inl rfl, rfl⟩
  · go_enter Tryz.func10, Tryz.ntmps10
    go_wp2
    go_ret
    exact ⟨.inl rfl, rfl⟩
set_option maxRecDepth 100000 in
set_option maxHeartbeats 32000000 in
theorem walkGood (N Bz log : Nat) (a3 : Option Addr) (len3 cap3 : Nat) (w : World) (hO : IsO w a3 len3 cap3)
    (hF : Calls Tryz.prog 11 #[.slice a3 len3 cap3] w fun e w' => (e = .returned (.bool false) ∨ (e = .returned (.bool true) ∧ few w a3 len3)) ∧ w = w')
    (hN0 : 3 ≤ N) (hN1 : N ≤ 160) (hB0 : 16 ≤ Bz) (hB1 : Bz ≤ 40) (hl0 : 1 ≤ log) (hl1 : log ≤ 12) (hl2 : 3 + 3 * log ≤ Bz) :
    Calls Tryz.prog 4 #[.int .i64 (N : Int), .int .i64 (Bz : Int), .int .i64 (log : Int), .slice a3 len3 cap3] w fun e w' => e = .returned (.bool true) ∧ Below w.heap.size w w' := by
  have HO := Lib.hid hO
  have HF := Lib.hid hF
  have hml := hO.m
  have hle := hO.le
  unfold maxLen at hml
  have HS := Lib.hid (small_all (N : Int) (Bz : Int) (log : Int) w)
  have HN := Lib.hid (New_any (N + 1 + log) Bz (by omega) (by omega) (by omega) (by omega) w)
  rw [show ((N + 1 + log : Nat) : Int) = (N : Int) + 1 + (log : Int) by omega] at HN
  clear hO hF
  go_enter Tryz.func4, Tryz.ntmps4
  go_wp2_with fail
  refine HS.out.mono ?_
  rintro e w' ⟨rfl | ⟨rfl, hy⟩, rfl⟩
  · go_wp2
    go_ret
    exact ⟨rfl, Below.refl _ _⟩
  clear hy HS
  go_wp2_with fail
  refine HF.out.mono ?_
  rintro e w' ⟨rfl | ⟨rfl, hfew⟩, rfl⟩
  · go_wp2
    go_ret
    exact ⟨rfl, Below.refl _ _⟩
  have hlen3 := hfew.1
  have HFW := Lib.hid hfew.2
  clear hfew HF
  go_wp2_with fail
  refine HN.out.mono ?_
  rintro e w1 ⟨g, D, rfl, hdisk, hD, hb1⟩
  have HOP := Lib.hid (lopen_new w1 g D N Bz log hdisk (by omega) (by omega) (by omega) (by omega) (by omega) (by omega))
  have HD := Lib.hid hD
  have HB1 := Lib.hid hb1
  obtain ⟨s0, hs0⟩ : ∃ s0, S.new (N + 1 + log) Bz = s0 := ⟨_, rfl⟩
  rw [hs0] at HOP
  have HS0 : Hid (s0.deeds = 0) := by rw [← hs0]; exact rfl
  clear hdisk hD hb1 hs0 HN
  obtain ⟨M, hM⟩ : ∃ M, mapN N Bz = M := ⟨_, rfl⟩
  simp only [hM] at HOP
  have HM := Lib.hid hM
  clear hM
  by_cases hMN : M + 2 ≤ N
  · simp only [if_pos hMN] at HOP
    go_wp2_with fail
    refine HOP.out.mono ?_
    rintro e w2 ⟨⟨pp, q, D2, rfl, hsp, hD2⟩, hf2⟩
    have hsb : SpB w w2 pp q g s0 log N Bz M (fun _ => zeros Bz) := ⟨D2, hsp, fun k hk => (hD2 k hk).elim (HD.out k) (fun e => by have := HB1.out.size; omega), HB1.out.trans (hf2.below HD.out HB1.out.size)⟩
    obtain ⟨L0, hL0⟩ : ∃ L0 : Nat → List UInt8, (fun _ => zeros Bz) = L0 := ⟨_, rfl⟩
    rw [hL0] at hsb
    have HLx := look_any w w2 pp q g s0 log N Bz M L0 hsb (by omega) (by omega)
    obtain ⟨hs, hhs⟩ : ∃ hs : ByteArray, ⟨(lkTo N Bz M (TX.new L0) N).toArray⟩ = hs := ⟨_, rfl⟩
    rw [hhs] at HLx
    have HLx := Lib.hid HLx
    have HLK := Lib.hid hhs
    clear hsp hD2 hf2 HOP HB1 HD hsb hhs hL0
    go_wp2_with fail
    refine HLx.out.mono ?_
    rintro e w3 ⟨rfl, tx, hy1⟩
    have HBG := Lib.hid (bBegin w w3 pp q g s0 log N Bz M L0 hy1.sp)
    clear hy1 HLx
    go_wp2_with fail
    refine HBG.out.mono ?_
    rintro e w4 ⟨t, rfl, hy2⟩
    have HYB := Lib.hid hy2
    clear hy2 HBG
    go_wp2
    go_loopw [11, 12, 13, 14] (fun pv hv tv iv wr => ∃ (k pp q t : Nat) (s : S) (L : Nat → List UInt8) (T : TX) (hs : ByteArray), k ≤ len3 ∧ pv = .pointer (some ⟨pp, 0, none⟩) ∧ hv = .string hs ∧ tv = .pointer (some ⟨t, 0, none⟩) ∧ iv = .int .i64 k ∧ (⟨(lkTo N Bz M (TX.new L) N).toArray⟩ : ByteArray) = hs ∧ SyB w wr pp t q g s log N Bz M L T ∧ s.deeds ≤ 200 * k) (fun _ _ _ i _ => len3 - (RowKit.intOf i).toNat)
    case atStart => exact ⟨0, pp, q, t, s0, L0, _, hs, Nat.zero_le _, rfl, rfl, rfl, rfl, HLK.out, HYB.out, by have := HS0.out; omega⟩
    case round =>
      clear HYB HS0 HLK
      obtain ⟨k, pp, q, t, s, L, T, hs, hk, rfl, rfl, rfl, rfl, hlk, hy, hde⟩ := hrel
      have HLK := Lib.hid hlk
      clear hlk
      by_cases hlt : k < len3
      · obtain ⟨ga, oa, c, rfl, hga, hc⟩ := HO.out.at_ k hlt
        have hcw := hc.keep hga hy.bel
        have hfe := HFW.out k hlt ga oa c rfl hc
        obtain ⟨call, pg, bA, bl, bc, bs, kA, kl, kc, ks⟩ := c
        have c0 := hcw.c0
        have c1 := hcw.c1
        have c2 := hcw.c2
        have c3 := hcw.c3
        have hw1 := hc.w1
        have HRB := Lib.hid hc.rb
        have HRQ := Lib.hid hc.rq
        dsimp only at c0 c1 c2 c3 hw1 HRB HRQ hfe
        obtain ⟨hfb, hfk⟩ := hfe
        clear hcw hc HO HFW
        obtain ⟨zo, hzo⟩ : ∃ zo, wr.heap.size = zo := ⟨_, rfl⟩
        obtain ⟨WB, hWB⟩ : ∃ WB, wr.alloc (.cells #[.int .i64 call, .int .i64 pg, .slice bA bl bc, .slice kA kl kc] 42) = WB := ⟨_, rfl⟩
        have hBB : Below wr.heap.size wr WB := by rw [← hWB]; exact (Below.refl _ _).alloc (Nat.le_refl _) _
        have hzB : WB.heap[zo]? = some (.cells #[.int .i64 call, .int .i64 pg, .slice bA bl bc, .slice kA kl kc] 42 (0, 0)) := by rw [← hWB, ← hzo]; exact heap_alloc_new wr _
        obtain ⟨b0, b1, b2, b3⟩ := op_cells hzB
        have HY : Hid (SyB w WB pp t q g s log N Bz M L T) := hy.grow hBB
        clear hBB hzB hy
        by_cases q0 : call = 0
        · subst q0
          as_aux_lemma =>
            have HY2 := HY
            have HLK2 := HLK
            have hde2 : s.deeds ≤ 200 * (k + 1) := by omega
            clear HY HRB HRQ
            have HLx := look_any w _ pp q g s log N Bz M L HY2.out.sp (by omega) (by omega)
            rw [HLK2.out] at HLx
            have HLx := Lib.hid HLx
            go_wp2_with fail
            refine HLx.out.mono ?_
            rintro e V1 ⟨rfl, tx, hy3⟩
            have HBG := Lib.hid (bBegin w _ pp q g s log N Bz M L hy3.sp)
            clear HLx hy3 HY2
            go_wp2_with fail
            refine HBG.out.mono ?_
            rintro e V2 ⟨t3, rfl, hy4⟩
            have HY4 := Lib.hid hy4
            clear HBG hy4
            have HY2 := HY4
            have HU := Lib.hid (bUp HY2.out)
            clear hzo hWB b0 b1 b2 b3 c0 c1 c2 c3
            go_wp2_with fail
            refine HU.out.mono ?_
            rintro e V ⟨rfl, rfl⟩
            clear HU
            go_wp2
            go_roundw
            case rel => exact ⟨k + 1, pp, q, t3, s, L, (TX.new L), hs, by omega, rfl, rfl, rfl, by go_num, HLK2.out, HY2.out, hde2⟩
            case measure => simp [RowKit.intOf]; omega
        by_cases q1 : call = 1
        · subst q1
          as_aux_lemma =>
            have H1 := bTake w WB pp t q g s log N Bz M L T HY.out
            obtain ⟨T2, a2, e2, hre⟩ : ∃ x y z, T.take N Bz M = (x, y, z) := ⟨_, _, _, rfl⟩
            rw [hre] at H1
            have H1 := Lib.hid H1
            clear hre
            go_wp2_with fail
            refine H1.out.mono ?_
            rintro e W1 ⟨rfl, hy1⟩
            have HY2 := Lib.hid hy1
            have HLK2 := HLK
            have hde2 : s.deeds ≤ 200 * (k + 1) := by omega
            clear H1 hy1 HY HRB HRQ
            by_cases hf0 : e2 = 0
            · subst hf0
              have HU := Lib.hid (bUp HY2.out)
              clear hzo hWB b0 b1 b2 b3 c0 c1 c2 c3
              go_wp2_with fail
              refine HU.out.mono ?_
              rintro e V ⟨rfl, rfl⟩
              clear HU
              go_wp2
              go_roundw
              case rel => exact ⟨k + 1, pp, q, t, s, L, T2, hs, by omega, rfl, rfl, rfl, by go_num, HLK2.out, HY2.out, hde2⟩
              case measure => simp [RowKit.intOf]; omega
            · have hfb : (e2 != 0) = true := by simp [hf0]
              have hfc : (e2 == 0) = false := by simp [hf0]
              have HU := Lib.hid (bUp HY2.out)
              clear hzo hWB b0 b1 b2 b3 c0 c1 c2 c3
              go_wp2_with fail
              refine HU.out.mono ?_
              rintro e V ⟨rfl, rfl⟩
              clear HU
              have HLx := look_any w _ pp q g s log N Bz M L HY2.out.sp (by omega) (by omega)
              rw [HLK2.out] at HLx
              have HLx := Lib.hid HLx
              go_wp2_with fail
              refine HLx.out.mono ?_
              rintro e V1 ⟨rfl, tx, hy3⟩
              have HBG := Lib.hid (bBegin w _ pp q g s log N Bz M L hy3.sp)
              clear HLx hy3 HY2
              go_wp2_with fail
              refine HBG.out.mono ?_
              rintro e V2 ⟨t3, rfl, hy4⟩
              have HY4 := Lib.hid hy4
              clear HBG hy4
              go_wp2
              go_roundw
              case rel => exact ⟨k + 1, pp, q, t3, s, L, (TX.new L), hs, by omega, rfl, rfl, rfl, by go_num, HLK2.out, HY4.out, hde2⟩
              case measure => simp [RowKit.intOf]; omega
        by_cases q2 : call = 2
        · subst q2
          as_aux_lemma =>
            have H1 := bGive w WB pp t q g s log N Bz M L T HY.out pg
            obtain ⟨T2, e2, hre⟩ : ∃ x y, T.give N Bz M pg = (x, y) := ⟨_, _, rfl⟩
            rw [hre] at H1
            have H1 := Lib.hid H1
            clear hre
            go_wp2_with fail
            refine H1.out.mono ?_
            rintro e W1 ⟨rfl, hy1⟩
            have HY2 := Lib.hid hy1
            have HLK2 := HLK
            have hde2 : s.deeds ≤ 200 * (k + 1) := by omega
            clear H1 hy1 HY HRB HRQ
            by_cases hf0 : e2 = 0
            · subst hf0
              have HU := Lib.hid (bUp HY2.out)
              clear hzo hWB b0 b1 b2 b3 c0 c1 c2 c3
              go_wp2_with fail
              refine HU.out.mono ?_
              rintro e V ⟨rfl, rfl⟩
              clear HU
              go_wp2
              go_roundw
              case rel => exact ⟨k + 1, pp, q, t, s, L, T2, hs, by omega, rfl, rfl, rfl, by go_num, HLK2.out, HY2.out, hde2⟩
              case measure => simp [RowKit.intOf]; omega
            · have hfb : (e2 != 0) = true := by simp [hf0]
              have hfc : (e2 == 0) = false := by simp [hf0]
              have HU := Lib.hid (bUp HY2.out)
              clear hzo hWB b0 b1 b2 b3 c0 c1 c2 c3
              go_wp2_with fail
              refine HU.out.mono ?_
              rintro e V ⟨rfl, rfl⟩
              clear HU
              have HLx := look_any w _ pp q g s log N Bz M L HY2.out.sp (by omega) (by omega)
              rw [HLK2.out] at HLx
              have HLx := Lib.hid HLx
              go_wp2_with fail
              refine HLx.out.mono ?_
              rintro e V1 ⟨rfl, tx, hy3⟩
              have HBG := Lib.hid (bBegin w _ pp q g s log N Bz M L hy3.sp)
              clear HLx hy3 HY2
              go_wp2_with fail
              refine HBG.out.mono ?_
              rintro e V2 ⟨t3, rfl, hy4⟩
              have HY4 := Lib.hid hy4
              clear HBG hy4
              go_wp2
              go_roundw
              case rel => exact ⟨k + 1, pp, q, t3, s, L, (TX.new L), hs, by omega, rfl, rfl, rfl, by go_num, HLK2.out, HY4.out, hde2⟩
              case measure => simp [RowKit.intOf]; omega
        by_cases q4 : call = 4
        · subst q4
          as_aux_lemma =>
            have H1 := bWriteC HY.out pg bA bl bc bs HRB.out (by omega)
            obtain ⟨T2, e2, hre⟩ : ∃ x y, T.write N Bz M pg bs = (x, y) := ⟨_, _, rfl⟩
            rw [hre] at H1
            have H1 := Lib.hid H1
            clear hre
            go_wp2_with fail
            refine H1.out.mono ?_
            rintro e W1 ⟨rfl, hy1⟩
            have HY2 := Lib.hid hy1
            have HLK2 := HLK
            have hde2 : s.deeds ≤ 200 * (k + 1) := by omega
            clear H1 hy1 HY HRB HRQ
            by_cases hf0 : e2 = 0
            · subst hf0
              have HU := Lib.hid (bUp HY2.out)
              clear hzo hWB b0 b1 b2 b3 c0 c1 c2 c3
              go_wp2_with fail
              refine HU.out.mono ?_
              rintro e V ⟨rfl, rfl⟩
              clear HU
              go_wp2
              go_roundw
              case rel => exact ⟨k + 1, pp, q, t, s, L, T2, hs, by omega, rfl, rfl, rfl, by go_num, HLK2.out, HY2.out, hde2⟩
              case measure => simp [RowKit.intOf]; omega
            · have hfb : (e2 != 0) = true := by simp [hf0]
              have hfc : (e2 == 0) = false := by simp [hf0]
              have HU := Lib.hid (bUp HY2.out)
              clear hzo hWB b0 b1 b2 b3 c0 c1 c2 c3
              go_wp2_with fail
              refine HU.out.mono ?_
              rintro e V ⟨rfl, rfl⟩
              clear HU
              have HLx := look_any w _ pp q g s log N Bz M L HY2.out.sp (by omega) (by omega)
              rw [HLK2.out] at HLx
              have HLx := Lib.hid HLx
              go_wp2_with fail
              refine HLx.out.mono ?_
              rintro e V1 ⟨rfl, tx, hy3⟩
              have HBG := Lib.hid (bBegin w _ pp q g s log N Bz M L hy3.sp)
              clear HLx hy3 HY2
              go_wp2_with fail
              refine HBG.out.mono ?_
              rintro e V2 ⟨t3, rfl, hy4⟩
              have HY4 := Lib.hid hy4
              clear HBG hy4
              go_wp2
              go_roundw
              case rel => exact ⟨k + 1, pp, q, t3, s, L, (TX.new L), hs, by omega, rfl, rfl, rfl, by go_num, HLK2.out, HY4.out, hde2⟩
              case measure => simp [RowKit.intOf]; omega
        by_cases q5 : call = 5
        · subst q5
          as_aux_lemma =>
            have H1 := bSetRoot w WB pp t q g s log N Bz M L T HY.out pg
            obtain ⟨T2, e2, hre⟩ : ∃ x y, T.setRoot N Bz M pg = (x, y) := ⟨_, _, rfl⟩
            rw [hre] at H1
            have H1 := Lib.hid H1
            clear hre
            go_wp2_with fail
            refine H1.out.mono ?_
            rintro e W1 ⟨rfl, hy1⟩
            have HY2 := Lib.hid hy1
            have HLK2 := HLK
            have hde2 : s.deeds ≤ 200 * (k + 1) := by omega
            clear H1 hy1 HY HRB HRQ
            by_cases hf0 : e2 = 0
            · subst hf0
              have HU := Lib.hid (bUp HY2.out)
              clear hzo hWB b0 b1 b2 b3 c0 c1 c2 c3
              go_wp2_with fail
              refine HU.out.mono ?_
              rintro e V ⟨rfl, rfl⟩
              clear HU
              go_wp2
              go_roundw
              case rel => exact ⟨k + 1, pp, q, t, s, L, T2, hs, by omega, rfl, rfl, rfl, by go_num, HLK2.out, HY2.out, hde2⟩
              case measure => simp [RowKit.intOf]; omega
            · have hfb : (e2 != 0) = true := by simp [hf0]
              have hfc : (e2 == 0) = false := by simp [hf0]
              have HU := Lib.hid (bUp HY2.out)
              clear hzo hWB b0 b1 b2 b3 c0 c1 c2 c3
              go_wp2_with fail
              refine HU.out.mono ?_
              rintro e V ⟨rfl, rfl⟩
              clear HU
              have HLx := look_any w _ pp q g s log N Bz M L HY2.out.sp (by omega) (by omega)
              rw [HLK2.out] at HLx
              have HLx := Lib.hid HLx
              go_wp2_with fail
              refine HLx.out.mono ?_
              rintro e V1 ⟨rfl, tx, hy3⟩
              have HBG := Lib.hid (bBegin w _ pp q g s log N Bz M L hy3.sp)
              clear HLx hy3 HY2
              go_wp2_with fail
              refine HBG.out.mono ?_
              rintro e V2 ⟨t3, rfl, hy4⟩
              have HY4 := Lib.hid hy4
              clear HBG hy4
              go_wp2
              go_roundw
              case rel => exact ⟨k + 1, pp, q, t3, s, L, (TX.new L), hs, by omega, rfl, rfl, rfl, by go_num, HLK2.out, HY4.out, hde2⟩
              case measure => simp [RowKit.intOf]; omega
        by_cases q6 : call = 6
        · subst q6
          as_aux_lemma =>
            have HSE := sees_any w WB pp t q g s log N Bz M L T HY.out (by omega) (by omega)
            have hcom := fun b (h : SyB w b pp t q g s log N Bz M L T) => bCommitA h (by omega)
            have hinv := HY.out.inv
            have hgood := HY.out.good
            have hdmT := HY.out.dm
            unfold seesS at HSE
            cases hd : T.done
            · rw [hd] at HSE
              simp only [Bool.false_eq_true, if_false] at HSE
              obtain ⟨ns, hns⟩ : ∃ ns : ByteArray, ⟨(lkTo N Bz M T N).toArray⟩ = ns := ⟨_, rfl⟩
              have hnn : ns.toList.isEmpty = false := by
                rw [← hns]
                exact lk_ne N Bz M T N
              have hcc : (T.commit N Bz M log L).2.2 = 8 ∧ (T.commit N Bz M log L).1 = L ∨ (T.commit N Bz M log L).2.2 = 0 ∧ (⟨(lkTo N Bz M (TX.new (T.commit N Bz M log L).1) N).toArray⟩ : ByteArray) = ns := by
                rw [← hns]
                exact commit_cases hgood.1 hdmT hd (hinv hd).1 (hinv hd).2
              rw [hns] at HSE
              obtain ⟨L2, T2, er, hre⟩ : ∃ x y z, T.commit N Bz M log L = (x, y, z) := ⟨_, _, _, rfl⟩
              rw [hre] at hcom hcc
              have HSE := Lib.hid HSE
              have HCOM := Lib.hid hcom
              clear hcom hre hinv hgood hdmT hns hd HRB HRQ
              go_wp2_with fail
              refine HSE.out.mono ?_
              rintro e W1 ⟨rfl, hy1⟩
              have HC1 := Lib.hid (HCOM.out W1 hy1)
              clear hzo hWB b0 b1 b2 b3 c0 c1 c2 c3 hy1 HSE HY HCOM
              go_wp2_with fail
              refine HC1.out.mono ?_
              rintro e W2 (⟨rfl, s2, hy2, hd2⟩ | ⟨rfl, _, he0, t1, hkd, hd1, hrv⟩)
              · (try dsimp only at hy2 hcc)
                have HY2 := Lib.hid hy2
                clear hy2 HC1
                rcases hcc with ⟨rfl, rfl⟩ | ⟨rfl, hln⟩
                · have HLK2 := HLK
                  have hde2 : s2.deeds ≤ 200 * (k + 1) := by omega
                  clear hnn
                  have HU := Lib.hid (bUp HY2.out)
                  skip
                  go_wp2_with fail
                  refine HU.out.mono ?_
                  rintro e V ⟨rfl, rfl⟩
                  clear HU
                  have HLx := look_any w _ pp q g s2 log N Bz M L2 HY2.out.sp (by omega) (by omega)
                  rw [HLK2.out] at HLx
                  have HLx := Lib.hid HLx
                  go_wp2_with fail
                  refine HLx.out.mono ?_
                  rintro e V1 ⟨rfl, tx, hy3⟩
                  have HBG := Lib.hid (bBegin w _ pp q g s2 log N Bz M L2 hy3.sp)
                  clear HLx hy3 HY2
                  go_wp2_with fail
                  refine HBG.out.mono ?_
                  rintro e V2 ⟨t3, rfl, hy4⟩
                  have HY4 := Lib.hid hy4
                  clear HBG hy4
                  go_wp2
                  go_roundw
                  case rel => exact ⟨k + 1, pp, q, t3, s2, L2, (TX.new L2), hs, by omega, rfl, rfl, rfl, by go_num, HLK2.out, HY4.out, hde2⟩
                  case measure => simp [RowKit.intOf]; omega
                · have HLK2 := Lib.hid hln
                  have hde2 : s2.deeds ≤ 200 * (k + 1) := by omega
                  clear hln
                  have HLx := look_any w _ pp q g s2 log N Bz M L2 HY2.out.sp (by omega) (by omega)
                  rw [HLK2.out] at HLx
                  have HLx := Lib.hid HLx
                  go_wp2_with fail
                  refine HLx.out.mono ?_
                  rintro e V1 ⟨rfl, tx, hy3⟩
                  have HBG := Lib.hid (bBegin w _ pp q g s2 log N Bz M L2 hy3.sp)
                  clear HLx hy3 HY2
                  go_wp2_with fail
                  refine HBG.out.mono ?_
                  rintro e V2 ⟨t3, rfl, hy4⟩
                  have HY4 := Lib.hid hy4
                  clear HBG hy4
                  have HY2 := HY4
                  clear HY4 hnn
                  have HU := Lib.hid (bUp HY2.out)
                  skip
                  go_wp2_with fail
                  refine HU.out.mono ?_
                  rintro e V ⟨rfl, rfl⟩
                  clear HU
                  go_wp2
                  go_roundw
                  case rel => exact ⟨k + 1, pp, q, t3, s2, L2, (TX.new L2), ns, by omega, rfl, rfl, rfl, by go_num, HLK2.out, HY2.out, hde2⟩
                  case measure => simp [RowKit.intOf]; omega
              · (try dsimp only at he0 hcc hrv)
                clear HC1
                subst he0
                have hln : (⟨(lkTo N Bz M (TX.new L2) N).toArray⟩ : ByteArray) = ns := by
                  rcases hcc with ⟨h, _⟩ | ⟨_, h⟩
                  · cases h
                  · exact h
                clear hcc
                rcases hrv with ⟨hrv, hgd⟩ | ⟨hrv, hgd⟩
                · have HREV := Lib.hid hrv
                  have HGOOD := Lib.hid hgd
                  have HLK2 := HLK
                  clear hrv hgd hln
                  have HON := Lib.hid (kOn hkd)
                  clear hkd
                  go_wp2_with fail
                  refine HON.out.mono ?_
                  rintro e W3 ⟨⟨v3, rfl⟩, hkd⟩
                  have HOP := Lib.hid (kOpen (M := M) hkd HREV.out HGOOD.out HM.out hMN (by omega))
                  clear hkd HON
                  go_wp2_with fail
                  refine HOP.out.mono ?_
                  rintro e W4 ⟨pp2, q2, s3, rfl, hsp, hd3⟩
                  have HLx := look_any w W4 pp2 q2 g s3 log N Bz M L hsp (by omega) (by omega)
                  rw [HLK2.out] at HLx
                  have HLx := Lib.hid HLx
                  have hde2 : s3.deeds ≤ 200 * (k + 1) := by omega
                  clear HOP hsp
                  go_wp2_with fail
                  refine HLx.out.mono ?_
                  rintro e V1 ⟨rfl, tx, hy3⟩
                  have HY2 := trivial
                  have HBG := Lib.hid (bBegin w _ pp2 q2 g s3 log N Bz M L hy3.sp)
                  clear HLx hy3 HY2
                  go_wp2_with fail
                  refine HBG.out.mono ?_
                  rintro e V2 ⟨t3, rfl, hy4⟩
                  have HY4 := Lib.hid hy4
                  clear HBG hy4
                  have HY2 := HY4
                  clear HY4
                  have HU := Lib.hid (bUp HY2.out)
                  skip
                  go_wp2_with fail
                  refine HU.out.mono ?_
                  rintro e V ⟨rfl, rfl⟩
                  clear HU
                  have HLx := look_any w _ pp2 q2 g s3 log N Bz M L HY2.out.sp (by omega) (by omega)
                  rw [HLK2.out] at HLx
                  have HLx := Lib.hid HLx
                  go_wp2_with fail
                  refine HLx.out.mono ?_
                  rintro e V11 ⟨rfl, tx, hy3⟩
                  have HBG := Lib.hid (bBegin w _ pp2 q2 g s3 log N Bz M L hy3.sp)
                  clear HLx hy3 HY2
                  go_wp2_with fail
                  refine HBG.out.mono ?_
                  rintro e V12 ⟨t4, rfl, hy4⟩
                  have HY4 := Lib.hid hy4
                  clear HBG hy4
                  go_wp2
                  go_roundw
                  case rel => exact ⟨k + 1, pp2, q2, t4, s3, L, (TX.new L), hs, by omega, rfl, rfl, rfl, by go_num, HLK2.out, HY4.out, hde2⟩
                  case measure => simp [RowKit.intOf]; omega
                · have HREV := Lib.hid hrv
                  have HGOOD := Lib.hid hgd
                  have HLK2 := Lib.hid hln
                  clear hrv hgd hln
                  by_cases hnh : ns.toList = hs.toList
                  · obtain rfl : ns = hs := ba_ext hnh
                    clear hnh
                    have HON := Lib.hid (kOn hkd)
                    clear hkd
                    go_wp2_with fail
                    refine HON.out.mono ?_
                    rintro e W3 ⟨⟨v3, rfl⟩, hkd⟩
                    have HOP := Lib.hid (kOpen (M := M) hkd HREV.out HGOOD.out HM.out hMN (by omega))
                    clear hkd HON
                    go_wp2_with fail
                    refine HOP.out.mono ?_
                    rintro e W4 ⟨pp2, q2, s3, rfl, hsp, hd3⟩
                    have HLx := look_any w W4 pp2 q2 g s3 log N Bz M L2 hsp (by omega) (by omega)
                    rw [HLK2.out] at HLx
                    have HLx := Lib.hid HLx
                    have hde2 : s3.deeds ≤ 200 * (k + 1) := by omega
                    clear HOP hsp
                    go_wp2_with fail
                    refine HLx.out.mono ?_
                    rintro e V1 ⟨rfl, tx, hy3⟩
                    have HY2 := trivial
                    have HBG := Lib.hid (bBegin w _ pp2 q2 g s3 log N Bz M L2 hy3.sp)
                    clear HLx hy3 HY2
                    go_wp2_with fail
                    refine HBG.out.mono ?_
                    rintro e V2 ⟨t3, rfl, hy4⟩
                    have HY4 := Lib.hid hy4
                    clear HBG hy4
                    have HY2 := HY4
                    clear HY4
                    have HU := Lib.hid (bUp HY2.out)
                    skip
                    go_wp2_with fail
                    refine HU.out.mono ?_
                    rintro e V ⟨rfl, rfl⟩
                    clear HU
                    have HLx := look_any w _ pp2 q2 g s3 log N Bz M L2 HY2.out.sp (by omega) (by omega)
                    rw [HLK2.out] at HLx
                    have HLx := Lib.hid HLx
                    go_wp2_with fail
                    refine HLx.out.mono ?_
                    rintro e V11 ⟨rfl, tx, hy3⟩
                    have HBG := Lib.hid (bBegin w _ pp2 q2 g s3 log N Bz M L2 hy3.sp)
                    clear HLx hy3 HY2
                    go_wp2_with fail
                    refine HBG.out.mono ?_
                    rintro e V12 ⟨t4, rfl, hy4⟩
                    have HY4 := Lib.hid hy4
                    clear HBG hy4
                    go_wp2
                    go_roundw
                    case rel => exact ⟨k + 1, pp2, q2, t4, s3, L2, (TX.new L2), ns, by omega, rfl, rfl, rfl, by go_num, HLK2.out, HY4.out, hde2⟩
                    case measure => simp [RowKit.intOf]; omega
                  · have hnh1 : decide (ns.toList = hs.toList) = false := by simp [hnh]
                    have hnh2 : (ns.toList == hs.toList) = false := by simp [hnh]
                    have HON := Lib.hid (kOn hkd)
                    clear hkd
                    go_wp2_with fail
                    refine HON.out.mono ?_
                    rintro e W3 ⟨⟨v3, rfl⟩, hkd⟩
                    have HOP := Lib.hid (kOpen (M := M) hkd HREV.out HGOOD.out HM.out hMN (by omega))
                    clear hkd HON
                    go_wp2_with fail
                    refine HOP.out.mono ?_
                    rintro e W4 ⟨pp2, q2, s3, rfl, hsp, hd3⟩
                    have HLx := look_any w W4 pp2 q2 g s3 log N Bz M L2 hsp (by omega) (by omega)
                    rw [HLK2.out] at HLx
                    have HLx := Lib.hid HLx
                    have hde2 : s3.deeds ≤ 200 * (k + 1) := by omega
                    clear HOP hsp
                    go_wp2_with fail
                    refine HLx.out.mono ?_
                    rintro e V1 ⟨rfl, tx, hy3⟩
                    have HY2 := trivial
                    have HBG := Lib.hid (bBegin w _ pp2 q2 g s3 log N Bz M L2 hy3.sp)
                    clear HLx hy3 HY2
                    go_wp2_with fail
                    refine HBG.out.mono ?_
                    rintro e V2 ⟨t3, rfl, hy4⟩
                    have HY4 := Lib.hid hy4
                    clear HBG hy4
                    have HY2 := HY4
                    clear HY4
                    have HU := Lib.hid (bUp HY2.out)
                    skip
                    go_wp2_with fail
                    refine HU.out.mono ?_
                    rintro e V ⟨rfl, rfl⟩
                    clear HU
                    have HLx := look_any w _ pp2 q2 g s3 log N Bz M L2 HY2.out.sp (by omega) (by omega)
                    rw [HLK2.out] at HLx
                    have HLx := Lib.hid HLx
                    go_wp2_with fail
                    refine HLx.out.mono ?_
                    rintro e V11 ⟨rfl, tx, hy3⟩
                    have HBG := Lib.hid (bBegin w _ pp2 q2 g s3 log N Bz M L2 hy3.sp)
                    clear HLx hy3 HY2
                    go_wp2_with fail
                    refine HBG.out.mono ?_
                    rintro e V12 ⟨t4, rfl, hy4⟩
                    have HY4 := Lib.hid hy4
                    clear HBG hy4
                    go_wp2
                    go_roundw
                    case rel => exact ⟨k + 1, pp2, q2, t4, s3, L2, (TX.new L2), ns, by omega, rfl, rfl, rfl, by go_num, HLK2.out, HY4.out, hde2⟩
                    case measure => simp [RowKit.intOf]; omega
            · rw [hd] at HSE
              simp only [if_true] at HSE
              have hre : T.commit N Bz M log L = (L, T, 1) := by unfold TX.commit; rw [hd]; rfl
              rw [hre] at hcom
              have HSE := Lib.hid HSE
              have HCOM := Lib.hid hcom
              have HDN := Lib.hid hd
              clear hcom hre hinv hgood hdmT hd HRB HRQ
              go_wp2_with fail
              refine HSE.out.mono ?_
              rintro e W1 ⟨rfl, hy1⟩
              have HC1 := Lib.hid (HCOM.out W1 hy1)
              clear hzo hWB b0 b1 b2 b3 c0 c1 c2 c3 hy1 HSE HY HCOM
              go_wp2_with fail
              refine HC1.out.mono ?_
              rintro e W2 (⟨rfl, s2, hy2, hd2⟩ | ⟨_, hd9, _⟩)
              · (try dsimp only at hy2)
                have HY2 := Lib.hid hy2
                have HLK2 := HLK
                have hde2 : s2.deeds ≤ 200 * (k + 1) := by omega
                clear hy2 HC1
                have HU := Lib.hid (bUp HY2.out)
                skip
                go_wp2_with fail
                refine HU.out.mono ?_
                rintro e V ⟨rfl, rfl⟩
                clear HU
                have HLx := look_any w _ pp q g s2 log N Bz M L HY2.out.sp (by omega) (by omega)
                rw [HLK2.out] at HLx
                have HLx := Lib.hid HLx
                go_wp2_with fail
                refine HLx.out.mono ?_
                rintro e V1 ⟨rfl, tx, hy3⟩
                have HBG := Lib.hid (bBegin w _ pp q g s2 log N Bz M L hy3.sp)
                clear HLx hy3 HY2
                go_wp2_with fail
                refine HBG.out.mono ?_
                rintro e V2 ⟨t3, rfl, hy4⟩
                have HY4 := Lib.hid hy4
                clear HBG hy4
                go_wp2
                go_roundw
                case rel => exact ⟨k + 1, pp, q, t3, s2, L, (TX.new L), hs, by omega, rfl, rfl, rfl, by go_num, HLK2.out, HY4.out, hde2⟩
                case measure => simp [RowKit.intOf]; omega
              · rw [HDN.out] at hd9; cases hd9
        by_cases q7 : call = 7
        · subst q7
          as_aux_lemma =>
            have H1 := Lib.hid (bArm HY.out pg hw1.2 kA kl kc ks (HRQ.out.keep HY.out.bel) (by omega))
            go_wp2_with fail
            refine H1.out.mono ?_
            rintro e W1 ⟨⟨v, rfl⟩, hy1⟩
            have HY2 := Lib.hid hy1
            have HLK2 := HLK
            have hde2 : (s.arm pg ks).deeds ≤ 200 * (k + 1) := by show s.deeds ≤ _; omega
            obtain ⟨s2, hs2⟩ : ∃ s2, s.arm pg ks = s2 := ⟨_, rfl⟩
            rw [hs2] at HY2 hde2
            clear H1 hy1 HY HRB HRQ hs2
            have HU := Lib.hid (bUp HY2.out)
            clear hzo hWB b0 b1 b2 b3 c0 c1 c2 c3
            go_wp2_with fail
            refine HU.out.mono ?_
            rintro e V ⟨rfl, rfl⟩
            clear HU
            go_wp2
            go_roundw
            case rel => exact ⟨k + 1, pp, q, t, s2, L, T, hs, by omega, rfl, rfl, rfl, by go_num, HLK2.out, HY2.out, hde2⟩
            case measure => simp [RowKit.intOf]; omega
        by_cases q8 : call = 8
        · subst q8
          as_aux_lemma =>
            have H1 := Lib.hid (bCrash HY.out (by omega) kA kl kc ks (HRQ.out.keep HY.out.bel))
            have HGOOD := Lib.hid HY.out.good
            go_wp2_with fail
            refine H1.out.mono ?_
            rintro e W1 ⟨⟨v, rfl⟩, hkd, hrev, hdd⟩
            obtain ⟨s2, hs2⟩ : ∃ s2, s.crash ks = s2 := ⟨_, rfl⟩
            rw [hs2] at hkd hrev hdd
            have HREV := Lib.hid hrev
            have HLK2 := HLK
            have HKU := Lib.hid (kUp hkd hrev.1)
            clear H1 HY HRB HRQ hs2 hrev hzo hWB b0 b1 b2 b3 c0 c1 c2 c3
            go_wp2_with fail
            refine HKU.out.mono ?_
            rintro e W2 ⟨rfl, rfl⟩
            have HON := Lib.hid (kOn hkd)
            clear hkd HKU
            go_wp2_with fail
            refine HON.out.mono ?_
            rintro e W3 ⟨⟨v3, rfl⟩, hkd⟩
            have HOP := Lib.hid (kOpen (M := M) hkd HREV.out HGOOD.out HM.out hMN (by omega))
            clear hkd HON
            go_wp2_with fail
            refine HOP.out.mono ?_
            rintro e W4 ⟨pp2, q2, s3, rfl, hsp, hd3⟩
            have HLx := look_any w W4 pp2 q2 g s3 log N Bz M L hsp (by omega) (by omega)
            rw [HLK2.out] at HLx
            have HLx := Lib.hid HLx
            have hde2 : s3.deeds ≤ 200 * (k + 1) := by omega
            clear HOP hsp
            go_wp2_with fail
            refine HLx.out.mono ?_
            rintro e V1 ⟨rfl, tx, hy3⟩
            have HY2 := trivial
            have HBG := Lib.hid (bBegin w _ pp2 q2 g s3 log N Bz M L hy3.sp)
            clear HLx hy3 HY2
            go_wp2_with fail
            refine HBG.out.mono ?_
            rintro e V2 ⟨t3, rfl, hy4⟩
            have HY4 := Lib.hid hy4
            clear HBG hy4
            go_wp2
            go_roundw
            case rel => exact ⟨k + 1, pp2, q2, t3, s3, L, (TX.new L), hs, by omega, rfl, rfl, rfl, by go_num, HLK2.out, HY4.out, hde2⟩
            case measure => simp [RowKit.intOf]; omega
        as_aux_lemma =>
          have HY2 := HY
          have HLK2 := HLK
          have hde2 : s.deeds ≤ 200 * (k + 1) := by omega
          clear HY HRB HRQ
          have HU := Lib.hid (bUp HY2.out)
          skip
          go_wp2_with fail
          refine HU.out.mono ?_
          rintro e V ⟨rfl, rfl⟩
          clear HU
          go_wp2
          go_roundw
          case rel => exact ⟨k + 1, pp, q, t, s, L, T, hs, by omega, rfl, rfl, rfl, by go_num, HLK2.out, HY2.out, hde2⟩
          case measure => simp [RowKit.intOf]; omega
      · obtain rfl : k = len3 := by omega
        clear HO HFW hde
        have HAW := Lib.hid (awake_any wr)
        have hbl := hy.bel
        go_wp2_with fail
        refine HAW.out.mono ?_
        rintro e w9 ⟨rfl, hb⟩
        have HBL : Hid (Below w.heap.size w w9) := hbl.trans (hb.mono hbl.size)
        clear hb hy hbl
        go_wp2
        go_ret
        exact ⟨rfl, HBL.out⟩
  · simp only [if_neg hMN] at HOP
    go_wp2_with fail
    refine HOP.out.mono ?_
    rintro e w2 ⟨rfl, hf2⟩
    have HB2 : Hid (Below w.heap.size w w2) := HB1.out.trans (hf2.below HD.out HB1.out.size)
    have HAW := Lib.hid (awake_any w2)
    clear hf2 HOP HO HFW
    go_wp2_with fail
    refine HAW.out.mono ?_
    rintro e w9 ⟨rfl, hb⟩
    have HBL : Hid (Below w.heap.size w w9) := HB2.out.trans (hb.mono HB2.out.size)
    clear hb
    go_wp2
    go_ret
    exact ⟨rfl, HBL.out⟩

set_option maxRecDepth 100000 in
set_option maxHeartbeats 4000000 in
theorem walk (a0 : Int) (a1 : Int) (a2 : Int) (a3 : Option Addr) (len3 cap3 : Nat) (w : World) (w0 : (Lit.int .i64 a0).wf = true) (w1 : (Lit.int .i64 a1).wf = true) (w2 : (Lit.int .i64 a2).wf = true) (w3 : IsO w a3 len3 cap3) :
    Calls Tryz.prog 4 #[.int .i64 a0, .int .i64 a1, .int .i64 a2, .slice a3 len3 cap3] w fun e w' => e = .returned (.bool true) ∧ Below w.heap.size w w' := by
  have b0 := bounds_i64 w0
  have b1 := bounds_i64 w1
  have b2 := bounds_i64 w2
  have HO := Lib.hid w3
  have HF := Lib.hid (few_any w a3 len3 cap3 w3)
  by_cases hs : 3 ≤ a0 ∧ a0 ≤ 160 ∧ 16 ≤ a1 ∧ a1 ≤ 40 ∧ 1 ≤ a2 ∧ a2 ≤ 12 ∧ 3 + 3 * a2 ≤ a1
  · obtain ⟨N, rfl⟩ := Int.eq_ofNat_of_zero_le (show 0 ≤ a0 by omega)
    obtain ⟨Bz, rfl⟩ := Int.eq_ofNat_of_zero_le (show 0 ≤ a1 by omega)
    obtain ⟨log, rfl⟩ := Int.eq_ofNat_of_zero_le (show 0 ≤ a2 by omega)
    exact walkGood N Bz log a3 len3 cap3 w HO.out HF.out (by omega) (by omega) (by omega) (by omega) (by omega) (by omega) (by omega)
  · have HS := Lib.hid (small_all a0 a1 a2 w)
    have HNS := Lib.hid hs
    clear w3 hs
    go_enter Tryz.func4, Tryz.ntmps4
    go_wp2_with fail
    refine HS.out.mono ?_
    rintro e w' ⟨rfl | ⟨rfl, hy⟩, rfl⟩
    · go_wp2
      go_ret
      exact ⟨rfl, Below.refl _ _⟩
    · exact absurd hy HNS.out

set_option maxRecDepth 100000 in
theorem lifted (os : Os) (started : os.Started) (H : Type) (enc : TypeId × Value → H) :
    ReturnsInHanded {} Tryz.checked os 4 .any (Rows.pagesCutsSpec.pre6 enc Tryz.prog Tryz.f4 Rows.pagesCutsRow.domain false) (Rows.pagesCutsSpec.post enc Tryz.prog Tryz.f4 false true false false) := by
  refine returnsInHanded_of_change (C := Tryz.checked) own started (by kernel_rfl) Tryz.func4
    (ChangeSpec.witness6 (enc := enc) (C := Tryz.checked) false ⟨#[], #[.int .i64 0, .int .i64 0, .int .i64 0, .slice none 0 0], []⟩ 8 (by kernel_rfl) (by kernel_rfl) (by kernel_rfl) (by kernel_rfl)) ?_
  intro W base args ds gs before hval0 hW hcnd _
  have hval : ∀ (j : Nat) t v, Tryz.f4.params[j]? = some t → args[j]? = some v → Value.okWide Tryz.prog W .any base t v := hval0
  have hW' := hW
  obtain ⟨p, q, hA0, hV, rfl, hfz, hnd⟩ := hW
  have hA : DataW.TrodAll enc Tryz.prog W 0 (fun _ => true) true Tryz.f4.params.toList args.toList ds p := hA0
  rw [Tryz.params4] at hA hval
  obtain ⟨v0, vs0, d0, ds0, p0, q0, hargs, rfl, rfl, h0, r0⟩ := trodAll_cons hA
  obtain ⟨v1, vs1, d1, ds1, p1, q1, rfl, rfl, rfl, h1, r1⟩ := trodAll_cons r0
  obtain ⟨v2, vs2, d2, ds2, p2, q2, rfl, rfl, rfl, h2, r2⟩ := trodAll_cons r1
  obtain ⟨v3, vs3, d3, ds3, p3, q3, rfl, rfl, rfl, h3, r3⟩ := trodAll_cons r2
  obtain ⟨rfl, rfl, rfl⟩ := trodAll_nil r3
  obtain rfl : args = #[v0, v1, v2, v3] := by cases args; simp_all
  obtain ⟨rfl, rfl⟩ := trodVars_none hV
  obtain ⟨a0, rfl, rfl, rfl, w0⟩ := open_int Tryz.underlying3 (hval 0 3 v0 rfl rfl) h0
  obtain ⟨a1, rfl, rfl, rfl, w1⟩ := open_int Tryz.underlying3 (hval 1 3 v1 rfl rfl) h1
  obtain ⟨a2, rfl, rfl, rfl, w2⟩ := open_int Tryz.underlying3 (hval 2 3 v2 rfl rfl) h2
  obtain ⟨a3, len3, cap3, rfl⟩ := okWide_slice Tryz.underlying22 (hval 3 22 v3 rfl rfl)
  have k3 := h3
  have lt3 : ∀ x ∈ p3, x.block < W.heap.size := by obtain ⟨m, hm⟩ := k3; exact DataW.trod_lt m _ _ _ hm
  have w3 : IsO W a3 len3 cap3 := by
    obtain ⟨fuel, hf⟩ := h3
    exact IsO.of hf
  clear hA0 hval0
  refine (walk a0 a1 a2 a3 len3 cap3 W w0 w1 w2 w3).mono fun e W' ⟨he, bel⟩ => ?_
  subst he
  exact ⟨_, rfl, _, _, _, [], _, [], hW', trodAll_mk1 (shut_bool Tryz.underlying4 _), (trodAll_cons_mk (shut_int Tryz.underlying3 w0) (trodAll_cons_mk (shut_int Tryz.underlying3 w1) (trodAll_cons_mk (shut_int Tryz.underlying3 w2) (trodAll_cons_mk (Below.trod laidOut (by kernel_rfl) (of_decide_eq_true (by kernel_rfl)) k3 bel lt3) trodAll_mk0)))), rfl, bel.frame _, fun h => by cases h⟩

theorem over : Rows.pagesCutsRow.holds Tryz.pinned (OpenSpec.ofChange Rows.pagesCutsSpec) :=
  OpenClaim.holds_of_wide 4 Tryz.f4 rfl rfl rfl rfl rfl rfl rfl ⟨rfl, rfl, rfl, rfl, rfl⟩ rfl rfl rfl rfl rfl (by kernel_rfl) Tryz.func4 (by kernel_rfl)
    (of_decide_eq_true (by kernel_rfl)) (by unfold Func.isWrapper; first | (rw [if_pos (by decide +kernel)]; kernel_rfl) | (rw [if_neg (by decide +kernel)]; exact ⟨rfl, rfl⟩))
    (fun os started H enc _ => lifted os started H enc)

/-- the statement. -/
theorem proved : Rows.PagesCutsSaid := over
#print axioms proved
end Go.Proofs.YtephmcbofcfpmaaGreat.pagesCuts
