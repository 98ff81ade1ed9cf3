/-
  The statement 'PagesGive' (chandlerylaw07) holds at every input: the call returns true and leaves its arguments as they were. Conditions: none beyond the row's own.
-/
import Derived.Test.YtjoglmkiphdfiaaRows
import Derived.Test.YtjoglmkiphdfiaaJ33
import Derived.WalkKit
import Derived.ProofKit
import Derived.OpenShut
import Derived.ChangeOld
import Derived.Below
namespace Go.Proofs.Ytjoglmkiphdfiaa.pagesGive
open Go.ChangeShapes Go.WideShapes Go.ChangeAt Go.RowKit Go.Bs Go.Dk Go.Proofs.Ytjoglmkiphdfiaa.Rp
set_option linter.unusedVariables false

theorem own : ownKnob Try.prog.godebug = none := by kernel_rfl
theorem laidOut : laidOutB Try.prog = true := by kernel_rfl

theorem mapN_small (N Bz : Nat) (h1 : N ≤ 160) (h2 : 16 ≤ Bz) : mapN N Bz ≤ 2 := by
  unfold mapN
  refine Nat.le_of_lt_succ (Nat.div_lt_of_lt_mul ?_)
  omega

set_option maxRecDepth 100000 in
set_option maxHeartbeats 4000000 in
theorem walk (a0 : Int) (a1 : Int) (a2 : Int) (a3 : Option Addr) (len3 cap3 : Nat) (w : World) (w0 : (Lit.int .i64 a0).wf = true) (w1 : (Lit.int .i64 a1).wf = true) (w2 : (Lit.int .i64 a2).wf = true) (w3 : IsQ w a3 len3 cap3) :
    Calls Try.prog 5 #[.int .i64 a0, .int .i64 a1, .int .i64 a2, .slice a3 len3 cap3] w fun e w' => e = .returned (.bool true) ∧ Below w.heap.size w w' := by
  obtain ⟨hmx, ks3, hq3⟩ := w3
  by_cases hsm : 3 ≤ a0 ∧ a0 ≤ 160 ∧ 16 ≤ a1 ∧ a1 ≤ 40
  · obtain ⟨N, rfl⟩ : ∃ N : Nat, a0 = N := ⟨a0.toNat, by omega⟩
    obtain ⟨Bz, rfl⟩ : ∃ Bz : Nat, a1 = Bz := ⟨a1.toNat, by omega⟩
    have hN0 : 3 ≤ N := by omega
    have hN1 : N ≤ 160 := by omega
    have hB0 : 16 ≤ Bz := by omega
    have hB1 : Bz ≤ 40 := by omega
    obtain ⟨lg, hlg⟩ : ∃ lg, (Bz - 3) / 3 = lg := ⟨_, rfl⟩
    have hl0 : 4 ≤ lg := by omega
    have hl1 : lg ≤ 12 := by omega
    have hl3 : 3 + 3 * lg ≤ Bz := by omega
    have HS := Lib.hid (small_yes (N : Int) (Bz : Int) (lg : Int) (by omega) (by omega) (by omega) (by omega) (by omega) (by omega) (by omega) w)
    have HMN := Lib.hid (mapN_small N Bz hN1 hB0)
    have hE : ((Bz : Int) - 3).tdiv 3 = (lg : Int) := by
      rw [Int.tdiv_eq_ediv_of_nonneg (by omega)]
      omega
    have hE2 : ((Bz : Int) - 3) / 3 = (lg : Int) := by omega
    have hmin : min (lg : Int) 12 = (lg : Int) := by omega
    by_cases hm : 0 ≤ a2 ∧ a2 ≤ 8
    · by_cases hl20 : len3 ≤ 20
      · obtain ⟨mn, rfl⟩ : ∃ mn : Nat, a2 = mn := ⟨a2.toNat, by omega⟩
        have hmn8 : mn ≤ 8 := by omega
        have HN := Lib.hid (New_any (N + 1 + lg) Bz (by omega) (by omega) (by omega) (by omega) w)
        rw [show ((N + 1 + lg : Nat) : Int) = (N : Int) + 1 + (lg : Int) by omega] at HN
        have HQ := Lib.hid hq3
        clear hq3 hsm w0 w1 w2 hlg hm
        go_enter Try.func5, Try.ntmps5
        go_wp2_with fail
        refine HS.out.mono ?_
        rintro e w1 ⟨rfl, rfl⟩
        go_wp2_with fail
        refine HN.out.mono ?_
        rintro e w1 ⟨g, D, rfl, hdisk, hD, hb1⟩
        have HO := Lib.hid (lopen_new w1 g D N Bz lg hdisk (by omega) (by omega) (by omega) (by omega) (by omega) (by omega))
        have HD := Lib.hid hD
        have HB1 := Lib.hid hb1
        have HSD := Lib.hid (show (S.new (N + 1 + lg) Bz).left = 0 ∧ (S.new (N + 1 + lg) Bz).deeds = 0 from ⟨rfl, rfl⟩)
        obtain ⟨s0, hs0⟩ : ∃ s0, S.new (N + 1 + lg) Bz = s0 := ⟨_, rfl⟩
        rw [hs0] at HO HSD
        clear hdisk hD hb1 hs0
        obtain ⟨M, hM⟩ : ∃ M, mapN N Bz = M := ⟨_, rfl⟩
        rw [hM] at HMN HO
        have HMM := Lib.hid hM
        clear hM
        by_cases hMN : M + 2 ≤ N
        · simp only [if_pos hMN] at HO
          go_wp2_with fail
          refine HO.out.mono ?_
          rintro e w2 ⟨⟨pp, q, D2, rfl, hsp, hD2⟩, hf2⟩
          have hsi : ∃ Dx, Sp w2 pp q g s0 lg N Bz M (fun _ => zeros Bz) Dx ∧ (∀ k, Dx k → w.heap.size ≤ k) ∧ Below w.heap.size w w2 := ⟨D2, hsp, fun k hk => (hD2 k hk).elim (HD.out k) (fun e => by have := HB1.out.size; omega), HB1.out.trans (hf2.below HD.out HB1.out.size)⟩
          have hdm : Dm N Bz M (fun _ => zeros Bz) := by obtain ⟨_, x, _⟩ := hsp; exact x.dL
          have HSI := Lib.hid hsi
          have HDM := Lib.hid hdm
          have HFR := Lib.hid (bFree w w2 pp q g s0 lg N Bz M (fun _ => zeros Bz) hsi)
          have hfree : freeN N Bz M (fun _ => zeros Bz) N = N - (M + 0 + 1) := free_fst (fun p => (Fst.new hdm).used p)
          rw [hfree] at HFR
          obtain ⟨al, hal⟩ : ∃ al, N - (M + 0 + 1) = al := ⟨_, rfl⟩
          rw [hal] at HFR
          clear hsp hD2 hf2 hsi hdm hfree
          go_wp2_with fail
          refine HFR.out.mono ?_
          rintro e w3 ⟨rfl, hsp3⟩
          have HBG := Lib.hid (bBegin w w3 pp q g s0 lg N Bz M (fun _ => zeros Bz) hsp3)
          clear hsp3
          go_wp2_with fail
          refine HBG.out.mono ?_
          rintro e w4 ⟨t, rfl, hy4⟩
          have hsi4 : Si w w4 pp t q g s0 lg N Bz M (fun _ => zeros Bz) (TX.new fun _ => zeros Bz) (.slice none 0 0) [] := by
            obtain ⟨Dx, x1, x2, x3⟩ := hy4
            exact ⟨Dx, x1, x2, x3, OwnI.nil _ _, fun k e => by cases e⟩
          have HS4 := Lib.hid hsi4
          clear hy4 hsi4
          go_wp2
          go_loopw [17, 16] (fun i v wr => ∃ k : Nat, k ≤ mn ∧ i = .int .i64 k ∧ ∃ T j, Fst N Bz M T j ∧ j ≤ k ∧ Si w wr pp t q g s0 lg N Bz M (fun _ => zeros Bz) T v ((List.range j).map (M + 1 + ·))) (fun i _ _ => mn - (RowKit.intOf i).toNat)
          case atStart => exact ⟨0, Nat.zero_le _, rfl, _, 0, Fst.new HDM.out, Nat.zero_le _, HS4.out⟩
          case round =>
            obtain ⟨k, hk, rfl, T, j, hfst, hjk, hsi⟩ := hrel
            have HSI := Lib.hid hsi
            have HFS := Lib.hid hfst
            have hjN := hfst.jN
            by_cases hlt : k < mn
            · have HT := Lib.hid (iTake w wr pp t q g s0 lg N Bz M (fun _ => zeros Bz) T _ _ hsi)
              by_cases hfull : M + 1 + j < N
              · obtain ⟨ht1, ht2⟩ := hfst.take.1 hfull
                rw [ht1] at HT
                have HT2 := Lib.hid ht2
                clear hsi hfst ht1 ht2
                go_wp2_with fail
                refine HT.out.mono ?_
                rintro e w5 ⟨rfl, hs5⟩
                obtain ⟨X, hX⟩ : ∃ X, w5.alloc (.cells #[.int .i64 ((M + 1 + j : Nat) : Int)] 3) = X := ⟨_, rfl⟩
                obtain ⟨v', w6, hrun, hs6⟩ := hs5.app (by simp; omega) (M + 1 + j) X hX
                obtain ⟨pj, hpj⟩ : ∃ pj, M + 1 + j = pj := ⟨_, rfl⟩
                rw [hpj] at hX
                obtain ⟨ys, hys⟩ : ∃ ys, w5.heap.size = ys := ⟨_, rfl⟩
                rw [hys] at hrun
                have HRUN := Lib.hid hrun
                have HS6 := Lib.hid hs6
                rw [hpj]
                have HPJ := Lib.hid hpj
                clear hs5 hs6 hrun hpj
                go_wp2_with (at_builtin; refine wpList_run_appT _ rfl (.tmp 91) (.tmp 93) 22 rfl _ _ _ _ rfl rfl HRUN.out ?_)
                go_roundw
                case rel =>
                  refine ⟨k + 1, by omega, by go_num, _, j + 1, HT2.out, by omega, ?_⟩
                  rw [List.range_succ, List.map_append]
                  exact HS6.out
                case measure => simp [RowKit.intOf]; omega
              · have hfull2 : M + 1 + j = N := by omega
                have ht := hfst.take.2 hfull2
                rw [ht] at HT
                clear hsi hfst ht hfull2
                go_wp2_with fail
                refine HT.out.mono ?_
                rintro e w5 ⟨rfl, hs5⟩
                have HS5 := Lib.hid hs5
                clear hs5
                go_wp2
                go_roundw
                case rel => exact ⟨k + 1, by omega, by go_num, T, j, HFS.out, by omega, HS5.out⟩
                case measure => simp [RowKit.intOf]; omega
            · have hlive := hfst.live
              have hru := hfst.used
              have hdT := hfst.d
              have HCO := Lib.hid (iCommit w wr pp t q g s0 lg N Bz M (fun _ => zeros Bz) T _ _ hsi HSD.out.1 (by rw [HSD.out.2]; omega))
              have hfree0 : freeN N Bz M (fun _ => zeros Bz) N = al := by rw [← hal]; exact free_fst (fun p => (Fst.new HDM.out).used p)
              by_cases hc : lg < chgN N Bz M (fun _ => zeros Bz) T.end_ N
              · have hcm : T.commit N Bz M lg (fun _ => zeros Bz) = (fun _ => zeros Bz, T.end_, 8) := by
                  unfold TX.commit
                  rw [hlive]
                  simp only [Bool.false_eq_true, if_false]
                  rw [if_pos hc]
                rw [hcm] at HCO
                have HF0 := Lib.hid hfree0
                clear hsi hfst hlive hru hdT hcm hc hfree0 hal
                go_wp2_with fail
                refine HCO.out.mono ?_
                rintro e w5 ⟨rfl, s5, hs5, _, _⟩
                have HF5 := Lib.hid (iFree w w5 pp t q g s5 lg N Bz M (fun _ => zeros Bz) T.end_ _ _ hs5)
                rw [HF0.out] at HF5
                clear hs5
                go_wp2_with fail
                refine HF5.out.mono ?_
                rintro e w6 ⟨rfl, hs6⟩
                have HB6 : Hid (Below w.heap.size w w6) := by obtain ⟨_, _, _, x, _⟩ := hs6; exact x
                clear hs6
                go_wp2_with fail
                refine (awake_any w6).mono ?_
                rintro e w7 ⟨rfl, hb7⟩
                have HB7 := Lib.hid (HB6.out.trans (hb7.mono HB6.out.size))
                clear hb7
                go_wp2
                go_ret
                exact ⟨rfl, HB7.out⟩
              · obtain ⟨L1, hL1⟩ : ∃ L1, outK N Bz M (fun _ => zeros Bz) T.end_ N = L1 := ⟨_, rfl⟩
                have hcm : T.commit N Bz M lg (fun _ => zeros Bz) = (L1, T.end_, 0) := by
                  unfold TX.commit
                  rw [hlive]
                  simp only [Bool.false_eq_true, if_false]
                  rw [if_neg hc, hL1]
                rw [hcm] at HCO
                have hu1 : ∀ p : Nat, usedP N Bz M L1 (p : Int) = (decide (M < p) && decide (p ≤ M + j)) := fun p => by rw [← hL1]; exact (out_used (T := T.end_) hdT (p : Int)).trans (hru p)
                obtain ⟨nn, hnn⟩ : ∃ nn, N - (M + j + 1) = nn := ⟨_, rfl⟩
                have hf1 : freeN N Bz M L1 N = nn := by rw [← hnn]; exact free_fst hu1
                have hd1 : Dm N Bz M L1 := by rw [← hL1]; exact outK_dm HDM.out hdT N
                have hr1 : le32 (L1 M) = 0 := by
                  rw [← hL1, outK_at M (by omega), if_neg]
                  · show le32 (zeros Bz) = 0
                    rw [zeros_enc Bz (by omega)]
                    exact le32_enc Bz 0 (by omega) (by omega)
                  · intro hmem
                    have := (chgs_mem.1 hmem).2
                    unfold chgAt chg1 at this
                    rw [used_le (Nat.le_refl _)] at this
                    have hrt : (T.end_).root = false := hfst.rt
                    rw [hrt] at this
                    simp at this
                have HSN := Lib.hid (Snd.start hd1 (by omega) hr1 hu1 nn hf1)
                have HF1 := Lib.hid hf1
                have hne : ((nn : Int) != (al : Int) - (j : Int)) = false := by
                  have : (nn : Int) = (al : Int) - (j : Int) := by omega
                  rw [this]; simp
                have hall : al ≤ 160 := by omega
                have hjl : j ≤ 8 := by omega
                have hnl : nn ≤ 160 := by omega
                have HJN : Hid (M + 1 + j ≤ N) := Lib.hid hjN
                obtain ⟨A, c, rfl, hcc, hform⟩ : ∃ A c, u16 = .slice A j c ∧ j ≤ c ∧ True := by
                  obtain ⟨_, _, _, _, x, _⟩ := hsi
                  obtain ⟨A, c, e, hcc, _⟩ := x.rd
                  rw [List.length_map, List.length_range] at e hcc
                  exact ⟨A, c, e, hcc, trivial⟩
                clear hsi hfst hlive hru hdT hcm hc hfree0 hal hu1 hf1 hd1 hr1 hL1 hnn hform hjN
                go_wp2_with fail
                refine HCO.out.mono ?_
                rintro e w5 ⟨rfl, s5, hs5, hl5, hde5⟩
                have HL5 := Lib.hid (And.intro hl5 hde5)
                have HF5 := Lib.hid (iFree w w5 pp t q g s5 lg N Bz M L1 T.end_ _ _ hs5)
                rw [HF1.out] at HF5
                clear hs5 hl5 hde5
                go_wp2_with fail
                refine HF5.out.mono ?_
                rintro e w6 ⟨rfl, hs6⟩
                have HBG6 := Lib.hid (iBegin w w6 pp t q g s5 lg N Bz M L1 T.end_ _ _ hs6)
                clear hs6
                go_wp2_with fail
                refine HBG6.out.mono ?_
                rintro e w7 ⟨u, rfl, hs7⟩
                have HS7 := Lib.hid hs7
                clear hs7
                go_wp2
                go_loopw [26, 25, 24] (fun i gv fv wr => ∃ k gone first : Nat, ∃ T2 : TX, k ≤ j ∧ gone ≤ k ∧ first ≤ 200 ∧ i = .int .i64 k ∧ gv = .int .i64 gone ∧ fv = .int .i64 first ∧ Snd N Bz M T2 j nn k first gone ∧ Si w wr pp u q g s5 lg N Bz M L1 T2 (.slice A j c) ((List.range j).map (M + 1 + ·))) (fun i _ _ _ => j - (RowKit.intOf i).toNat)
                case atStart => exact ⟨0, 0, 0, _, Nat.zero_le _, Nat.le_refl _, Nat.zero_le _, rfl, rfl, rfl, HSN.out, HS7.out⟩
                case round =>
                  obtain ⟨k2, gone, first, T2, hk2, hgk, hf200, rfl, rfl, rfl, hsnd, hsi⟩ := hrel
                  have HSND := Lib.hid hsnd
                  have HSI2 := Lib.hid hsi
                  by_cases hlt2 : k2 < j
                  · have hkey : ((List.range j).map (M + 1 + ·)).getD k2 0 = M + 1 + k2 := by simp [List.getD, hlt2]
                    obtain ⟨_, _, _, hbw, hoi, _⟩ := hsi
                    obtain ⟨A', c', e', _, hfm⟩ := hoi.rd
                    rw [List.length_map, List.length_range] at e' hfm
                    cases e'
                    obtain ⟨gl, rfl, _, hgl, hcl⟩ := hfm (by omega)
                    have hck := hcl k2 hlt2
                    rw [hkey] at hck
                    have HBW := Lib.hid hbw
                    by_cases hg3 : k2 < len3
                    · obtain ⟨g3, o3, rfl, hg3l, hc3⟩ := HQ.out.cells (by omega)
                      have hb3 := (hbw.cell (p := ⟨g3, o3 + k2, none⟩) hg3l).trans (hc3 k2 hg3)
                      cases hbv : ks3.getD k2 false
                      · rw [hbv] at hb3
                        have HSK := Lib.hid (hsnd.skip hlt2)
                        clear hsnd hoi hfm hcl hc3 hbv hbw
                        go_wp2
                        go_roundw
                        case rel => exact ⟨k2 + 1, gone, first, T2, by omega, by omega, hf200, by go_num, rfl, rfl, HSK.out, HSI2.out⟩
                        case measure => simp [RowKit.intOf]; omega
                      · rw [hbv] at hb3
                        obtain ⟨hg0, hgs⟩ := hsnd.give hlt2
                        have HGI := Lib.hid (iGive w wr pp u q g s5 lg N Bz M L1 T2 _ _ HSI2.out ((M + 1 + k2 : Nat) : Int))
                        rw [hg0] at HGI
                        have HGS := Lib.hid hgs
                        obtain ⟨pk, hpk⟩ : ∃ pk, M + 1 + k2 = pk := ⟨_, rfl⟩
                        rw [hpk] at hck HGI HGS
                        have hpkl : pk ≤ 170 := by have := HJN.out; omega
                        have HPK := Lib.hid hpk
                        have HKEY := Lib.hid hkey
                        clear hsnd hoi hfm hcl hc3 hbv hbw hg0 hgs hpk hkey
                        by_cases hf0 : first = 0
                        · subst hf0
                          rw [if_pos rfl] at HGS
                          go_wp2_with fail
                          refine HGI.out.mono ?_
                          rintro e w8 ⟨rfl, hs8⟩
                          have hck8 : w8.cell? ⟨gl, k2, none⟩ = some (.int .i64 (pk : Int)) := by
                            obtain ⟨_, _, _, _, hoi, _⟩ := hs8
                            obtain ⟨A', c', e', _, hfm⟩ := hoi.rd
                            rw [List.length_map, List.length_range] at e' hfm
                            cases e'
                            obtain ⟨gl', e2, _, _, hcl⟩ := hfm (by omega)
                            cases e2
                            have := hcl k2 hlt2
                            rw [HKEY.out, HPK.out] at this
                            exact this
                          have HS8 := Lib.hid hs8
                          clear hs8
                          go_wp2
                          go_roundw
                          case rel => exact ⟨k2 + 1, gone + 1, pk, _, by omega, by omega, by omega, by go_num, by go_num, rfl, HGS.out, HS8.out⟩
                          case measure => simp [RowKit.intOf]; omega
                        · rw [if_neg hf0] at HGS
                          have hfe : ((first : Int) == 0) = false := by simp; omega
                          go_wp2_with fail
                          refine HGI.out.mono ?_
                          rintro e w8 ⟨rfl, hs8⟩
                          have HS8 := Lib.hid hs8
                          clear hs8
                          go_wp2
                          go_roundw
                          case rel => exact ⟨k2 + 1, gone + 1, first, _, by omega, by omega, by omega, by go_num, by go_num, rfl, HGS.out, HS8.out⟩
                          case measure => simp [RowKit.intOf]; omega
                    · have HSK := Lib.hid (hsnd.skip hlt2)
                      clear hsnd hoi hfm hcl hbw
                      go_wp2
                      go_roundw
                      case rel => exact ⟨k2 + 1, gone, first, T2, by omega, by omega, hf200, by go_num, rfl, rfl, HSK.out, HSI2.out⟩
                      case measure => simp [RowKit.intOf]; omega
                  · have hcg := hsnd.chg (L := L1)
                    have hlv := hsnd.live
                    obtain ⟨L2, hL2⟩ : ∃ L2, outK N Bz M L1 T2.end_ N = L2 := ⟨_, rfl⟩
                    have hcg' : chgN N Bz M L1 T2.end_ N ≤ M := hcg
                    have hcm2 : T2.commit N Bz M lg L1 = (L2, T2.end_, 0) := by
                      unfold TX.commit
                      rw [hlv]
                      simp only [Bool.false_eq_true, if_false]
                      rw [if_neg (by have := HMN.out; omega), hL2]
                    have hus2 : ∀ p : Int, usedP N Bz M L2 p = usedP N Bz M T2.L p := fun p => by rw [← hL2]; exact out_used (T := T2.end_) hsnd.d p
                    have hfr2 : freeN N Bz M L2 N = nn + gone := by
                      rw [← hsnd.fr]
                      unfold freeN
                      congr 1
                      refine List.filter_congr fun i _ => ?_
                      rw [free_used, free_used, hus2]
                    have HCO2 := Lib.hid (iCommit w wr pp u q g s5 lg N Bz M L1 T2 _ _ hsi HL5.out.1 (by have := HL5.out.2; rw [HSD.out.2] at this; omega))
                    rw [hcm2] at HCO2
                    have HFR2 := Lib.hid hfr2
                    have HTK := Lib.hid (fun hf => hsnd.take (T' := TX.new L2) hf rfl hus2)
                    have hgl8 : gone ≤ 8 := by omega
                    clear hsnd hsi hcg hcg' hlv hcm2 hus2 hfr2 hL2
                    go_wp2_with fail
                    refine HCO2.out.mono ?_
                    rintro e w8 ⟨rfl, s8, hs8, _, _⟩
                    have HF8 := Lib.hid (iFree w w8 pp u q g s8 lg N Bz M L2 T2.end_ _ _ hs8)
                    rw [HFR2.out] at HF8
                    clear hs8
                    go_wp2_with fail
                    refine HF8.out.mono ?_
                    rintro e w9 ⟨rfl, hs9⟩
                    have HB9 := Lib.hid (iBegin w w9 pp u q g s8 lg N Bz M L2 T2.end_ _ _ hs9)
                    have hnes : (((nn + gone : Nat) : Int) != (nn : Int) + (gone : Int)) = false := by simp
                    clear hs9
                    go_wp2_with fail
                    refine HB9.out.mono ?_
                    rintro e w10 ⟨x, rfl, hs10⟩
                    have HT10 := Lib.hid (iTake w w10 pp x q g s8 lg N Bz M L2 (TX.new L2) _ _ hs10)
                    clear hs10
                    by_cases hf0 : first = 0
                    · subst hf0
                      obtain ⟨tk, htk⟩ : ∃ tk, ((TX.new L2).take N Bz M).2 = tk := ⟨_, rfl⟩
                      rw [htk] at HT10
                      obtain ⟨ta, tb⟩ := tk
                      clear htk
                      go_wp2_with fail
                      refine HT10.out.mono ?_
                      rintro e w11 ⟨rfl, hs11⟩
                      have HB11 : Hid (Below w.heap.size w w11) := by obtain ⟨_, _, _, x, _⟩ := hs11; exact x
                      clear hs11
                      go_wp2_with fail
                      refine (awake_any w11).mono ?_
                      rintro e w12 ⟨rfl, hb12⟩
                      have HB12 := Lib.hid (HB11.out.trans (hb12.mono HB11.out.size))
                      clear hb12
                      go_wp2
                      go_ret
                      exact ⟨rfl, HB12.out⟩
                    · rw [HTK.out hf0] at HT10
                      have hfe : ((first : Int) == 0) = false := by simp; omega
                      go_wp2_with fail
                      refine HT10.out.mono ?_
                      rintro e w11 ⟨rfl, hs11⟩
                      have HB11 : Hid (Below w.heap.size w w11) := by obtain ⟨_, _, _, x, _⟩ := hs11; exact x
                      clear hs11
                      go_wp2_with fail
                      refine (awake_any w11).mono ?_
                      rintro e w12 ⟨rfl, hb12⟩
                      have HB12 := Lib.hid (HB11.out.trans (hb12.mono HB11.out.size))
                      clear hb12
                      go_wp2
                      go_ret
                      exact ⟨rfl, HB12.out⟩


        · simp only [if_neg hMN] at HO
          go_wp2_with fail
          refine HO.out.mono ?_
          rintro e w2 ⟨rfl, hf2⟩
          have HB2 := Lib.hid (HB1.out.trans (hf2.below HD.out HB1.out.size))
          clear hf2
          go_wp2_with fail
          refine (awake_any w2).mono ?_
          rintro e w5 ⟨rfl, hb5⟩
          have HB5 := Lib.hid (HB2.out.trans (hb5.mono HB2.out.size))
          clear hb5
          go_wp2
          go_ret
          exact ⟨rfl, HB5.out⟩
      · clear hq3 hsm w0 w1 w2 hlg
        go_enter Try.func5, Try.ntmps5
        go_wp2_with fail
        refine HS.out.mono ?_
        rintro e w1 ⟨rfl, rfl⟩
        go_wp2
        go_ret
        exact ⟨rfl, Below.refl _ _⟩
    · clear hq3 hsm w0 w1 w2 hlg
      by_cases hm0 : 0 ≤ a2
      · have hm8 : ¬ a2 ≤ 8 := fun h => hm ⟨hm0, h⟩
        clear hm
        go_enter Try.func5, Try.ntmps5
        go_wp2_with fail
        refine HS.out.mono ?_
        rintro e w1 ⟨rfl, rfl⟩
        go_wp2
        go_ret
        exact ⟨rfl, Below.refl _ _⟩
      · clear hm
        go_enter Try.func5, Try.ntmps5
        go_wp2_with fail
        refine HS.out.mono ?_
        rintro e w1 ⟨rfl, rfl⟩
        go_wp2
        go_ret
        exact ⟨rfl, Below.refl _ _⟩
  · have HS := Lib.hid (fun c => small_no a0 a1 c hsm w)
    clear hq3 hsm w0 w1 w2
    go_enter Try.func5, Try.ntmps5
    go_wp2_with fail
    refine (HS.out _).mono ?_
    rintro e w1 ⟨rfl, rfl⟩
    go_wp2
    go_ret
    exact ⟨rfl, Below.refl _ _⟩

set_option maxRecDepth 100000 in
theorem lifted (os : Os) (started : os.Started) (H : Type) (enc : TypeId × Value → H) :
    ReturnsInHanded {} Try.checked os 5 .any (Rows.pagesGiveSpec.pre6 enc Try.prog Try.f5 Rows.pagesGiveRow.domain false) (Rows.pagesGiveSpec.post enc Try.prog Try.f5 false true false false) := by
  refine returnsInHanded_of_change (C := Try.checked) own started (by kernel_rfl) Try.func5
    (ChangeSpec.witness6 (enc := enc) (C := Try.checked) false ⟨#[], #[.int .i64 0, .int .i64 0, .int .i64 0, .slice none 0 0], []⟩ 8 (by kernel_rfl) (by kernel_rfl) (by kernel_rfl) (by kernel_rfl)) ?_
  intro W base args ds gs before hval0 hW hcnd _
  have hval : ∀ (j : Nat) t v, Try.f5.params[j]? = some t → args[j]? = some v → Value.okWide Try.prog W .any base t v := hval0
  have hW' := hW
  obtain ⟨p, q, hA0, hV, rfl, hfz, hnd⟩ := hW
  have hA : DataW.TrodAll enc Try.prog W 0 (fun _ => true) true Try.f5.params.toList args.toList ds p := hA0
  rw [Try.params5] at hA hval
  obtain ⟨v0, vs0, d0, ds0, p0, q0, hargs, rfl, rfl, h0, r0⟩ := trodAll_cons hA
  obtain ⟨v1, vs1, d1, ds1, p1, q1, rfl, rfl, rfl, h1, r1⟩ := trodAll_cons r0
  obtain ⟨v2, vs2, d2, ds2, p2, q2, rfl, rfl, rfl, h2, r2⟩ := trodAll_cons r1
  obtain ⟨v3, vs3, d3, ds3, p3, q3, rfl, rfl, rfl, h3, r3⟩ := trodAll_cons r2
  obtain ⟨rfl, rfl, rfl⟩ := trodAll_nil r3
  obtain rfl : args = #[v0, v1, v2, v3] := by cases args; simp_all
  obtain ⟨rfl, rfl⟩ := trodVars_none hV
  obtain ⟨a0, rfl, rfl, rfl, w0⟩ := open_int Try.underlying3 (hval 0 3 v0 rfl rfl) h0
  obtain ⟨a1, rfl, rfl, rfl, w1⟩ := open_int Try.underlying3 (hval 1 3 v1 rfl rfl) h1
  obtain ⟨a2, rfl, rfl, rfl, w2⟩ := open_int Try.underlying3 (hval 2 3 v2 rfl rfl) h2
  obtain ⟨a3, len3, cap3, rfl⟩ := okWide_slice Try.underlying37 (hval 3 37 v3 rfl rfl)
  have k3 := h3
  have lt3 : ∀ x ∈ p3, x.block < W.heap.size := by obtain ⟨m, hm⟩ := k3; exact DataW.trod_lt m _ _ _ hm
  have w3 : IsQ W a3 len3 cap3 := by
    obtain ⟨fuel, hf⟩ := h3
    exact IsQ.of hf
  clear hA0 hval0
  refine (walk a0 a1 a2 a3 len3 cap3 W w0 w1 w2 w3).mono fun e W' ⟨he, bel⟩ => ?_
  subst he
  exact ⟨_, rfl, _, _, _, [], _, [], hW', trodAll_mk1 (shut_bool Try.underlying4 _), (trodAll_cons_mk (shut_int Try.underlying3 w0) (trodAll_cons_mk (shut_int Try.underlying3 w1) (trodAll_cons_mk (shut_int Try.underlying3 w2) (trodAll_cons_mk (Below.trod laidOut (by kernel_rfl) (of_decide_eq_true (by kernel_rfl)) k3 bel lt3) trodAll_mk0)))), rfl, bel.frame _, fun h => by cases h⟩

theorem over : Rows.pagesGiveRow.holds Try.pinned (OpenSpec.ofChange Rows.pagesGiveSpec) :=
  OpenClaim.holds_of_wide 5 Try.f5 rfl rfl rfl rfl rfl rfl rfl ⟨rfl, rfl, rfl, rfl, rfl⟩ rfl rfl rfl rfl rfl (by kernel_rfl) Try.func5 (by kernel_rfl)
    (of_decide_eq_true (by kernel_rfl)) (by unfold Func.isWrapper; first | (rw [if_pos (by decide +kernel)]; kernel_rfl) | (rw [if_neg (by decide +kernel)]; exact ⟨rfl, rfl⟩))
    (fun os started H enc _ => lifted os started H enc)

/-- the statement. -/
theorem proved : Rows.PagesGiveSaid := over
#print axioms proved
end Go.Proofs.Ytjoglmkiphdfiaa.pagesGive
