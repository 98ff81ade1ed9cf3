/-
  The statement 'PagesDoes' (chandlerylaw07) holds at every input: the call returns true and leaves its arguments as they were. Conditions: none beyond the row's own.
-/
import Derived.Test.YtephmcbofcfpmaaGreatRows
import Derived.Test.YtephmcbofcfpmaaGreatJ41
import Derived.Deep.RegionHeld3
import Derived.WalkKit
import Derived.ProofKit
import Derived.OpenShut
import Derived.ChangeOld
import Derived.Below
set_option linter.unusedSimpArgs false
set_option linter.unusedVariables false
namespace Go.Proofs.YtephmcbofcfpmaaGreat.pagesDoes
open Go.ChangeShapes Go.WideShapes Go.ChangeAt Go.RowKit Go.Bs Go.Dk Go.Proofs.YtephmcbofcfpmaaGreat.Rp
set_option linter.unusedVariables false

theorem own : ownKnob Tryz.prog.godebug = none := by kernel_rfl
theorem laidOut : laidOutB Tryz.prog = true := by kernel_rfl


theorem op_cells {w : World} {z : Nat} {v0 v1 v2 v3 : Value} (h : w.heap[z]? = some (.cells #[v0, v1, v2, v3] 42 (0, 0))) :
    w.cell? ⟨z, 0, none⟩ = some v0 ∧ w.cell? ⟨z, 1, none⟩ = some v1 ∧ w.cell? ⟨z, 2, none⟩ = some v2 ∧ w.cell? ⟨z, 3, none⟩ = some v3 := by
  refine ⟨?_, ?_, ?_, ?_⟩ <;> (rw [cell_of_row w z _ _ 42 (0, 0) h]; rfl)
theorem small_all (a b c : Int) (w : World) : Calls Tryz.prog 10 #[.int .i64 a, .int .i64 b, .int .i64 c] w fun e w' => (e = .returned (.bool false) ∨ (e = .returned (.bool true) ∧ 3 ≤ a ∧ a ≤ 160 ∧ 16 ≤ b ∧ b ≤ 40 ∧ 1 ≤ c ∧ c ≤ 12 ∧ 3 + 3 * c ≤ b)) ∧ w = w' := by
  by_cases h1 : 3 ≤ a
  · by_cases h2 : a ≤ 160
    · by_cases h3 : 16 ≤ b
      · by_cases h4 : b ≤ 40
        · by_cases h5 : 1 ≤ c
          · by_cases h6 : c ≤ 12
            · by_cases h7 : 3 + 3 * c ≤ b
              · go_enter Tryz.func10, Tryz.ntmps10
                go_wp2
                go_ret
                exact ⟨.inr ⟨rfl, h1, h2, h3, h4, h5, h6, h7⟩, rfl⟩
              · go_enter Tryz.func10, Tryz.ntmps10
                go_wp2
                go_ret
                exact ⟨.inl rfl, rfl⟩
            · go_enter Tryz.func10, Tryz.ntmps10
              go_wp2
              go_ret
              exact ⟨.inl rfl, rfl⟩
          · go_enter Tryz.func10, Tryz.ntmps10
            go_wp2
            go_ret
            exact ⟨.inl rfl, rfl⟩
        · go_enter Tryz.func10, Tryz.ntmps10
          go_wp2
          go_ret
          exact ⟨.inl rfl, rfl⟩
      · go_enter Tryz.func10, Tryz.ntmps10
        go_wp2
        go_ret
        exact ⟨.inl rfl, rfl⟩
    · go_enter Tryz.func10, Tryz.ntmps10
      go_wp2
      go_ret
      exact ⟨.inl rfl, rfl⟩
  · go_enter Tryz.func10, Tryz.ntmps10
    go_wp2
    go_ret
    exact ⟨.inl rfl, rfl⟩
set_option maxRecDepth 100000 in
set_option maxHeartbeats 32000000 in
theorem walkGood (N Bz log : Nat) (a3 : Option Addr) (len3 cap3 : Nat) (w : World) (hO : IsO w a3 len3 cap3)
    (hF : Calls Tryz.prog 11 #[.slice a3 len3 cap3] w fun e w' => (e = .returned (.bool false) ∨ (e = .returned (.bool true) ∧ few w a3 len3)) ∧ w = w')
    (hN0 : 3 ≤ N) (hN1 : N ≤ 160) (hB0 : 16 ≤ Bz) (hB1 : Bz ≤ 40) (hl0 : 1 ≤ log) (hl1 : log ≤ 12) (hl2 : 3 + 3 * log ≤ Bz) :
    Calls Tryz.prog 3 #[.int .i64 (N : Int), .int .i64 (Bz : Int), .int .i64 (log : Int), .slice a3 len3 cap3] w fun e w' => e = .returned (.bool true) ∧ Below w.heap.size w w' := by
  have HO := Lib.hid hO
  have HF := Lib.hid hF
  have hml := hO.m
  have hle := hO.le
  unfold maxLen at hml
  have HS := Lib.hid (small_all (N : Int) (Bz : Int) (log : Int) w)
  have HN := Lib.hid (New_any (N + 1 + log) Bz (by omega) (by omega) (by omega) (by omega) w)
  rw [show ((N + 1 + log : Nat) : Int) = (N : Int) + 1 + (log : Int) by omega] at HN
  clear hO hF
  go_enter Tryz.func3, Tryz.ntmps3
  go_wp2_with fail
  refine HS.out.mono ?_
  rintro e w' ⟨rfl | ⟨rfl, hy⟩, rfl⟩
  · go_wp2
    go_ret
    exact ⟨rfl, Below.refl _ _⟩
  clear hy HS
  go_wp2_with fail
  refine HF.out.mono ?_
  rintro e w' ⟨rfl | ⟨rfl, hfew⟩, rfl⟩
  · go_wp2
    go_ret
    exact ⟨rfl, Below.refl _ _⟩
  have hlen3 := hfew.1
  have HFW := Lib.hid hfew.2
  clear hfew HF
  go_wp2_with fail
  refine HN.out.mono ?_
  rintro e w1 ⟨g, D, rfl, hdisk, hD, hb1⟩
  have HOP := Lib.hid (lopen_new w1 g D N Bz log hdisk (by omega) (by omega) (by omega) (by omega) (by omega) (by omega))
  have HD := Lib.hid hD
  have HB1 := Lib.hid hb1
  obtain ⟨s0, hs0⟩ : ∃ s0, S.new (N + 1 + log) Bz = s0 := ⟨_, rfl⟩
  rw [hs0] at HOP
  have HS0 : Hid (s0.left = 0 ∧ s0.deeds = 0) := by rw [← hs0]; exact ⟨rfl, rfl⟩
  clear hdisk hD hb1 hs0 HN
  obtain ⟨M, hM⟩ : ∃ M, mapN N Bz = M := ⟨_, rfl⟩
  have HRN := fun w => Rp.New_any w N Bz log (by omega) (by omega) (by omega) (by omega) (by omega)
  simp only [hM] at HOP HRN
  have HRN := Lib.hid HRN
  clear hM
  by_cases hMN : M + 2 ≤ N
  · simp only [if_pos hMN] at HOP
    go_wp2_with fail
    refine HOP.out.mono ?_
    rintro e w2 ⟨⟨pp, q, D2, rfl, hsp, hD2⟩, hf2⟩
    have HSP : Hid (Sp w2 pp q g s0 log N Bz M (fun _ => zeros Bz) D2) := hsp
    have HDB : Hid (∀ k, D2 k → w.heap.size ≤ k) := fun k hk => (hD2 k hk).elim (HD.out k) (fun e => by have := HB1.out.size; omega)
    have HB2 : Hid (Below w.heap.size w w2) := HB1.out.trans (hf2.below HD.out HB1.out.size)
    clear hsp hD2 hf2 HOP HB1 HD
    have HRN2 := Lib.hid (HRN.out w2)
    simp only [decide_eq_true hMN] at HRN2
    go_wp2_with fail
    refine HRN2.out.mono ?_
    rintro e w3 ⟨r, lb, cap, rfl, hr1, hr2, hr3, hb3⟩
    have hdm : Dm N Bz M (fun _ => zeros Bz) := by obtain ⟨_, x, _⟩ := HSP.out; exact x.dL
    have HPG : Hid (Rp.PG w3 r N Bz M log (fun _ => zeros Bz) (fun k => k = r ∨ k = lb) lb cap) := by
      refine ⟨hr1, hr2, hdm, ⟨.inl rfl, .inr rfl⟩, fun k hk => ?_⟩
      rcases hk with rfl | rfl
      · exact hr3.2.2.2
      · exact hr3.2.2.1
    have HSP3 : Hid (Sp w3 pp q g s0 log N Bz M (fun _ => zeros Bz) D2) := HSP.out.keep hb3.size fun k hk => hb3.block k (HSP.out.lt k hk)
    have HD2L : Hid (∀ k, D2 k → k < w2.heap.size) := fun k hk => HSP.out.lt k hk
    have HR3 : Hid (w2.heap.size ≤ r ∧ w2.heap.size ≤ lb) := ⟨hr3.1, hr3.2.1⟩
    have HB3 : Hid (Below w.heap.size w w3) := HB2.out.trans (hb3.mono HB2.out.size)
    have HBG := Lib.hid (sBegin w3 pp q g s0 log N Bz M (fun _ => zeros Bz) D2 HSP3.out)
    have HSZ2 : Hid (w.heap.size ≤ w2.heap.size ∧ w2.heap.size ≤ w3.heap.size) := ⟨HB2.out.size, hb3.size⟩
    clear hr1 hr2 hr3 hb3 HRN2 HRN HSP HB2
    go_wp2_with fail
    refine HBG.out.mono ?_
    rintro e w4 ⟨t, rfl, _, hy4, _⟩
    obtain ⟨D4, k1, k2, k3⟩ := hy4
    have HPG4 : Hid (Rp.PG w4 r N Bz M log (fun _ => zeros Bz) (fun k => k = r ∨ k = lb) lb cap) := by
      have hk : ∀ k, (k = r ∨ k = lb) → w4.heap[k]? = w3.heap[k]? := fun k hk => k3.block k (HPG.out.blw k hk) (fun hd => by
        have := HD2L.out k hd
        have := HR3.out
        rcases hk with rfl | rfl <;> omega)
      exact ⟨(hk r (.inl rfl)).trans HPG.out.rowP, HPG.out.lP.keep (hk lb (.inr rfl)), hdm, ⟨.inl rfl, .inr rfl⟩, fun k hd => Nat.lt_of_lt_of_le (HPG.out.blw k hd) k3.size⟩
    have HBR := Lib.hid (Rp.Begin_any w4 r N Bz M log (fun _ => zeros Bz) _ lb cap HPG4.out)
    have HK1 := Lib.hid k1
    have HK2 : Hid ((∀ k, D4 k → w.heap.size ≤ k) ∧ (∀ k, D4 k → k ≠ r ∧ k ≠ lb)) := by
      have h1 := HPG.out.blw r (.inl rfl)
      have h2 := HPG.out.blw lb (.inr rfl)
      have h3 := HR3.out
      have h4 := HSZ2.out
      refine ⟨fun k hk => (k2 k hk).elim (HDB.out k) (fun e => by omega), fun k hk => (k2 k hk).elim (fun e => ?_) (fun e => by omega)⟩
      have := HD2L.out k e
      omega
    have HB4 : Hid (Below w.heap.size w w4) := HB3.out.trans (k3.below HDB.out HB3.out.size)
    clear k1 k2 k3 HBG HSP3 HPG
    go_wp2_with fail
    refine HBR.out.mono ?_
    rintro e w5 ⟨u, D5, rfl, hpt, hD5, hb5⟩
    have HTB : Hid (Twp w w5 pp t q g s0 r u log N Bz M (fun _ => zeros Bz) (TX.new fun _ => zeros Bz) (fun _ => zeros Bz) (TX.new fun _ => zeros Bz) (fun _ => False)) := by
      have h3 := HR3.out
      have h4 := HSZ2.out
      refine ⟨D4, D5, HK1.out.below hb5, hpt, HK2.out.1, fun k hk => ?_, fun k hk hk' => ?_, HB4.out.trans (hb5.mono HB4.out.size), fun k hk => hk.elim⟩
      · rcases hD5 k hk with (e | e) | e
        · omega
        · omega
        · exact Nat.le_trans HB4.out.size e
      · have h5 := HK2.out.2 k hk
        have h6 := HK1.out.lt k hk
        rcases hD5 k hk' with (e | e) | e
        · exact h5.1 e
        · exact h5.2 e
        · omega
    obtain ⟨L0, hL0⟩ : ∃ L0 : Nat → List UInt8, (fun _ => zeros Bz) = L0 := ⟨_, rfl⟩
    rw [hL0] at HTB
    clear hpt hD5 hb5 hL0 HBR HK1 HK2 HB4 HB3 HR3 HSZ2 HPG4 HD2L HDB
    go_wp2
    go_loopw [14, 15, 16] (fun tv uv i wr => ∃ (k t u : Nat) (s : S) (L : Nat → List UInt8) (T : TX), k ≤ len3 ∧ tv = .pointer (some ⟨t, 0, none⟩) ∧ uv = .pointer (some ⟨u, 0, none⟩) ∧ i = .int .i64 k ∧ Twp w wr pp t q g s r u log N Bz M L T L T (fun _ => False) ∧ s.left = 0 ∧ s.deeds ≤ 104 * k) (fun _ _ i _ => len3 - (RowKit.intOf i).toNat)
    case atStart => exact ⟨0, t, u, s0, _, _, Nat.zero_le _, rfl, rfl, rfl, HTB.out, HS0.out.1, by have := HS0.out.2; omega⟩
    case round =>
      obtain ⟨k, t, u, s, L, T, hk, rfl, rfl, rfl, hT, hlft, hde⟩ := hrel
      have HT := Lib.hid hT
      have HLF := Lib.hid hlft
      clear HTB HS0
      by_cases hlt : k < len3
      · obtain ⟨ga, oa, c, rfl, hga, hc⟩ := HO.out.at_ k hlt
        have hcw := hc.keep hga hT.bel
        have hfe := HFW.out k hlt ga oa c rfl hc
        obtain ⟨call, pg, bA, bl, bc, bs, kA, kl, kc, ks⟩ := c
        have c0 := hcw.c0
        have c1 := hcw.c1
        have c2 := hcw.c2
        have c3 := hcw.c3
        have hw1 := hc.w1
        have HRB := Lib.hid hc.rb
        dsimp only at c0 c1 c2 c3 hw1 HRB hfe
        obtain ⟨hfb, hfk⟩ := hfe
        clear hcw hc hT hlft HO HFW
        obtain ⟨zo, hzo⟩ : ∃ zo, wr.heap.size = zo := ⟨_, rfl⟩
        obtain ⟨WB, hWB⟩ : ∃ WB, wr.alloc (.cells #[.int .i64 call, .int .i64 pg, .slice bA bl bc, .slice kA kl kc] 42) = WB := ⟨_, rfl⟩
        have hBB : Below wr.heap.size wr WB := by rw [← hWB]; exact (Below.refl _ _).alloc (Nat.le_refl _) _
        have hzB : WB.heap[zo]? = some (.cells #[.int .i64 call, .int .i64 pg, .slice bA bl bc, .slice kA kl kc] 42 (0, 0)) := by rw [← hWB, ← hzo]; exact heap_alloc_new wr _
        have hzl : zo < WB.heap.size := (Array.getElem?_eq_some_iff.1 hzB).1
        have HT1 : Hid (Twp w WB pp t q g s r u log N Bz M L T L T (fun j => j = zo)) := HT.out.moreK hBB (fun k e => .inr (by subst e; exact ⟨by omega, hzl⟩))
        have HZW : Hid (w.heap.size ≤ zo) := by show _ ≤ _; rw [← hzo]; exact HT.out.bel.size
        obtain ⟨b0, b1, b2, b3⟩ := op_cells hzB
        have HZ := Lib.hid hzB
        have HZL := Lib.hid hzl
        have HRBW : Hid (Rd w bA bl bc bs) := HRB.out
        clear hBB hzB hzl HT
        by_cases q0 : call = 0
        · subst q0
          as_aux_lemma =>
            have H1 := Lib.hid HT1.out.begin_
            go_wp2_with fail
            refine H1.out.mono ?_
            rintro e W1 ⟨t2, rfl, ho1, ho2, ho3, ⟨ca, ho4⟩, hT1, hK1⟩
            have H2 := Lib.hid hT1.rbegin
            have HO1 := Lib.hid ho1
            have HO2 := Lib.hid ho2
            have HO3 := Lib.hid ho3
            have HO4 := Lib.hid ho4
            clear hT1 hK1 H1 ho1 ho2 ho3 ho4
            go_wp2_with fail
            refine H2.out.mono ?_
            rintro e WT ⟨u2, rfl, hbl, hT2, hK2⟩
            have H3 := Lib.hid (hT2.oldroot rfl t ((hbl.cell (p := ⟨t, 0, none⟩) HO2.out).trans HO3.out) ca ((hbl.block t HO2.out).trans HO4.out) HO1.out)
            have HT2 := Lib.hid hT2
            clear hbl hT2 hK2 H2
            go_wp2_with fail
            refine H3.out.mono ?_
            rintro e W9 ⟨rfl, rfl⟩
            replace HT2 : Hid (Twp w WT pp t2 q g s r u2 log N Bz M L (TX.new L) L (TX.new L) (fun _ => False)) := HT2.out.less (fun _ h => h.elim)
            have HLF2 := HLF
            have hde2 : s.deeds ≤ 104 * (k + 1) := by omega
            obtain ⟨T2, hT2e⟩ : ∃ T2, TX.new L = T2 := ⟨_, rfl⟩
            rw [hT2e] at HT2
            clear HT1 HLF hde HZ HZW HZL HRB HRBW hT2e H3 HO1 HO2 HO3 HO4
            have H1 := HT2.out.root
            have HC := Lib.hid HT2.out.cells.1
            obtain ⟨dn, hdn⟩ : ∃ dn, T2.done = dn := ⟨_, rfl⟩
            obtain ⟨lr, hlr⟩ : ∃ lr : Nat, Rp.le32 (T2.L M) = lr := ⟨_, rfl⟩
            have hrv : rootV M T2 = if dn then (0, 1) else ((lr : Int), 0) := by unfold rootV; rw [hdn, hlr]
            rw [hrv] at H1
            have HDN := Lib.hid hdn
            have HLR := Lib.hid hlr
            clear hdn hlr hrv b0 b1 b2 b3 c0 c1 c2 c3 hWB hzo
            obtain ⟨fr, hfr⟩ : ∃ fr : Nat, freeN N Bz M L N = fr := ⟨_, rfl⟩
            have HFR := Lib.hid hfr
            clear hfr
            cases dn
            · simp only [Bool.false_eq_true, if_false] at H1
              have H1 := Lib.hid H1
              go_wp2_with fail
              refine H1.out.mono ?_
              rintro e V1 ⟨rfl, hT3, _⟩
              have H2 := hT3.free
              rw [HFR.out] at H2
              have H2 := Lib.hid H2
              clear hT3 H1 HT2
              go_wp2_with fail
              refine H2.out.mono ?_
              rintro e V2 ⟨rfl, hT4, _⟩
              have H3 := hT4.size
              rw [show (N : Int) - ((M + 1 : Nat) : Int) = (N : Int) - (M : Int) - 1 by omega] at H3
              have H3 := Lib.hid H3
              have HT4 := Lib.hid hT4
              clear hT4 H2
              go_wp2_with fail
              refine H3.out.mono ?_
              rintro e V3 ⟨rfl, kk, hkk⟩
              have hb2 : Below V2.heap.size V2 V3 := by rw [hkk]; exact ⟨rfl, rfl, rfl, Nat.le_refl _, fun _ _ => rfl⟩
              have hT5 := (HT4.out.grow hb2).1
              have d1 := hT5.cells.1
              have d2 := hT5.cells.2
              rw [HDN.out] at d2
              have H4 := hT5.at_
              rw [HLR.out] at H4
              have H4 := Lib.hid H4
              have HT5 := Lib.hid hT5
              clear hT5 HT4 H3 hb2 hkk
              go_wp2_with fail
              refine H4.out.mono ?_
              rintro e V4 ⟨rfl, kk, hkk⟩
              have hb2 : Below V3.heap.size V3 V4 := by rw [hkk]; exact ⟨rfl, rfl, rfl, Nat.le_refl _, fun _ _ => rfl⟩
              have hT6 := (HT5.out.grow hb2).1
              have H5 := hT6.rfree
              rw [HFR.out] at H5
              have H5 := Lib.hid H5
              have HT6 := Lib.hid hT6
              clear hT6 HT5 H4 hb2 hkk d1 d2
              go_wp2_with fail
              refine H5.out.mono ?_
              rintro e V5 ⟨rfl, kk, hkk⟩
              have hb2 : Below V4.heap.size V4 V5 := by rw [hkk]; exact ⟨rfl, rfl, rfl, Nat.le_refl _, fun _ _ => rfl⟩
              have hT7 := (HT6.out.grow hb2).1
              have d1 := hT7.cells.1
              have H6 := Lib.hid hT7.bytes
              have HT7 := Lib.hid hT7
              clear hT7 HT6 H5 hb2 hkk
              go_wp2_with fail
              refine H6.out.mono ?_
              rintro e V6 ⟨rfl, kk, hkk⟩
              have hb2 : Below V5.heap.size V5 V6 := by rw [hkk]; exact ⟨rfl, rfl, rfl, Nat.le_refl _, fun _ _ => rfl⟩
              have HT8 := Lib.hid (HT7.out.grow hb2).1
              clear HT7 H6 hb2 hkk d1
              go_wp2
              go_roundw
              case rel => exact ⟨k + 1, t2, u2, s, L, T2, by omega, rfl, rfl, by go_num, HT8.out, HLF2.out, hde2⟩
              case measure => simp [RowKit.intOf]; omega
            · simp only [if_true] at H1
              have H1 := Lib.hid H1
              go_wp2_with fail
              refine H1.out.mono ?_
              rintro e V1 ⟨rfl, hT3, _⟩
              have H2 := hT3.free
              rw [HFR.out] at H2
              have H2 := Lib.hid H2
              clear hT3 H1 HT2
              go_wp2_with fail
              refine H2.out.mono ?_
              rintro e V2 ⟨rfl, hT4, _⟩
              have H3 := hT4.size
              rw [show (N : Int) - ((M + 1 : Nat) : Int) = (N : Int) - (M : Int) - 1 by omega] at H3
              have H3 := Lib.hid H3
              have HT4 := Lib.hid hT4
              clear hT4 H2
              go_wp2_with fail
              refine H3.out.mono ?_
              rintro e V3 ⟨rfl, kk, hkk⟩
              have hb2 : Below V2.heap.size V2 V3 := by rw [hkk]; exact ⟨rfl, rfl, rfl, Nat.le_refl _, fun _ _ => rfl⟩
              have hT5 := (HT4.out.grow hb2).1
              have d1 := hT5.cells.1
              have d2 := hT5.cells.2
              rw [HDN.out] at d2
              have H5 := hT5.rfree
              rw [HFR.out] at H5
              have H5 := Lib.hid H5
              have HT6 := Lib.hid hT5
              clear hT5 HT4 H3 hb2 hkk
              go_wp2_with fail
              refine H5.out.mono ?_
              rintro e V5 ⟨rfl, kk, hkk⟩
              have hb2 : Below V3.heap.size V3 V5 := by rw [hkk]; exact ⟨rfl, rfl, rfl, Nat.le_refl _, fun _ _ => rfl⟩
              have hT7 := (HT6.out.grow hb2).1
              have d1 := hT7.cells.1
              have H6 := Lib.hid hT7.bytes
              have HT7 := Lib.hid hT7
              clear hT7 HT6 H5 hb2 hkk
              go_wp2_with fail
              refine H6.out.mono ?_
              rintro e V6 ⟨rfl, kk, hkk⟩
              have hb2 : Below V5.heap.size V5 V6 := by rw [hkk]; exact ⟨rfl, rfl, rfl, Nat.le_refl _, fun _ _ => rfl⟩
              have HT8 := Lib.hid (HT7.out.grow hb2).1
              clear HT7 H6 hb2 hkk d1
              go_wp2
              go_roundw
              case rel => exact ⟨k + 1, t2, u2, s, L, T2, by omega, rfl, rfl, by go_num, HT8.out, HLF2.out, hde2⟩
              case measure => simp [RowKit.intOf]; omega
        by_cases q1 : call = 1
        · subst q1
          as_aux_lemma =>
            have H1 := HT1.out.take
            obtain ⟨T2, a2, e2, hT2e⟩ : ∃ x y z, T.take N Bz M = (x, y, z) := ⟨_, _, _, rfl⟩
            rw [hT2e] at H1
            have H1 := Lib.hid H1
            have HE := Lib.hid hT2e
            clear hT2e
            go_wp2_with fail
            refine H1.out.mono ?_
            rintro e W1 ⟨rfl, hT1, hK1⟩
            have H2 := hT1.rtake
            rw [HE.out] at H2
            have H2 := Lib.hid H2
            clear hT1 hK1 H1
            go_wp2_with fail
            refine H2.out.mono ?_
            rintro e WT ⟨rfl, hT2, hK2⟩
            have HT2 : Hid (Twp w WT pp t q g s r u log N Bz M L T2 L T2 (fun _ => False)) := hT2.less (fun _ h => h.elim)
            have HLF2 := HLF
            have hde2 : s.deeds ≤ 104 * (k + 1) := by omega
            clear HT1 HLF hde HZ HZW HZL HRB HRBW hT2 hK2 H2 HE
            have H1 := HT2.out.root
            have HC := Lib.hid HT2.out.cells.1
            obtain ⟨dn, hdn⟩ : ∃ dn, T2.done = dn := ⟨_, rfl⟩
            obtain ⟨lr, hlr⟩ : ∃ lr : Nat, Rp.le32 (T2.L M) = lr := ⟨_, rfl⟩
            have hrv : rootV M T2 = if dn then (0, 1) else ((lr : Int), 0) := by unfold rootV; rw [hdn, hlr]
            rw [hrv] at H1
            have HDN := Lib.hid hdn
            have HLR := Lib.hid hlr
            clear hdn hlr hrv b0 b1 b2 b3 c0 c1 c2 c3 hWB hzo
            obtain ⟨fr, hfr⟩ : ∃ fr : Nat, freeN N Bz M L N = fr := ⟨_, rfl⟩
            have HFR := Lib.hid hfr
            clear hfr
            cases dn
            · simp only [Bool.false_eq_true, if_false] at H1
              have H1 := Lib.hid H1
              go_wp2_with fail
              refine H1.out.mono ?_
              rintro e V1 ⟨rfl, hT3, _⟩
              have H2 := hT3.free
              rw [HFR.out] at H2
              have H2 := Lib.hid H2
              clear hT3 H1 HT2
              go_wp2_with fail
              refine H2.out.mono ?_
              rintro e V2 ⟨rfl, hT4, _⟩
              have H3 := hT4.size
              rw [show (N : Int) - ((M + 1 : Nat) : Int) = (N : Int) - (M : Int) - 1 by omega] at H3
              have H3 := Lib.hid H3
              have HT4 := Lib.hid hT4
              clear hT4 H2
              go_wp2_with fail
              refine H3.out.mono ?_
              rintro e V3 ⟨rfl, kk, hkk⟩
              have hb2 : Below V2.heap.size V2 V3 := by rw [hkk]; exact ⟨rfl, rfl, rfl, Nat.le_refl _, fun _ _ => rfl⟩
              have hT5 := (HT4.out.grow hb2).1
              have d1 := hT5.cells.1
              have d2 := hT5.cells.2
              rw [HDN.out] at d2
              have H4 := hT5.at_
              rw [HLR.out] at H4
              have H4 := Lib.hid H4
              have HT5 := Lib.hid hT5
              clear hT5 HT4 H3 hb2 hkk
              go_wp2_with fail
              refine H4.out.mono ?_
              rintro e V4 ⟨rfl, kk, hkk⟩
              have hb2 : Below V3.heap.size V3 V4 := by rw [hkk]; exact ⟨rfl, rfl, rfl, Nat.le_refl _, fun _ _ => rfl⟩
              have hT6 := (HT5.out.grow hb2).1
              have H5 := hT6.rfree
              rw [HFR.out] at H5
              have H5 := Lib.hid H5
              have HT6 := Lib.hid hT6
              clear hT6 HT5 H4 hb2 hkk d1 d2
              go_wp2_with fail
              refine H5.out.mono ?_
              rintro e V5 ⟨rfl, kk, hkk⟩
              have hb2 : Below V4.heap.size V4 V5 := by rw [hkk]; exact ⟨rfl, rfl, rfl, Nat.le_refl _, fun _ _ => rfl⟩
              have hT7 := (HT6.out.grow hb2).1
              have d1 := hT7.cells.1
              have H6 := Lib.hid hT7.bytes
              have HT7 := Lib.hid hT7
              clear hT7 HT6 H5 hb2 hkk
              go_wp2_with fail
              refine H6.out.mono ?_
              rintro e V6 ⟨rfl, kk, hkk⟩
              have hb2 : Below V5.heap.size V5 V6 := by rw [hkk]; exact ⟨rfl, rfl, rfl, Nat.le_refl _, fun _ _ => rfl⟩
              have HT8 := Lib.hid (HT7.out.grow hb2).1
              clear HT7 H6 hb2 hkk d1
              go_wp2
              go_roundw
              case rel => exact ⟨k + 1, t, u, s, L, T2, by omega, rfl, rfl, by go_num, HT8.out, HLF2.out, hde2⟩
              case measure => simp [RowKit.intOf]; omega
            · simp only [if_true] at H1
              have H1 := Lib.hid H1
              go_wp2_with fail
              refine H1.out.mono ?_
              rintro e V1 ⟨rfl, hT3, _⟩
              have H2 := hT3.free
              rw [HFR.out] at H2
              have H2 := Lib.hid H2
              clear hT3 H1 HT2
              go_wp2_with fail
              refine H2.out.mono ?_
              rintro e V2 ⟨rfl, hT4, _⟩
              have H3 := hT4.size
              rw [show (N : Int) - ((M + 1 : Nat) : Int) = (N : Int) - (M : Int) - 1 by omega] at H3
              have H3 := Lib.hid H3
              have HT4 := Lib.hid hT4
              clear hT4 H2
              go_wp2_with fail
              refine H3.out.mono ?_
              rintro e V3 ⟨rfl, kk, hkk⟩
              have hb2 : Below V2.heap.size V2 V3 := by rw [hkk]; exact ⟨rfl, rfl, rfl, Nat.le_refl _, fun _ _ => rfl⟩
              have hT5 := (HT4.out.grow hb2).1
              have d1 := hT5.cells.1
              have d2 := hT5.cells.2
              rw [HDN.out] at d2
              have H5 := hT5.rfree
              rw [HFR.out] at H5
              have H5 := Lib.hid H5
              have HT6 := Lib.hid hT5
              clear hT5 HT4 H3 hb2 hkk
              go_wp2_with fail
              refine H5.out.mono ?_
              rintro e V5 ⟨rfl, kk, hkk⟩
              have hb2 : Below V3.heap.size V3 V5 := by rw [hkk]; exact ⟨rfl, rfl, rfl, Nat.le_refl _, fun _ _ => rfl⟩
              have hT7 := (HT6.out.grow hb2).1
              have d1 := hT7.cells.1
              have H6 := Lib.hid hT7.bytes
              have HT7 := Lib.hid hT7
              clear hT7 HT6 H5 hb2 hkk
              go_wp2_with fail
              refine H6.out.mono ?_
              rintro e V6 ⟨rfl, kk, hkk⟩
              have hb2 : Below V5.heap.size V5 V6 := by rw [hkk]; exact ⟨rfl, rfl, rfl, Nat.le_refl _, fun _ _ => rfl⟩
              have HT8 := Lib.hid (HT7.out.grow hb2).1
              clear HT7 H6 hb2 hkk d1
              go_wp2
              go_roundw
              case rel => exact ⟨k + 1, t, u, s, L, T2, by omega, rfl, rfl, by go_num, HT8.out, HLF2.out, hde2⟩
              case measure => simp [RowKit.intOf]; omega
        by_cases q2 : call = 2
        · subst q2
          as_aux_lemma =>
            have HTD : Hid (Twp w WB.drew pp t q g s r u log N Bz M L T L T (fun j => j = zo)) := (HT1.out.grow ((Below.refl _ WB).drew)).1
            have HZD : Hid (WB.drew.heap[zo]? = some (.cells #[.int .i64 2, .int .i64 pg, .slice bA bl bc, .slice kA kl kc] 42 (0, 0))) := HZ.out
            have H1 := HTD.out.give pg
            obtain ⟨T2, e2, hT2e⟩ : ∃ x y, T.give N Bz M pg = (x, y) := ⟨_, _, rfl⟩
            rw [hT2e] at H1
            have H1 := Lib.hid H1
            have HE := Lib.hid hT2e
            have HC1 : Hid (WB.drew.cell? ⟨zo, 1, none⟩ = some (.int .i64 pg)) := (op_cells HZD.out).2.1
            clear hT2e
            go_wp2_with fail
            clear b0 b1 b2 b3 c0 c1 c2 c3 hWB
            refine wp_region_held_drew (S := fun W => W.cell? ⟨zo, 1, none⟩ = some (.int .i64 pg)) (by kernel_rfl) (HC1.out) (fun hHeld => ?_)
            refine wpAnyH_take (i := 0) (oi := { dst := some 127, op := Go.Op.move (Go.Operand.tmp 14), type := 35, pos := "law.go:98", after := #[], guard := none }) (v := ?vr20) rfl (by kernel_rfl) (by kernel_rfl) (by kernel_rfl) (fun _ _ _ h => h) (Or.inl ⟨by rfl, ?hyr20⟩) hHeld ?_
            case hyr20 => (intro w hSw; (try dsimp only at hSw); go_simp; first | done | with_reducible rfl)
            try simp only [Act.put, List.setIfInBounds_toArray, List.set_cons_zero, List.set_cons_succ]
            refine wpAnyH_take (i := 1) (oi := { dst := some 128, op := Go.Op.fieldAddr 42 (Go.Operand.tmp 17) 1, type := 0, pos := "law.go:98", after := #[], guard := none }) (v := ?vr21) rfl (by kernel_rfl) (by kernel_rfl) (by kernel_rfl) (fun _ _ _ h => h) (Or.inl ⟨by rfl, ?hyr21⟩) hHeld ?_
            case hyr21 => (intro w hSw; (try dsimp only at hSw); go_simp; first | done | with_reducible rfl)
            try simp only [Act.put, List.setIfInBounds_toArray, List.set_cons_zero, List.set_cons_succ]
            refine wpAnyH_take (i := 2) (oi := { dst := some 129, op := Go.Op.load 3 (Go.Operand.tmp 128), type := 3, pos := "law.go:98", after := #[{ on := 1, ground := Go.Ground.data }], guard := none }) (v := ?vr22) rfl (by kernel_rfl) (by kernel_rfl) (by kernel_rfl) (fun _ _ _ h => h) (Or.inl ⟨by rfl, ?hyr22⟩) hHeld ?_
            case hyr22 => (intro w hSw; (try dsimp only at hSw); go_simp; first | done | with_reducible rfl)
            try simp only [Act.put, List.setIfInBounds_toArray, List.set_cons_zero, List.set_cons_succ]
            refine wpAnyH_take (i := 4) (oi := { dst := some 131, op := Go.Op.move (Go.Operand.tmp 15), type := 37, pos := "law.go:98", after := #[], guard := none }) (v := ?vr24) rfl (by kernel_rfl) (by kernel_rfl) (by kernel_rfl) (fun _ _ _ h => h) (Or.inl ⟨by rfl, ?hyr24⟩) hHeld ?_
            case hyr24 => (intro w hSw; (try dsimp only at hSw); go_simp; first | done | with_reducible rfl)
            try simp only [Act.put, List.setIfInBounds_toArray, List.set_cons_zero, List.set_cons_succ]
            refine wpAnyH_take (i := 5) (oi := { dst := some 132, op := Go.Op.fieldAddr 42 (Go.Operand.tmp 17) 1, type := 0, pos := "law.go:98", after := #[], guard := none }) (v := ?vr25) rfl (by kernel_rfl) (by kernel_rfl) (by kernel_rfl) (fun _ _ _ h => h) (Or.inl ⟨by rfl, ?hyr25⟩) hHeld ?_
            case hyr25 => (intro w hSw; (try dsimp only at hSw); go_simp; first | done | with_reducible rfl)
            try simp only [Act.put, List.setIfInBounds_toArray, List.set_cons_zero, List.set_cons_succ]
            refine wpAnyH_take (i := 6) (oi := { dst := some 133, op := Go.Op.load 3 (Go.Operand.tmp 132), type := 3, pos := "law.go:98", after := #[{ on := 5, ground := Go.Ground.data }], guard := none }) (v := ?vr26) rfl (by kernel_rfl) (by kernel_rfl) (by kernel_rfl) (fun _ _ _ h => h) (Or.inl ⟨by rfl, ?hyr26⟩) hHeld ?_
            case hyr26 => (intro w hSw; (try dsimp only at hSw); go_simp; first | done | with_reducible rfl)
            try simp only [Act.put, List.setIfInBounds_toArray, List.set_cons_zero, List.set_cons_succ]
            refine wpAnyH_ready (rs := [3]) (by kernel_rfl) (by simp) ?_
            refine AllReadyH.cons (o := { dst := some 130, op := Go.Op.call { callee := Go.Callee.value (Go.Operand.func 21), args := #[Go.Operand.tmp 127, Go.Operand.tmp 129], argTypes := #[35, 3] }, type := 26, pos := "law.go:98", after := #[{ on := 0, ground := Go.Ground.data }, { on := 2, ground := Go.Ground.data }], guard := none }) rfl (fun K hK => ?_) AllReadyH.nil
            go_simp
            refine H1.out.mono ?_
            rintro e W1 ⟨rfl, hT1, hK1⟩
            have H2 := hT1.rgive pg
            rw [HE.out] at H2
            have H2 := Lib.hid H2
            have HC2 : Hid (W1.cell? ⟨zo, 1, none⟩ = some (.int .i64 pg)) := (World.cell?_of_block (a := ⟨zo, 1, none⟩) (hK1.2 zo rfl)).trans HC1.out
            clear hT1 hK1 H1
            go_wp2_with fail
            refine hK.out _ _ (HC2.out) (fun hHeld => ?_)
            clear hK K
            try simp only [Act.put, List.setIfInBounds_toArray, List.set_cons_zero, List.set_cons_succ]
            refine wpAnyH_ready (rs := [7]) (by kernel_rfl) (by simp) ?_
            refine AllReadyH.cons (o := { dst := some 134, op := Go.Op.call { callee := Go.Callee.value (Go.Operand.func 22), args := #[Go.Operand.tmp 131, Go.Operand.tmp 133], argTypes := #[37, 3] }, type := 26, pos := "law.go:98", after := #[{ on := 4, ground := Go.Ground.data }, { on := 6, ground := Go.Ground.data }, { on := 3, ground := Go.Ground.chain }], guard := none }) rfl (fun K hK => ?_) AllReadyH.nil
            go_simp
            refine H2.out.mono ?_
            rintro e WT ⟨rfl, hT2, hK2⟩
            have HT2 : Hid (Twp w WT pp t q g s r u log N Bz M L T2 L T2 (fun _ => False)) := hT2.less (fun _ h => h.elim)
            have HC3 : Hid (WT.cell? ⟨zo, 1, none⟩ = some (.int .i64 pg)) := (World.cell?_of_block (a := ⟨zo, 1, none⟩) (hK2.2 zo rfl)).trans HC2.out
            clear hT2 hK2 H2
            go_wp2_with fail
            refine hK.out _ _ (HC3.out) (fun hHeld => ?_)
            clear hK K
            try simp only [Act.put, List.setIfInBounds_toArray, List.set_cons_zero, List.set_cons_succ]
            refine wpAnyH_take (i := 8) (oi := { dst := some 135, op := Go.Op.binOp Go.BinOp.neq 26 (Go.Operand.tmp 130) (Go.Operand.tmp 134) 26, type := 4, pos := "law.go:98", after := #[{ on := 3, ground := Go.Ground.data }, { on := 7, ground := Go.Ground.data }], guard := none }) (v := ?vr28) rfl (by kernel_rfl) (by kernel_rfl) (by kernel_rfl) (fun _ _ _ h => h) (Or.inl ⟨by rfl, ?hyr28⟩) hHeld ?_
            case hyr28 => (intro w hSw; (try dsimp only at hSw); go_simp; first | done | with_reducible rfl)
            try simp only [Act.put, List.setIfInBounds_toArray, List.set_cons_zero, List.set_cons_succ]
            refine wpAnyH_done (by kernel_rfl) ?_ _
            have HLF2 := HLF
            have hde2 : s.deeds ≤ 104 * (k + 1) := by omega
            clear HT1 HLF hde HZ HZW HZL HRB HRBW HTD HZD HE HC1
            have H1 := HT2.out.root
            have HC := Lib.hid HT2.out.cells.1
            obtain ⟨dn, hdn⟩ : ∃ dn, T2.done = dn := ⟨_, rfl⟩
            obtain ⟨lr, hlr⟩ : ∃ lr : Nat, Rp.le32 (T2.L M) = lr := ⟨_, rfl⟩
            have hrv : rootV M T2 = if dn then (0, 1) else ((lr : Int), 0) := by unfold rootV; rw [hdn, hlr]
            rw [hrv] at H1
            have HDN := Lib.hid hdn
            have HLR := Lib.hid hlr
            clear hdn hlr hrv hzo
            obtain ⟨fr, hfr⟩ : ∃ fr : Nat, freeN N Bz M L N = fr := ⟨_, rfl⟩
            have HFR := Lib.hid hfr
            clear hfr
            cases dn
            · simp only [Bool.false_eq_true, if_false] at H1
              have H1 := Lib.hid H1
              go_wp2_with fail
              refine H1.out.mono ?_
              rintro e V1 ⟨rfl, hT3, _⟩
              have H2 := hT3.free
              rw [HFR.out] at H2
              have H2 := Lib.hid H2
              clear hT3 H1 HT2
              go_wp2_with fail
              refine H2.out.mono ?_
              rintro e V2 ⟨rfl, hT4, _⟩
              have H3 := hT4.size
              rw [show (N : Int) - ((M + 1 : Nat) : Int) = (N : Int) - (M : Int) - 1 by omega] at H3
              have H3 := Lib.hid H3
              have HT4 := Lib.hid hT4
              clear hT4 H2
              go_wp2_with fail
              refine H3.out.mono ?_
              rintro e V3 ⟨rfl, kk, hkk⟩
              have hb2 : Below V2.heap.size V2 V3 := by rw [hkk]; exact ⟨rfl, rfl, rfl, Nat.le_refl _, fun _ _ => rfl⟩
              have hT5 := (HT4.out.grow hb2).1
              have d1 := hT5.cells.1
              have d2 := hT5.cells.2
              rw [HDN.out] at d2
              have H4 := hT5.at_
              rw [HLR.out] at H4
              have H4 := Lib.hid H4
              have HT5 := Lib.hid hT5
              clear hT5 HT4 H3 hb2 hkk
              go_wp2_with fail
              refine H4.out.mono ?_
              rintro e V4 ⟨rfl, kk, hkk⟩
              have hb2 : Below V3.heap.size V3 V4 := by rw [hkk]; exact ⟨rfl, rfl, rfl, Nat.le_refl _, fun _ _ => rfl⟩
              have hT6 := (HT5.out.grow hb2).1
              have H5 := hT6.rfree
              rw [HFR.out] at H5
              have H5 := Lib.hid H5
              have HT6 := Lib.hid hT6
              clear hT6 HT5 H4 hb2 hkk d1 d2
              go_wp2_with fail
              refine H5.out.mono ?_
              rintro e V5 ⟨rfl, kk, hkk⟩
              have hb2 : Below V4.heap.size V4 V5 := by rw [hkk]; exact ⟨rfl, rfl, rfl, Nat.le_refl _, fun _ _ => rfl⟩
              have hT7 := (HT6.out.grow hb2).1
              have d1 := hT7.cells.1
              have H6 := Lib.hid hT7.bytes
              have HT7 := Lib.hid hT7
              clear hT7 HT6 H5 hb2 hkk
              go_wp2_with fail
              refine H6.out.mono ?_
              rintro e V6 ⟨rfl, kk, hkk⟩
              have hb2 : Below V5.heap.size V5 V6 := by rw [hkk]; exact ⟨rfl, rfl, rfl, Nat.le_refl _, fun _ _ => rfl⟩
              have HT8 := Lib.hid (HT7.out.grow hb2).1
              clear HT7 H6 hb2 hkk d1
              go_wp2
              go_roundw
              case rel => exact ⟨k + 1, t, u, s, L, T2, by omega, rfl, rfl, by go_num, HT8.out, HLF2.out, hde2⟩
              case measure => simp [RowKit.intOf]; omega
            · simp only [if_true] at H1
              have H1 := Lib.hid H1
              go_wp2_with fail
              refine H1.out.mono ?_
              rintro e V1 ⟨rfl, hT3, _⟩
              have H2 := hT3.free
              rw [HFR.out] at H2
              have H2 := Lib.hid H2
              clear hT3 H1 HT2
              go_wp2_with fail
              refine H2.out.mono ?_
              rintro e V2 ⟨rfl, hT4, _⟩
              have H3 := hT4.size
              rw [show (N : Int) - ((M + 1 : Nat) : Int) = (N : Int) - (M : Int) - 1 by omega] at H3
              have H3 := Lib.hid H3
              have HT4 := Lib.hid hT4
              clear hT4 H2
              go_wp2_with fail
              refine H3.out.mono ?_
              rintro e V3 ⟨rfl, kk, hkk⟩
              have hb2 : Below V2.heap.size V2 V3 := by rw [hkk]; exact ⟨rfl, rfl, rfl, Nat.le_refl _, fun _ _ => rfl⟩
              have hT5 := (HT4.out.grow hb2).1
              have d1 := hT5.cells.1
              have d2 := hT5.cells.2
              rw [HDN.out] at d2
              have H5 := hT5.rfree
              rw [HFR.out] at H5
              have H5 := Lib.hid H5
              have HT6 := Lib.hid hT5
              clear hT5 HT4 H3 hb2 hkk
              go_wp2_with fail
              refine H5.out.mono ?_
              rintro e V5 ⟨rfl, kk, hkk⟩
              have hb2 : Below V3.heap.size V3 V5 := by rw [hkk]; exact ⟨rfl, rfl, rfl, Nat.le_refl _, fun _ _ => rfl⟩
              have hT7 := (HT6.out.grow hb2).1
              have d1 := hT7.cells.1
              have H6 := Lib.hid hT7.bytes
              have HT7 := Lib.hid hT7
              clear hT7 HT6 H5 hb2 hkk
              go_wp2_with fail
              refine H6.out.mono ?_
              rintro e V6 ⟨rfl, kk, hkk⟩
              have hb2 : Below V5.heap.size V5 V6 := by rw [hkk]; exact ⟨rfl, rfl, rfl, Nat.le_refl _, fun _ _ => rfl⟩
              have HT8 := Lib.hid (HT7.out.grow hb2).1
              clear HT7 H6 hb2 hkk d1
              go_wp2
              go_roundw
              case rel => exact ⟨k + 1, t, u, s, L, T2, by omega, rfl, rfl, by go_num, HT8.out, HLF2.out, hde2⟩
              case measure => simp [RowKit.intOf]; omega
        by_cases q3 : call = 3
        · subst q3
          as_aux_lemma =>
            have H1 := HT1.out.read pg
            obtain ⟨bs2, e2, hre⟩ : ∃ x y, T.read N Bz M pg = (x, y) := ⟨_, _, rfl⟩
            rw [hre] at H1
            have H1 := Lib.hid H1
            have HE := Lib.hid hre
            clear hre
            go_wp2_with fail
            refine H1.out.mono ?_
            rintro e W1 ⟨v, rfl, ⟨A, n, c, rfl, hrd, _⟩, hT1, hK1⟩
            have H2 := hT1.rread pg
            rw [HE.out] at H2
            have H2 := Lib.hid H2
            have HT2 : Hid (Twp w W1 pp t q g s r u log N Bz M L T L T (fun _ => False)) := hT1.less (fun _ h => h.elim)
            have f1 := (op_cells ((hK1.2 zo rfl).trans HZ.out)).2.1
            have HRD := Lib.hid hrd
            clear hT1 hK1 H1 hrd
            go_wp2_with fail
            refine H2.out.mono ?_
            rintro e W9 ⟨rfl, kk, hkk⟩
            have hb2 : Below W1.heap.size W1 W9 := by rw [hkk]; exact ⟨rfl, rfl, rfl, Nat.le_refl _, fun _ _ => rfl⟩
            have HST := string_rd W9 A n c bs2 (HRD.out.keep hb2)
            replace HT2 := Lib.hid (HT2.out.grow hb2).1
            have HLF2 := HLF
            have hde2 : s.deeds ≤ 104 * (k + 1) := by omega
            clear HT1 HLF hde HZ HZW HZL HRB HRBW H2 HE HRD hb2 hkk f1
            have H1 := HT2.out.root
            have HC := Lib.hid HT2.out.cells.1
            obtain ⟨dn, hdn⟩ : ∃ dn, T.done = dn := ⟨_, rfl⟩
            obtain ⟨lr, hlr⟩ : ∃ lr : Nat, Rp.le32 (T.L M) = lr := ⟨_, rfl⟩
            have hrv : rootV M T = if dn then (0, 1) else ((lr : Int), 0) := by unfold rootV; rw [hdn, hlr]
            rw [hrv] at H1
            have HDN := Lib.hid hdn
            have HLR := Lib.hid hlr
            clear hdn hlr hrv b0 b1 b2 b3 c0 c1 c2 c3 hWB hzo
            obtain ⟨fr, hfr⟩ : ∃ fr : Nat, freeN N Bz M L N = fr := ⟨_, rfl⟩
            have HFR := Lib.hid hfr
            clear hfr
            cases dn
            · simp only [Bool.false_eq_true, if_false] at H1
              have H1 := Lib.hid H1
              go_wp2_with fail
              refine H1.out.mono ?_
              rintro e V1 ⟨rfl, hT3, _⟩
              have H2 := hT3.free
              rw [HFR.out] at H2
              have H2 := Lib.hid H2
              clear hT3 H1 HT2
              go_wp2_with fail
              refine H2.out.mono ?_
              rintro e V2 ⟨rfl, hT4, _⟩
              have H3 := hT4.size
              rw [show (N : Int) - ((M + 1 : Nat) : Int) = (N : Int) - (M : Int) - 1 by omega] at H3
              have H3 := Lib.hid H3
              have HT4 := Lib.hid hT4
              clear hT4 H2
              go_wp2_with fail
              refine H3.out.mono ?_
              rintro e V3 ⟨rfl, kk, hkk⟩
              have hb2 : Below V2.heap.size V2 V3 := by rw [hkk]; exact ⟨rfl, rfl, rfl, Nat.le_refl _, fun _ _ => rfl⟩
              have hT5 := (HT4.out.grow hb2).1
              have d1 := hT5.cells.1
              have d2 := hT5.cells.2
              rw [HDN.out] at d2
              have H4 := hT5.at_
              rw [HLR.out] at H4
              have H4 := Lib.hid H4
              have HT5 := Lib.hid hT5
              clear hT5 HT4 H3 hb2 hkk
              go_wp2_with fail
              refine H4.out.mono ?_
              rintro e V4 ⟨rfl, kk, hkk⟩
              have hb2 : Below V3.heap.size V3 V4 := by rw [hkk]; exact ⟨rfl, rfl, rfl, Nat.le_refl _, fun _ _ => rfl⟩
              have hT6 := (HT5.out.grow hb2).1
              have H5 := hT6.rfree
              rw [HFR.out] at H5
              have H5 := Lib.hid H5
              have HT6 := Lib.hid hT6
              clear hT6 HT5 H4 hb2 hkk d1 d2
              go_wp2_with fail
              refine H5.out.mono ?_
              rintro e V5 ⟨rfl, kk, hkk⟩
              have hb2 : Below V4.heap.size V4 V5 := by rw [hkk]; exact ⟨rfl, rfl, rfl, Nat.le_refl _, fun _ _ => rfl⟩
              have hT7 := (HT6.out.grow hb2).1
              have d1 := hT7.cells.1
              have H6 := Lib.hid hT7.bytes
              have HT7 := Lib.hid hT7
              clear hT7 HT6 H5 hb2 hkk
              go_wp2_with fail
              refine H6.out.mono ?_
              rintro e V6 ⟨rfl, kk, hkk⟩
              have hb2 : Below V5.heap.size V5 V6 := by rw [hkk]; exact ⟨rfl, rfl, rfl, Nat.le_refl _, fun _ _ => rfl⟩
              have HT8 := Lib.hid (HT7.out.grow hb2).1
              clear HT7 H6 hb2 hkk d1
              go_wp2
              go_roundw
              case rel => exact ⟨k + 1, t, u, s, L, T, by omega, rfl, rfl, by go_num, HT8.out, HLF2.out, hde2⟩
              case measure => simp [RowKit.intOf]; omega
            · simp only [if_true] at H1
              have H1 := Lib.hid H1
              go_wp2_with fail
              refine H1.out.mono ?_
              rintro e V1 ⟨rfl, hT3, _⟩
              have H2 := hT3.free
              rw [HFR.out] at H2
              have H2 := Lib.hid H2
              clear hT3 H1 HT2
              go_wp2_with fail
              refine H2.out.mono ?_
              rintro e V2 ⟨rfl, hT4, _⟩
              have H3 := hT4.size
              rw [show (N : Int) - ((M + 1 : Nat) : Int) = (N : Int) - (M : Int) - 1 by omega] at H3
              have H3 := Lib.hid H3
              have HT4 := Lib.hid hT4
              clear hT4 H2
              go_wp2_with fail
              refine H3.out.mono ?_
              rintro e V3 ⟨rfl, kk, hkk⟩
              have hb2 : Below V2.heap.size V2 V3 := by rw [hkk]; exact ⟨rfl, rfl, rfl, Nat.le_refl _, fun _ _ => rfl⟩
              have hT5 := (HT4.out.grow hb2).1
              have d1 := hT5.cells.1
              have d2 := hT5.cells.2
              rw [HDN.out] at d2
              have H5 := hT5.rfree
              rw [HFR.out] at H5
              have H5 := Lib.hid H5
              have HT6 := Lib.hid hT5
              clear hT5 HT4 H3 hb2 hkk
              go_wp2_with fail
              refine H5.out.mono ?_
              rintro e V5 ⟨rfl, kk, hkk⟩
              have hb2 : Below V3.heap.size V3 V5 := by rw [hkk]; exact ⟨rfl, rfl, rfl, Nat.le_refl _, fun _ _ => rfl⟩
              have hT7 := (HT6.out.grow hb2).1
              have d1 := hT7.cells.1
              have H6 := Lib.hid hT7.bytes
              have HT7 := Lib.hid hT7
              clear hT7 HT6 H5 hb2 hkk
              go_wp2_with fail
              refine H6.out.mono ?_
              rintro e V6 ⟨rfl, kk, hkk⟩
              have hb2 : Below V5.heap.size V5 V6 := by rw [hkk]; exact ⟨rfl, rfl, rfl, Nat.le_refl _, fun _ _ => rfl⟩
              have HT8 := Lib.hid (HT7.out.grow hb2).1
              clear HT7 H6 hb2 hkk d1
              go_wp2
              go_roundw
              case rel => exact ⟨k + 1, t, u, s, L, T, by omega, rfl, rfl, by go_num, HT8.out, HLF2.out, hde2⟩
              case measure => simp [RowKit.intOf]; omega
        by_cases q4 : call = 4
        · subst q4
          as_aux_lemma =>
            obtain ⟨X0, hX0⟩ : ∃ X0, WB.alloc (.cells #[] 5) = X0 := ⟨_, rfl⟩
            obtain ⟨zx, hzx⟩ : ∃ zx, WB.heap.size = zx := ⟨_, rfl⟩
            have hX0b : Below WB.heap.size WB X0 := by rw [← hX0]; exact (Below.refl _ _).alloc (Nat.le_refl _) _
            have hoe := Go.Bs.Own.empty WB 5
            rw [hX0] at hoe
            obtain ⟨v', W1, hrun, ho, hbe⟩ := Go.Bs.run_app (P := Tryz.prog) X0 WB.heap.size 39 39 5 Tryz.underlying39 u8_info _ [] hoe bA bl bc bs ((HRB.out.keep HT1.out.bel).keep hX0b) (by simp; omega) hX0b.size
            rw [List.nil_append] at ho
            obtain ⟨A1, ca, z1, rfl, hrd1, hrow1, hrow0⟩ := own_formB ho bl HRB.out.len
            have hbW : Below WB.heap.size WB W1 := hX0b.trans hbe
            have hTw : Twp w W1 pp t q g s r u log N Bz M L T L T (fun j => j = zo ∨ (∃ x, A1 = some x ∧ x.block = j)) := HT1.out.moreK hbW (fun j e => e.imp id (fun e => by obtain ⟨x, e1, rfl⟩ := e; exact hrow0 x e1))
            have hzW := (hbW.block zo HZL.out).trans HZ.out
            have f1 := (op_cells hzW).2.1
            have X3 : X0.cell? ⟨zo, 2, none⟩ = some (.slice bA bl bc) := (hX0b.cell (p := ⟨zo, 2, none⟩) HZL.out).trans b2
            have hrun' : ∀ ty, (Builtin.append_ #[39, 39] ty #[.slice (some ⟨zx, 0, none⟩) 0 0, .slice bA bl bc]).run Tryz.prog X0 = .ok (.slice A1 bl ca) W1 := fun _ => by rw [← hzx]; exact hrun
            have HRUN := Lib.hid hrun'
            have HTW := Lib.hid hTw
            have HROW : Hid (0 < bl → A1 = some ⟨z1, 0, none⟩ ∧ WB.heap.size ≤ z1 ∧ Row W1 z1 5 bl (fun _ => True)) := hrow1
            have HROW0 : Hid (∀ x, A1 = some x → WB.heap.size ≤ x.block ∧ x.block < W1.heap.size) := hrow0
            have HRD1 := Lib.hid hrd1
            have HZ1 := Lib.hid hzW
            clear hX0b hoe hrun ho hbe hrd1 hrow1 hbW hTw hzW hrun' hrow0
            go_wp2_with (first | (at_builtin; refine wpList_run_app _ rfl _ _ 39 rfl _ _ _ _ rfl rfl HRUN.out ?_) | fail)
            clear hX0 hzx X3
            have HTD : Hid (Twp w W1.drew pp t q g s r u log N Bz M L T L T (fun j => j = zo ∨ (∃ x, A1 = some x ∧ x.block = j))) := (HTW.out.grow ((Below.refl _ W1).drew)).1
            have H1 := HTD.out.write pg A1 bl ca bs (HRD1.out.keep ((Below.refl _ W1).drew)) (fun _ x hx => .inr ⟨x, hx, rfl⟩) (by omega)
            obtain ⟨T2, e2, hT2e⟩ : ∃ x y, T.write N Bz M pg bs = (x, y) := ⟨_, _, rfl⟩
            rw [hT2e] at H1
            have H1 := Lib.hid H1
            have HE := Lib.hid hT2e
            have HC1 : Hid (W1.drew.cell? ⟨zo, 1, none⟩ = some (.int .i64 pg) ∧ W1.drew.cell? ⟨zo, 2, none⟩ = some (.slice bA bl bc)) := ⟨(op_cells HZ1.out).2.1, (op_cells HZ1.out).2.2.1⟩
            have HKD : Hid (Kp (fun j => j = zo ∨ (∃ x, A1 = some x ∧ x.block = j)) W1 W1.drew) := ⟨Nat.le_refl _, fun _ _ => rfl⟩
            clear hT2e b0 b1 b2 b3 c0 c1 c2 c3 hWB f1
            refine wp_region_held_drew (S := fun W => W.cell? ⟨zo, 1, none⟩ = some (.int .i64 pg) ∧ W.cell? ⟨zo, 2, none⟩ = some (.slice bA bl bc)) (by kernel_rfl) (HC1.out) (fun hHeld => ?_)
            refine wpAnyH_take (i := 0) (oi := { dst := some 167, op := Go.Op.move (Go.Operand.tmp 14), type := 35, pos := "law.go:109", after := #[], guard := none }) (v := ?vr40) rfl (by kernel_rfl) (by kernel_rfl) (by kernel_rfl) (fun _ _ _ h => h) (Or.inl ⟨by rfl, ?hyr40⟩) hHeld ?_
            case hyr40 => (intro w hSw; (try dsimp only at hSw); go_simp; first | done | with_reducible rfl)
            try simp only [Act.put, List.setIfInBounds_toArray, List.set_cons_zero, List.set_cons_succ]
            refine wpAnyH_take (i := 1) (oi := { dst := some 168, op := Go.Op.fieldAddr 42 (Go.Operand.tmp 17) 1, type := 0, pos := "law.go:109", after := #[], guard := none }) (v := ?vr41) rfl (by kernel_rfl) (by kernel_rfl) (by kernel_rfl) (fun _ _ _ h => h) (Or.inl ⟨by rfl, ?hyr41⟩) hHeld ?_
            case hyr41 => (intro w hSw; (try dsimp only at hSw); go_simp; first | done | with_reducible rfl)
            try simp only [Act.put, List.setIfInBounds_toArray, List.set_cons_zero, List.set_cons_succ]
            refine wpAnyH_take (i := 2) (oi := { dst := some 169, op := Go.Op.load 3 (Go.Operand.tmp 168), type := 3, pos := "law.go:109", after := #[{ on := 1, ground := Go.Ground.data }], guard := none }) (v := ?vr42) rfl (by kernel_rfl) (by kernel_rfl) (by kernel_rfl) (fun _ _ _ h => h) (Or.inl ⟨by rfl, ?hyr42⟩) hHeld ?_
            case hyr42 => (intro w hSw; (try dsimp only at hSw); go_simp; first | done | with_reducible rfl)
            try simp only [Act.put, List.setIfInBounds_toArray, List.set_cons_zero, List.set_cons_succ]
            refine wpAnyH_take (i := 3) (oi := { dst := some 170, op := Go.Op.move (Go.Operand.tmp 29), type := 39, pos := "law.go:109", after := #[], guard := none }) (v := ?vr43) rfl (by kernel_rfl) (by kernel_rfl) (by kernel_rfl) (fun _ _ _ h => h) (Or.inl ⟨by rfl, ?hyr43⟩) hHeld ?_
            case hyr43 => (intro w hSw; (try dsimp only at hSw); go_simp; first | done | with_reducible rfl)
            try simp only [Act.put, List.setIfInBounds_toArray, List.set_cons_zero, List.set_cons_succ]
            refine wpAnyH_take (i := 5) (oi := { dst := some 172, op := Go.Op.move (Go.Operand.tmp 15), type := 37, pos := "law.go:109", after := #[], guard := none }) (v := ?vr45) rfl (by kernel_rfl) (by kernel_rfl) (by kernel_rfl) (fun _ _ _ h => h) (Or.inl ⟨by rfl, ?hyr45⟩) hHeld ?_
            case hyr45 => (intro w hSw; (try dsimp only at hSw); go_simp; first | done | with_reducible rfl)
            try simp only [Act.put, List.setIfInBounds_toArray, List.set_cons_zero, List.set_cons_succ]
            refine wpAnyH_take (i := 6) (oi := { dst := some 173, op := Go.Op.fieldAddr 42 (Go.Operand.tmp 17) 1, type := 0, pos := "law.go:109", after := #[], guard := none }) (v := ?vr46) rfl (by kernel_rfl) (by kernel_rfl) (by kernel_rfl) (fun _ _ _ h => h) (Or.inl ⟨by rfl, ?hyr46⟩) hHeld ?_
            case hyr46 => (intro w hSw; (try dsimp only at hSw); go_simp; first | done | with_reducible rfl)
            try simp only [Act.put, List.setIfInBounds_toArray, List.set_cons_zero, List.set_cons_succ]
            refine wpAnyH_take (i := 7) (oi := { dst := some 174, op := Go.Op.load 3 (Go.Operand.tmp 173), type := 3, pos := "law.go:109", after := #[{ on := 6, ground := Go.Ground.data }], guard := none }) (v := ?vr47) rfl (by kernel_rfl) (by kernel_rfl) (by kernel_rfl) (fun _ _ _ h => h) (Or.inl ⟨by rfl, ?hyr47⟩) hHeld ?_
            case hyr47 => (intro w hSw; (try dsimp only at hSw); go_simp; first | done | with_reducible rfl)
            try simp only [Act.put, List.setIfInBounds_toArray, List.set_cons_zero, List.set_cons_succ]
            refine wpAnyH_take (i := 8) (oi := { dst := some 175, op := Go.Op.fieldAddr 42 (Go.Operand.tmp 17) 2, type := 0, pos := "law.go:109", after := #[], guard := none }) (v := ?vr48) rfl (by kernel_rfl) (by kernel_rfl) (by kernel_rfl) (fun _ _ _ h => h) (Or.inl ⟨by rfl, ?hyr48⟩) hHeld ?_
            case hyr48 => (intro w hSw; (try dsimp only at hSw); go_simp; first | done | with_reducible rfl)
            try simp only [Act.put, List.setIfInBounds_toArray, List.set_cons_zero, List.set_cons_succ]
            refine wpAnyH_take (i := 9) (oi := { dst := some 176, op := Go.Op.load 39 (Go.Operand.tmp 175), type := 39, pos := "law.go:109", after := #[{ on := 8, ground := Go.Ground.data }], guard := none }) (v := ?vr49) rfl (by kernel_rfl) (by kernel_rfl) (by kernel_rfl) (fun _ _ _ h => h) (Or.inl ⟨by rfl, ?hyr49⟩) hHeld ?_
            case hyr49 => (intro w hSw; (try dsimp only at hSw); go_simp; first | done | with_reducible rfl)
            try simp only [Act.put, List.setIfInBounds_toArray, List.set_cons_zero, List.set_cons_succ]
            refine wpAnyH_ready (rs := [4]) (by kernel_rfl) (by simp) ?_
            refine AllReadyH.cons (o := { dst := some 171, op := Go.Op.call { callee := Go.Callee.value (Go.Operand.func 25), args := #[Go.Operand.tmp 167, Go.Operand.tmp 169, Go.Operand.tmp 170], argTypes := #[35, 3, 39] }, type := 26, pos := "law.go:109", after := #[{ on := 0, ground := Go.Ground.data }, { on := 2, ground := Go.Ground.data }, { on := 3, ground := Go.Ground.data }], guard := none }) rfl (fun K hK => ?_) AllReadyH.nil
            go_simp
            refine H1.out.mono ?_
            rintro e W2 ⟨rfl, hT1, hK1⟩
            have H2 := hT1.rwrite pg bA bl bc bs (HRB.out.keep hT1.bel)
            rw [HE.out] at H2
            have H2 := Lib.hid H2
            have HC2 : Hid (W2.cell? ⟨zo, 1, none⟩ = some (.int .i64 pg) ∧ W2.cell? ⟨zo, 2, none⟩ = some (.slice bA bl bc)) := ⟨(World.cell?_of_block (a := ⟨zo, 1, none⟩) (hK1.2 zo (.inl rfl))).trans HC1.out.1, (World.cell?_of_block (a := ⟨zo, 2, none⟩) (hK1.2 zo (.inl rfl))).trans HC1.out.2⟩
            replace HKD := Lib.hid (HKD.out.trans hK1)
            clear hT1 hK1 H1
            go_wp2_with fail
            refine hK.out _ _ (HC2.out) (fun hHeld => ?_)
            clear hK K
            try simp only [Act.put, List.setIfInBounds_toArray, List.set_cons_zero, List.set_cons_succ]
            refine wpAnyH_ready (rs := [10]) (by kernel_rfl) (by simp) ?_
            refine AllReadyH.cons (o := { dst := some 177, op := Go.Op.call { callee := Go.Callee.value (Go.Operand.func 26), args := #[Go.Operand.tmp 172, Go.Operand.tmp 174, Go.Operand.tmp 176], argTypes := #[37, 3, 39] }, type := 26, pos := "law.go:109", after := #[{ on := 5, ground := Go.Ground.data }, { on := 7, ground := Go.Ground.data }, { on := 9, ground := Go.Ground.data }, { on := 4, ground := Go.Ground.chain }], guard := none }) rfl (fun K hK => ?_) AllReadyH.nil
            go_simp
            refine H2.out.mono ?_
            rintro e WT ⟨rfl, hT2, hK2⟩
            have HT2 : Hid (Twp w WT pp t q g s r u log N Bz M L T2 L T2 (fun j => ∃ x, A1 = some x ∧ x.block = j)) := hT2.less (fun _ h => .inr h)
            have HC3 : Hid (WT.cell? ⟨zo, 1, none⟩ = some (.int .i64 pg) ∧ WT.cell? ⟨zo, 2, none⟩ = some (.slice bA bl bc)) := ⟨(World.cell?_of_block (a := ⟨zo, 1, none⟩) (hK2.2 zo (.inl rfl))).trans HC2.out.1, (World.cell?_of_block (a := ⟨zo, 2, none⟩) (hK2.2 zo (.inl rfl))).trans HC2.out.2⟩
            have HKT := Lib.hid (HKD.out.trans hK2)
            clear hT2 hK2 H2
            go_wp2_with fail
            refine hK.out _ _ (HC3.out) (fun hHeld => ?_)
            clear hK K
            try simp only [Act.put, List.setIfInBounds_toArray, List.set_cons_zero, List.set_cons_succ]
            refine wpAnyH_take (i := 11) (oi := { dst := some 178, op := Go.Op.binOp Go.BinOp.neq 26 (Go.Operand.tmp 171) (Go.Operand.tmp 177) 26, type := 4, pos := "law.go:109", after := #[{ on := 4, ground := Go.Ground.data }, { on := 10, ground := Go.Ground.data }], guard := none }) (v := ?vr411) rfl (by kernel_rfl) (by kernel_rfl) (by kernel_rfl) (fun _ _ _ h => h) (Or.inl ⟨by rfl, ?hyr411⟩) hHeld ?_
            case hyr411 => (intro w hSw; (try dsimp only at hSw); go_simp; first | done | with_reducible rfl)
            try simp only [Act.put, List.setIfInBounds_toArray, List.set_cons_zero, List.set_cons_succ]
            refine wpAnyH_done (by kernel_rfl) ?_ _
            have HLF2 := HLF
            have hde2 : s.deeds ≤ 104 * (k + 1) := by omega
            have HR3 : Hid (0 < bl → Row WT z1 5 bl (fun _ => True)) := fun h0 => ((HROW.out h0).2.2).keep (HKT.out.2 z1 (.inr ⟨_, (HROW.out h0).1, rfl⟩))
            go_wp2
            go_loopw [30] (fun i wr => ∃ j : Nat, j ≤ bl ∧ i = .int .i64 j ∧ Fr (fun j => ∃ x, A1 = some x ∧ x.block = j) WT wr ∧ (0 < bl → Row wr z1 5 bl (fun _ => True))) (fun i _ => bl - (RowKit.intOf i).toNat)
            case atStart => exact ⟨0, Nat.zero_le _, rfl, Fr.refl _ _, HR3.out⟩
            case round =>
              obtain ⟨j, hq, rfl, hF, hR⟩ := hrel
              by_cases hqk : j < bl
              · obtain ⟨⟨u, hu, _⟩, hfz⟩ := (hR (by omega)).cell j hqk
                obtain ⟨rfl, _, _⟩ := HROW.out (by omega)
                have HF2 := Lib.hid hF
                have HR2 := Lib.hid hR
                clear hF hR
                go_wp2
                go_roundw
                case rel => exact ⟨j + 1, by omega, by go_num, HF2.out.setCell (.inl ⟨_, rfl, rfl⟩) _, fun h0 => (HR2.out h0).set j _ trivial⟩
                case measure => simp [RowKit.intOf]; omega
              · replace HT2 : Hid (Twp w wr pp t q g s r u log N Bz M L T2 L T2 (fun _ => False)) := (HT2.out.frK hF (fun j e => by
                  obtain ⟨x, hx, rfl⟩ := e
                  have := (HROW0.out x hx).1; have := HZW.out; have := HZL.out; omega)).less (fun _ h => h.elim)
                clear hF hR HROW HR3 HROW0 HTD HTW HRD1 HZ1 HT1 HLF hde HZ HZW HZL HRB HRBW HKT
                have H1 := HT2.out.root
                have HC := Lib.hid HT2.out.cells.1
                obtain ⟨dn, hdn⟩ : ∃ dn, T2.done = dn := ⟨_, rfl⟩
                obtain ⟨lr, hlr⟩ : ∃ lr : Nat, Rp.le32 (T2.L M) = lr := ⟨_, rfl⟩
                have hrv : rootV M T2 = if dn then (0, 1) else ((lr : Int), 0) := by unfold rootV; rw [hdn, hlr]
                rw [hrv] at H1
                have HDN := Lib.hid hdn
                have HLR := Lib.hid hlr
                clear hdn hlr hrv hzo
                obtain ⟨fr, hfr⟩ : ∃ fr : Nat, freeN N Bz M L N = fr := ⟨_, rfl⟩
                have HFR := Lib.hid hfr
                clear hfr
                cases dn
                · simp only [Bool.false_eq_true, if_false] at H1
                  have H1 := Lib.hid H1
                  go_wp2_with fail
                  refine H1.out.mono ?_
                  rintro e V1 ⟨rfl, hT3, _⟩
                  have H2 := hT3.free
                  rw [HFR.out] at H2
                  have H2 := Lib.hid H2
                  clear hT3 H1 HT2
                  go_wp2_with fail
                  refine H2.out.mono ?_
                  rintro e V2 ⟨rfl, hT4, _⟩
                  have H3 := hT4.size
                  rw [show (N : Int) - ((M + 1 : Nat) : Int) = (N : Int) - (M : Int) - 1 by omega] at H3
                  have H3 := Lib.hid H3
                  have HT4 := Lib.hid hT4
                  clear hT4 H2
                  go_wp2_with fail
                  refine H3.out.mono ?_
                  rintro e V3 ⟨rfl, kk, hkk⟩
                  have hb2 : Below V2.heap.size V2 V3 := by rw [hkk]; exact ⟨rfl, rfl, rfl, Nat.le_refl _, fun _ _ => rfl⟩
                  have hT5 := (HT4.out.grow hb2).1
                  have d1 := hT5.cells.1
                  have d2 := hT5.cells.2
                  rw [HDN.out] at d2
                  have H4 := hT5.at_
                  rw [HLR.out] at H4
                  have H4 := Lib.hid H4
                  have HT5 := Lib.hid hT5
                  clear hT5 HT4 H3 hb2 hkk
                  go_wp2_with fail
                  refine H4.out.mono ?_
                  rintro e V4 ⟨rfl, kk, hkk⟩
                  have hb2 : Below V3.heap.size V3 V4 := by rw [hkk]; exact ⟨rfl, rfl, rfl, Nat.le_refl _, fun _ _ => rfl⟩
                  have hT6 := (HT5.out.grow hb2).1
                  have H5 := hT6.rfree
                  rw [HFR.out] at H5
                  have H5 := Lib.hid H5
                  have HT6 := Lib.hid hT6
                  clear hT6 HT5 H4 hb2 hkk d1 d2
                  go_wp2_with fail
                  refine H5.out.mono ?_
                  rintro e V5 ⟨rfl, kk, hkk⟩
                  have hb2 : Below V4.heap.size V4 V5 := by rw [hkk]; exact ⟨rfl, rfl, rfl, Nat.le_refl _, fun _ _ => rfl⟩
                  have hT7 := (HT6.out.grow hb2).1
                  have d1 := hT7.cells.1
                  have H6 := Lib.hid hT7.bytes
                  have HT7 := Lib.hid hT7
                  clear hT7 HT6 H5 hb2 hkk
                  go_wp2_with fail
                  refine H6.out.mono ?_
                  rintro e V6 ⟨rfl, kk, hkk⟩
                  have hb2 : Below V5.heap.size V5 V6 := by rw [hkk]; exact ⟨rfl, rfl, rfl, Nat.le_refl _, fun _ _ => rfl⟩
                  have HT8 := Lib.hid (HT7.out.grow hb2).1
                  clear HT7 H6 hb2 hkk d1
                  go_wp2
                  go_roundw
                  case rel => exact ⟨k + 1, t, u, s, L, T2, by omega, rfl, rfl, by go_num, HT8.out, HLF2.out, hde2⟩
                  case measure => simp [RowKit.intOf]; omega
                · simp only [if_true] at H1
                  have H1 := Lib.hid H1
                  go_wp2_with fail
                  refine H1.out.mono ?_
                  rintro e V1 ⟨rfl, hT3, _⟩
                  have H2 := hT3.free
                  rw [HFR.out] at H2
                  have H2 := Lib.hid H2
                  clear hT3 H1 HT2
                  go_wp2_with fail
                  refine H2.out.mono ?_
                  rintro e V2 ⟨rfl, hT4, _⟩
                  have H3 := hT4.size
                  rw [show (N : Int) - ((M + 1 : Nat) : Int) = (N : Int) - (M : Int) - 1 by omega] at H3
                  have H3 := Lib.hid H3
                  have HT4 := Lib.hid hT4
                  clear hT4 H2
                  go_wp2_with fail
                  refine H3.out.mono ?_
                  rintro e V3 ⟨rfl, kk, hkk⟩
                  have hb2 : Below V2.heap.size V2 V3 := by rw [hkk]; exact ⟨rfl, rfl, rfl, Nat.le_refl _, fun _ _ => rfl⟩
                  have hT5 := (HT4.out.grow hb2).1
                  have d1 := hT5.cells.1
                  have d2 := hT5.cells.2
                  rw [HDN.out] at d2
                  have H5 := hT5.rfree
                  rw [HFR.out] at H5
                  have H5 := Lib.hid H5
                  have HT6 := Lib.hid hT5
                  clear hT5 HT4 H3 hb2 hkk
                  go_wp2_with fail
                  refine H5.out.mono ?_
                  rintro e V5 ⟨rfl, kk, hkk⟩
                  have hb2 : Below V3.heap.size V3 V5 := by rw [hkk]; exact ⟨rfl, rfl, rfl, Nat.le_refl _, fun _ _ => rfl⟩
                  have hT7 := (HT6.out.grow hb2).1
                  have d1 := hT7.cells.1
                  have H6 := Lib.hid hT7.bytes
                  have HT7 := Lib.hid hT7
                  clear hT7 HT6 H5 hb2 hkk
                  go_wp2_with fail
                  refine H6.out.mono ?_
                  rintro e V6 ⟨rfl, kk, hkk⟩
                  have hb2 : Below V5.heap.size V5 V6 := by rw [hkk]; exact ⟨rfl, rfl, rfl, Nat.le_refl _, fun _ _ => rfl⟩
                  have HT8 := Lib.hid (HT7.out.grow hb2).1
                  clear HT7 H6 hb2 hkk d1
                  go_wp2
                  go_roundw
                  case rel => exact ⟨k + 1, t, u, s, L, T2, by omega, rfl, rfl, by go_num, HT8.out, HLF2.out, hde2⟩
                  case measure => simp [RowKit.intOf]; omega
        by_cases q5 : call = 5
        · subst q5
          as_aux_lemma =>
            have HTD : Hid (Twp w WB.drew pp t q g s r u log N Bz M L T L T (fun j => j = zo)) := (HT1.out.grow ((Below.refl _ WB).drew)).1
            have HZD : Hid (WB.drew.heap[zo]? = some (.cells #[.int .i64 5, .int .i64 pg, .slice bA bl bc, .slice kA kl kc] 42 (0, 0))) := HZ.out
            have H1 := HTD.out.setRoot pg
            obtain ⟨T2, e2, hT2e⟩ : ∃ x y, T.setRoot N Bz M pg = (x, y) := ⟨_, _, rfl⟩
            rw [hT2e] at H1
            have H1 := Lib.hid H1
            have HE := Lib.hid hT2e
            have HC1 : Hid (WB.drew.cell? ⟨zo, 1, none⟩ = some (.int .i64 pg)) := (op_cells HZD.out).2.1
            clear hT2e
            go_wp2_with fail
            clear b0 b1 b2 b3 c0 c1 c2 c3 hWB
            refine wp_region_held_drew (S := fun W => W.cell? ⟨zo, 1, none⟩ = some (.int .i64 pg)) (by kernel_rfl) (HC1.out) (fun hHeld => ?_)
            refine wpAnyH_take (i := 0) (oi := { dst := some 190, op := Go.Op.move (Go.Operand.tmp 14), type := 35, pos := "law.go:116", after := #[], guard := none }) (v := ?vr50) rfl (by kernel_rfl) (by kernel_rfl) (by kernel_rfl) (fun _ _ _ h => h) (Or.inl ⟨by rfl, ?hyr50⟩) hHeld ?_
            case hyr50 => (intro w hSw; (try dsimp only at hSw); go_simp; first | done | with_reducible rfl)
            try simp only [Act.put, List.setIfInBounds_toArray, List.set_cons_zero, List.set_cons_succ]
            refine wpAnyH_take (i := 1) (oi := { dst := some 191, op := Go.Op.fieldAddr 42 (Go.Operand.tmp 17) 1, type := 0, pos := "law.go:116", after := #[], guard := none }) (v := ?vr51) rfl (by kernel_rfl) (by kernel_rfl) (by kernel_rfl) (fun _ _ _ h => h) (Or.inl ⟨by rfl, ?hyr51⟩) hHeld ?_
            case hyr51 => (intro w hSw; (try dsimp only at hSw); go_simp; first | done | with_reducible rfl)
            try simp only [Act.put, List.setIfInBounds_toArray, List.set_cons_zero, List.set_cons_succ]
            refine wpAnyH_take (i := 2) (oi := { dst := some 192, op := Go.Op.load 3 (Go.Operand.tmp 191), type := 3, pos := "law.go:116", after := #[{ on := 1, ground := Go.Ground.data }], guard := none }) (v := ?vr52) rfl (by kernel_rfl) (by kernel_rfl) (by kernel_rfl) (fun _ _ _ h => h) (Or.inl ⟨by rfl, ?hyr52⟩) hHeld ?_
            case hyr52 => (intro w hSw; (try dsimp only at hSw); go_simp; first | done | with_reducible rfl)
            try simp only [Act.put, List.setIfInBounds_toArray, List.set_cons_zero, List.set_cons_succ]
            refine wpAnyH_take (i := 4) (oi := { dst := some 194, op := Go.Op.move (Go.Operand.tmp 15), type := 37, pos := "law.go:116", after := #[], guard := none }) (v := ?vr54) rfl (by kernel_rfl) (by kernel_rfl) (by kernel_rfl) (fun _ _ _ h => h) (Or.inl ⟨by rfl, ?hyr54⟩) hHeld ?_
            case hyr54 => (intro w hSw; (try dsimp only at hSw); go_simp; first | done | with_reducible rfl)
            try simp only [Act.put, List.setIfInBounds_toArray, List.set_cons_zero, List.set_cons_succ]
            refine wpAnyH_take (i := 5) (oi := { dst := some 195, op := Go.Op.fieldAddr 42 (Go.Operand.tmp 17) 1, type := 0, pos := "law.go:116", after := #[], guard := none }) (v := ?vr55) rfl (by kernel_rfl) (by kernel_rfl) (by kernel_rfl) (fun _ _ _ h => h) (Or.inl ⟨by rfl, ?hyr55⟩) hHeld ?_
            case hyr55 => (intro w hSw; (try dsimp only at hSw); go_simp; first | done | with_reducible rfl)
            try simp only [Act.put, List.setIfInBounds_toArray, List.set_cons_zero, List.set_cons_succ]
            refine wpAnyH_take (i := 6) (oi := { dst := some 196, op := Go.Op.load 3 (Go.Operand.tmp 195), type := 3, pos := "law.go:116", after := #[{ on := 5, ground := Go.Ground.data }], guard := none }) (v := ?vr56) rfl (by kernel_rfl) (by kernel_rfl) (by kernel_rfl) (fun _ _ _ h => h) (Or.inl ⟨by rfl, ?hyr56⟩) hHeld ?_
            case hyr56 => (intro w hSw; (try dsimp only at hSw); go_simp; first | done | with_reducible rfl)
            try simp only [Act.put, List.setIfInBounds_toArray, List.set_cons_zero, List.set_cons_succ]
            refine wpAnyH_ready (rs := [3]) (by kernel_rfl) (by simp) ?_
            refine AllReadyH.cons (o := { dst := some 193, op := Go.Op.call { callee := Go.Callee.value (Go.Operand.func 27), args := #[Go.Operand.tmp 190, Go.Operand.tmp 192], argTypes := #[35, 3] }, type := 26, pos := "law.go:116", after := #[{ on := 0, ground := Go.Ground.data }, { on := 2, ground := Go.Ground.data }], guard := none }) rfl (fun K hK => ?_) AllReadyH.nil
            go_simp
            refine H1.out.mono ?_
            rintro e W1 ⟨rfl, hT1, hK1⟩
            have H2 := hT1.rsetRoot pg
            rw [HE.out] at H2
            have H2 := Lib.hid H2
            have HC2 : Hid (W1.cell? ⟨zo, 1, none⟩ = some (.int .i64 pg)) := (World.cell?_of_block (a := ⟨zo, 1, none⟩) (hK1.2 zo rfl)).trans HC1.out
            clear hT1 hK1 H1
            go_wp2_with fail
            refine hK.out _ _ (HC2.out) (fun hHeld => ?_)
            clear hK K
            try simp only [Act.put, List.setIfInBounds_toArray, List.set_cons_zero, List.set_cons_succ]
            refine wpAnyH_ready (rs := [7]) (by kernel_rfl) (by simp) ?_
            refine AllReadyH.cons (o := { dst := some 197, op := Go.Op.call { callee := Go.Callee.value (Go.Operand.func 28), args := #[Go.Operand.tmp 194, Go.Operand.tmp 196], argTypes := #[37, 3] }, type := 26, pos := "law.go:116", after := #[{ on := 4, ground := Go.Ground.data }, { on := 6, ground := Go.Ground.data }, { on := 3, ground := Go.Ground.chain }], guard := none }) rfl (fun K hK => ?_) AllReadyH.nil
            go_simp
            refine H2.out.mono ?_
            rintro e WT ⟨rfl, hT2, hK2⟩
            have HT2 : Hid (Twp w WT pp t q g s r u log N Bz M L T2 L T2 (fun _ => False)) := hT2.less (fun _ h => h.elim)
            have HC3 : Hid (WT.cell? ⟨zo, 1, none⟩ = some (.int .i64 pg)) := (World.cell?_of_block (a := ⟨zo, 1, none⟩) (hK2.2 zo rfl)).trans HC2.out
            clear hT2 hK2 H2
            go_wp2_with fail
            refine hK.out _ _ (HC3.out) (fun hHeld => ?_)
            clear hK K
            try simp only [Act.put, List.setIfInBounds_toArray, List.set_cons_zero, List.set_cons_succ]
            refine wpAnyH_take (i := 8) (oi := { dst := some 198, op := Go.Op.binOp Go.BinOp.neq 26 (Go.Operand.tmp 193) (Go.Operand.tmp 197) 26, type := 4, pos := "law.go:116", after := #[{ on := 3, ground := Go.Ground.data }, { on := 7, ground := Go.Ground.data }], guard := none }) (v := ?vr58) rfl (by kernel_rfl) (by kernel_rfl) (by kernel_rfl) (fun _ _ _ h => h) (Or.inl ⟨by rfl, ?hyr58⟩) hHeld ?_
            case hyr58 => (intro w hSw; (try dsimp only at hSw); go_simp; first | done | with_reducible rfl)
            try simp only [Act.put, List.setIfInBounds_toArray, List.set_cons_zero, List.set_cons_succ]
            refine wpAnyH_done (by kernel_rfl) ?_ _
            have HLF2 := HLF
            have hde2 : s.deeds ≤ 104 * (k + 1) := by omega
            clear HT1 HLF hde HZ HZW HZL HRB HRBW HTD HZD HE HC1
            have H1 := HT2.out.root
            have HC := Lib.hid HT2.out.cells.1
            obtain ⟨dn, hdn⟩ : ∃ dn, T2.done = dn := ⟨_, rfl⟩
            obtain ⟨lr, hlr⟩ : ∃ lr : Nat, Rp.le32 (T2.L M) = lr := ⟨_, rfl⟩
            have hrv : rootV M T2 = if dn then (0, 1) else ((lr : Int), 0) := by unfold rootV; rw [hdn, hlr]
            rw [hrv] at H1
            have HDN := Lib.hid hdn
            have HLR := Lib.hid hlr
            clear hdn hlr hrv hzo
            obtain ⟨fr, hfr⟩ : ∃ fr : Nat, freeN N Bz M L N = fr := ⟨_, rfl⟩
            have HFR := Lib.hid hfr
            clear hfr
            cases dn
            · simp only [Bool.false_eq_true, if_false] at H1
              have H1 := Lib.hid H1
              go_wp2_with fail
              refine H1.out.mono ?_
              rintro e V1 ⟨rfl, hT3, _⟩
              have H2 := hT3.free
              rw [HFR.out] at H2
              have H2 := Lib.hid H2
              clear hT3 H1 HT2
              go_wp2_with fail
              refine H2.out.mono ?_
              rintro e V2 ⟨rfl, hT4, _⟩
              have H3 := hT4.size
              rw [show (N : Int) - ((M + 1 : Nat) : Int) = (N : Int) - (M : Int) - 1 by omega] at H3
              have H3 := Lib.hid H3
              have HT4 := Lib.hid hT4
              clear hT4 H2
              go_wp2_with fail
              refine H3.out.mono ?_
              rintro e V3 ⟨rfl, kk, hkk⟩
              have hb2 : Below V2.heap.size V2 V3 := by rw [hkk]; exact ⟨rfl, rfl, rfl, Nat.le_refl _, fun _ _ => rfl⟩
              have hT5 := (HT4.out.grow hb2).1
              have d1 := hT5.cells.1
              have d2 := hT5.cells.2
              rw [HDN.out] at d2
              have H4 := hT5.at_
              rw [HLR.out] at H4
              have H4 := Lib.hid H4
              have HT5 := Lib.hid hT5
              clear hT5 HT4 H3 hb2 hkk
              go_wp2_with fail
              refine H4.out.mono ?_
              rintro e V4 ⟨rfl, kk, hkk⟩
              have hb2 : Below V3.heap.size V3 V4 := by rw [hkk]; exact ⟨rfl, rfl, rfl, Nat.le_refl _, fun _ _ => rfl⟩
              have hT6 := (HT5.out.grow hb2).1
              have H5 := hT6.rfree
              rw [HFR.out] at H5
              have H5 := Lib.hid H5
              have HT6 := Lib.hid hT6
              clear hT6 HT5 H4 hb2 hkk d1 d2
              go_wp2_with fail
              refine H5.out.mono ?_
              rintro e V5 ⟨rfl, kk, hkk⟩
              have hb2 : Below V4.heap.size V4 V5 := by rw [hkk]; exact ⟨rfl, rfl, rfl, Nat.le_refl _, fun _ _ => rfl⟩
              have hT7 := (HT6.out.grow hb2).1
              have d1 := hT7.cells.1
              have H6 := Lib.hid hT7.bytes
              have HT7 := Lib.hid hT7
              clear hT7 HT6 H5 hb2 hkk
              go_wp2_with fail
              refine H6.out.mono ?_
              rintro e V6 ⟨rfl, kk, hkk⟩
              have hb2 : Below V5.heap.size V5 V6 := by rw [hkk]; exact ⟨rfl, rfl, rfl, Nat.le_refl _, fun _ _ => rfl⟩
              have HT8 := Lib.hid (HT7.out.grow hb2).1
              clear HT7 H6 hb2 hkk d1
              go_wp2
              go_roundw
              case rel => exact ⟨k + 1, t, u, s, L, T2, by omega, rfl, rfl, by go_num, HT8.out, HLF2.out, hde2⟩
              case measure => simp [RowKit.intOf]; omega
            · simp only [if_true] at H1
              have H1 := Lib.hid H1
              go_wp2_with fail
              refine H1.out.mono ?_
              rintro e V1 ⟨rfl, hT3, _⟩
              have H2 := hT3.free
              rw [HFR.out] at H2
              have H2 := Lib.hid H2
              clear hT3 H1 HT2
              go_wp2_with fail
              refine H2.out.mono ?_
              rintro e V2 ⟨rfl, hT4, _⟩
              have H3 := hT4.size
              rw [show (N : Int) - ((M + 1 : Nat) : Int) = (N : Int) - (M : Int) - 1 by omega] at H3
              have H3 := Lib.hid H3
              have HT4 := Lib.hid hT4
              clear hT4 H2
              go_wp2_with fail
              refine H3.out.mono ?_
              rintro e V3 ⟨rfl, kk, hkk⟩
              have hb2 : Below V2.heap.size V2 V3 := by rw [hkk]; exact ⟨rfl, rfl, rfl, Nat.le_refl _, fun _ _ => rfl⟩
              have hT5 := (HT4.out.grow hb2).1
              have d1 := hT5.cells.1
              have d2 := hT5.cells.2
              rw [HDN.out] at d2
              have H5 := hT5.rfree
              rw [HFR.out] at H5
              have H5 := Lib.hid H5
              have HT6 := Lib.hid hT5
              clear hT5 HT4 H3 hb2 hkk
              go_wp2_with fail
              refine H5.out.mono ?_
              rintro e V5 ⟨rfl, kk, hkk⟩
              have hb2 : Below V3.heap.size V3 V5 := by rw [hkk]; exact ⟨rfl, rfl, rfl, Nat.le_refl _, fun _ _ => rfl⟩
              have hT7 := (HT6.out.grow hb2).1
              have d1 := hT7.cells.1
              have H6 := Lib.hid hT7.bytes
              have HT7 := Lib.hid hT7
              clear hT7 HT6 H5 hb2 hkk
              go_wp2_with fail
              refine H6.out.mono ?_
              rintro e V6 ⟨rfl, kk, hkk⟩
              have hb2 : Below V5.heap.size V5 V6 := by rw [hkk]; exact ⟨rfl, rfl, rfl, Nat.le_refl _, fun _ _ => rfl⟩
              have HT8 := Lib.hid (HT7.out.grow hb2).1
              clear HT7 H6 hb2 hkk d1
              go_wp2
              go_roundw
              case rel => exact ⟨k + 1, t, u, s, L, T2, by omega, rfl, rfl, by go_num, HT8.out, HLF2.out, hde2⟩
              case measure => simp [RowKit.intOf]; omega
        by_cases q6 : call = 6
        · subst q6
          as_aux_lemma =>
            have H1 := HT1.out.commit HLF.out (by omega)
            obtain ⟨L2, T2, e2, hce⟩ : ∃ x y z, T.commit N Bz M log L = (x, y, z) := ⟨_, _, _, rfl⟩
            rw [hce] at H1
            have H1 := Lib.hid H1
            have HE := Lib.hid hce
            clear hce
            go_wp2_with fail
            refine H1.out.mono ?_
            rintro e W1 ⟨rfl, s2, ⟨hT1, hK1⟩, hl2, hd2⟩
            have H2 := hT1.rcommit
            rw [HE.out] at H2
            have H2 := Lib.hid H2
            have HLF2 := Lib.hid hl2
            have hde2 : s2.deeds ≤ 104 * (k + 1) := by omega
            clear hT1 hK1 H1 hl2 hd2
            go_wp2_with fail
            refine H2.out.mono ?_
            rintro e WT ⟨rfl, hT2, hK2⟩
            have HT2 : Hid (Twp w WT pp t q g s2 r u log N Bz M L2 T2 L2 T2 (fun _ => False)) := hT2.less (fun _ h => h.elim)
            clear HT1 HLF hde HZ HZW HZL HRB HRBW hT2 hK2 H2 HE
            have H1 := HT2.out.root
            have HC := Lib.hid HT2.out.cells.1
            obtain ⟨dn, hdn⟩ : ∃ dn, T2.done = dn := ⟨_, rfl⟩
            obtain ⟨lr, hlr⟩ : ∃ lr : Nat, Rp.le32 (T2.L M) = lr := ⟨_, rfl⟩
            have hrv : rootV M T2 = if dn then (0, 1) else ((lr : Int), 0) := by unfold rootV; rw [hdn, hlr]
            rw [hrv] at H1
            have HDN := Lib.hid hdn
            have HLR := Lib.hid hlr
            clear hdn hlr hrv b0 b1 b2 b3 c0 c1 c2 c3 hWB hzo
            obtain ⟨fr, hfr⟩ : ∃ fr : Nat, freeN N Bz M L2 N = fr := ⟨_, rfl⟩
            have HFR := Lib.hid hfr
            clear hfr
            cases dn
            · simp only [Bool.false_eq_true, if_false] at H1
              have H1 := Lib.hid H1
              go_wp2_with fail
              refine H1.out.mono ?_
              rintro e V1 ⟨rfl, hT3, _⟩
              have H2 := hT3.free
              rw [HFR.out] at H2
              have H2 := Lib.hid H2
              clear hT3 H1 HT2
              go_wp2_with fail
              refine H2.out.mono ?_
              rintro e V2 ⟨rfl, hT4, _⟩
              have H3 := hT4.size
              rw [show (N : Int) - ((M + 1 : Nat) : Int) = (N : Int) - (M : Int) - 1 by omega] at H3
              have H3 := Lib.hid H3
              have HT4 := Lib.hid hT4
              clear hT4 H2
              go_wp2_with fail
              refine H3.out.mono ?_
              rintro e V3 ⟨rfl, kk, hkk⟩
              have hb2 : Below V2.heap.size V2 V3 := by rw [hkk]; exact ⟨rfl, rfl, rfl, Nat.le_refl _, fun _ _ => rfl⟩
              have hT5 := (HT4.out.grow hb2).1
              have d1 := hT5.cells.1
              have d2 := hT5.cells.2
              rw [HDN.out] at d2
              have H4 := hT5.at_
              rw [HLR.out] at H4
              have H4 := Lib.hid H4
              have HT5 := Lib.hid hT5
              clear hT5 HT4 H3 hb2 hkk
              go_wp2_with fail
              refine H4.out.mono ?_
              rintro e V4 ⟨rfl, kk, hkk⟩
              have hb2 : Below V3.heap.size V3 V4 := by rw [hkk]; exact ⟨rfl, rfl, rfl, Nat.le_refl _, fun _ _ => rfl⟩
              have hT6 := (HT5.out.grow hb2).1
              have H5 := hT6.rfree
              rw [HFR.out] at H5
              have H5 := Lib.hid H5
              have HT6 := Lib.hid hT6
              clear hT6 HT5 H4 hb2 hkk d1 d2
              go_wp2_with fail
              refine H5.out.mono ?_
              rintro e V5 ⟨rfl, kk, hkk⟩
              have hb2 : Below V4.heap.size V4 V5 := by rw [hkk]; exact ⟨rfl, rfl, rfl, Nat.le_refl _, fun _ _ => rfl⟩
              have hT7 := (HT6.out.grow hb2).1
              have d1 := hT7.cells.1
              have H6 := Lib.hid hT7.bytes
              have HT7 := Lib.hid hT7
              clear hT7 HT6 H5 hb2 hkk
              go_wp2_with fail
              refine H6.out.mono ?_
              rintro e V6 ⟨rfl, kk, hkk⟩
              have hb2 : Below V5.heap.size V5 V6 := by rw [hkk]; exact ⟨rfl, rfl, rfl, Nat.le_refl _, fun _ _ => rfl⟩
              have HT8 := Lib.hid (HT7.out.grow hb2).1
              clear HT7 H6 hb2 hkk d1
              go_wp2
              go_roundw
              case rel => exact ⟨k + 1, t, u, s2, L2, T2, by omega, rfl, rfl, by go_num, HT8.out, HLF2.out, hde2⟩
              case measure => simp [RowKit.intOf]; omega
            · simp only [if_true] at H1
              have H1 := Lib.hid H1
              go_wp2_with fail
              refine H1.out.mono ?_
              rintro e V1 ⟨rfl, hT3, _⟩
              have H2 := hT3.free
              rw [HFR.out] at H2
              have H2 := Lib.hid H2
              clear hT3 H1 HT2
              go_wp2_with fail
              refine H2.out.mono ?_
              rintro e V2 ⟨rfl, hT4, _⟩
              have H3 := hT4.size
              rw [show (N : Int) - ((M + 1 : Nat) : Int) = (N : Int) - (M : Int) - 1 by omega] at H3
              have H3 := Lib.hid H3
              have HT4 := Lib.hid hT4
              clear hT4 H2
              go_wp2_with fail
              refine H3.out.mono ?_
              rintro e V3 ⟨rfl, kk, hkk⟩
              have hb2 : Below V2.heap.size V2 V3 := by rw [hkk]; exact ⟨rfl, rfl, rfl, Nat.le_refl _, fun _ _ => rfl⟩
              have hT5 := (HT4.out.grow hb2).1
              have d1 := hT5.cells.1
              have d2 := hT5.cells.2
              rw [HDN.out] at d2
              have H5 := hT5.rfree
              rw [HFR.out] at H5
              have H5 := Lib.hid H5
              have HT6 := Lib.hid hT5
              clear hT5 HT4 H3 hb2 hkk
              go_wp2_with fail
              refine H5.out.mono ?_
              rintro e V5 ⟨rfl, kk, hkk⟩
              have hb2 : Below V3.heap.size V3 V5 := by rw [hkk]; exact ⟨rfl, rfl, rfl, Nat.le_refl _, fun _ _ => rfl⟩
              have hT7 := (HT6.out.grow hb2).1
              have d1 := hT7.cells.1
              have H6 := Lib.hid hT7.bytes
              have HT7 := Lib.hid hT7
              clear hT7 HT6 H5 hb2 hkk
              go_wp2_with fail
              refine H6.out.mono ?_
              rintro e V6 ⟨rfl, kk, hkk⟩
              have hb2 : Below V5.heap.size V5 V6 := by rw [hkk]; exact ⟨rfl, rfl, rfl, Nat.le_refl _, fun _ _ => rfl⟩
              have HT8 := Lib.hid (HT7.out.grow hb2).1
              clear HT7 H6 hb2 hkk d1
              go_wp2
              go_roundw
              case rel => exact ⟨k + 1, t, u, s2, L2, T2, by omega, rfl, rfl, by go_num, HT8.out, HLF2.out, hde2⟩
              case measure => simp [RowKit.intOf]; omega
        as_aux_lemma =>
          have HT2 : Hid (Twp w WB pp t q g s r u log N Bz M L T L T (fun _ => False)) := HT1.out.less (fun _ h => h.elim)
          have HLF2 := HLF
          have hde2 : s.deeds ≤ 104 * (k + 1) := by omega
          clear HT1 HLF hde HZ HZW HZL HRB HRBW
          have H1 := HT2.out.root
          have HC := Lib.hid HT2.out.cells.1
          obtain ⟨dn, hdn⟩ : ∃ dn, T.done = dn := ⟨_, rfl⟩
          obtain ⟨lr, hlr⟩ : ∃ lr : Nat, Rp.le32 (T.L M) = lr := ⟨_, rfl⟩
          have hrv : rootV M T = if dn then (0, 1) else ((lr : Int), 0) := by unfold rootV; rw [hdn, hlr]
          rw [hrv] at H1
          have HDN := Lib.hid hdn
          have HLR := Lib.hid hlr
          clear hdn hlr hrv
          obtain ⟨fr, hfr⟩ : ∃ fr : Nat, freeN N Bz M L N = fr := ⟨_, rfl⟩
          have HFR := Lib.hid hfr
          clear hfr
          cases dn
          · simp only [Bool.false_eq_true, if_false] at H1
            have H1 := Lib.hid H1
            go_wp2_with fail
            refine H1.out.mono ?_
            rintro e V1 ⟨rfl, hT3, _⟩
            have H2 := hT3.free
            rw [HFR.out] at H2
            have H2 := Lib.hid H2
            clear hT3 H1 HT2
            go_wp2_with fail
            refine H2.out.mono ?_
            rintro e V2 ⟨rfl, hT4, _⟩
            have H3 := hT4.size
            rw [show (N : Int) - ((M + 1 : Nat) : Int) = (N : Int) - (M : Int) - 1 by omega] at H3
            have H3 := Lib.hid H3
            have HT4 := Lib.hid hT4
            clear hT4 H2
            go_wp2_with fail
            refine H3.out.mono ?_
            rintro e V3 ⟨rfl, kk, hkk⟩
            have hb2 : Below V2.heap.size V2 V3 := by rw [hkk]; exact ⟨rfl, rfl, rfl, Nat.le_refl _, fun _ _ => rfl⟩
            have hT5 := (HT4.out.grow hb2).1
            have d1 := hT5.cells.1
            have d2 := hT5.cells.2
            rw [HDN.out] at d2
            have H4 := hT5.at_
            rw [HLR.out] at H4
            have H4 := Lib.hid H4
            have HT5 := Lib.hid hT5
            clear hT5 HT4 H3 hb2 hkk
            go_wp2_with fail
            refine H4.out.mono ?_
            rintro e V4 ⟨rfl, kk, hkk⟩
            have hb2 : Below V3.heap.size V3 V4 := by rw [hkk]; exact ⟨rfl, rfl, rfl, Nat.le_refl _, fun _ _ => rfl⟩
            have hT6 := (HT5.out.grow hb2).1
            have H5 := hT6.rfree
            rw [HFR.out] at H5
            have H5 := Lib.hid H5
            have HT6 := Lib.hid hT6
            clear hT6 HT5 H4 hb2 hkk d1 d2
            go_wp2_with fail
            refine H5.out.mono ?_
            rintro e V5 ⟨rfl, kk, hkk⟩
            have hb2 : Below V4.heap.size V4 V5 := by rw [hkk]; exact ⟨rfl, rfl, rfl, Nat.le_refl _, fun _ _ => rfl⟩
            have hT7 := (HT6.out.grow hb2).1
            have d1 := hT7.cells.1
            have H6 := Lib.hid hT7.bytes
            have HT7 := Lib.hid hT7
            clear hT7 HT6 H5 hb2 hkk
            go_wp2_with fail
            refine H6.out.mono ?_
            rintro e V6 ⟨rfl, kk, hkk⟩
            have hb2 : Below V5.heap.size V5 V6 := by rw [hkk]; exact ⟨rfl, rfl, rfl, Nat.le_refl _, fun _ _ => rfl⟩
            have HT8 := Lib.hid (HT7.out.grow hb2).1
            clear HT7 H6 hb2 hkk d1
            go_wp2
            go_roundw
            case rel => exact ⟨k + 1, t, u, s, L, T, by omega, rfl, rfl, by go_num, HT8.out, HLF2.out, hde2⟩
            case measure => simp [RowKit.intOf]; omega
          · simp only [if_true] at H1
            have H1 := Lib.hid H1
            go_wp2_with fail
            refine H1.out.mono ?_
            rintro e V1 ⟨rfl, hT3, _⟩
            have H2 := hT3.free
            rw [HFR.out] at H2
            have H2 := Lib.hid H2
            clear hT3 H1 HT2
            go_wp2_with fail
            refine H2.out.mono ?_
            rintro e V2 ⟨rfl, hT4, _⟩
            have H3 := hT4.size
            rw [show (N : Int) - ((M + 1 : Nat) : Int) = (N : Int) - (M : Int) - 1 by omega] at H3
            have H3 := Lib.hid H3
            have HT4 := Lib.hid hT4
            clear hT4 H2
            go_wp2_with fail
            refine H3.out.mono ?_
            rintro e V3 ⟨rfl, kk, hkk⟩
            have hb2 : Below V2.heap.size V2 V3 := by rw [hkk]; exact ⟨rfl, rfl, rfl, Nat.le_refl _, fun _ _ => rfl⟩
            have hT5 := (HT4.out.grow hb2).1
            have d1 := hT5.cells.1
            have d2 := hT5.cells.2
            rw [HDN.out] at d2
            have H5 := hT5.rfree
            rw [HFR.out] at H5
            have H5 := Lib.hid H5
            have HT6 := Lib.hid hT5
            clear hT5 HT4 H3 hb2 hkk
            go_wp2_with fail
            refine H5.out.mono ?_
            rintro e V5 ⟨rfl, kk, hkk⟩
            have hb2 : Below V3.heap.size V3 V5 := by rw [hkk]; exact ⟨rfl, rfl, rfl, Nat.le_refl _, fun _ _ => rfl⟩
            have hT7 := (HT6.out.grow hb2).1
            have d1 := hT7.cells.1
            have H6 := Lib.hid hT7.bytes
            have HT7 := Lib.hid hT7
            clear hT7 HT6 H5 hb2 hkk
            go_wp2_with fail
            refine H6.out.mono ?_
            rintro e V6 ⟨rfl, kk, hkk⟩
            have hb2 : Below V5.heap.size V5 V6 := by rw [hkk]; exact ⟨rfl, rfl, rfl, Nat.le_refl _, fun _ _ => rfl⟩
            have HT8 := Lib.hid (HT7.out.grow hb2).1
            clear HT7 H6 hb2 hkk d1
            go_wp2
            go_roundw
            case rel => exact ⟨k + 1, t, u, s, L, T, by omega, rfl, rfl, by go_num, HT8.out, HLF2.out, hde2⟩
            case measure => simp [RowKit.intOf]; omega
      · obtain rfl : k = len3 := by omega
        clear HO HFW hlft hde
        have HAW := Lib.hid (awake_any wr)
        go_wp2_with fail
        refine HAW.out.mono ?_
        rintro e w9 ⟨rfl, hb⟩
        have HBL : Hid (Below w.heap.size w w9) := hT.bel.trans (hb.mono hT.bel.size)
        clear hb hT HT
        go_wp2
        go_ret
        exact ⟨rfl, HBL.out⟩
  · simp only [if_neg hMN] at HOP
    go_wp2_with fail
    refine HOP.out.mono ?_
    rintro e w2 ⟨rfl, hf2⟩
    have HB2 : Hid (Below w.heap.size w w2) := HB1.out.trans (hf2.below HD.out HB1.out.size)
    have HRN2 := Lib.hid (HRN.out w2)
    simp only [decide_eq_false hMN] at HRN2
    clear hf2 HOP HRN HO HFW
    go_wp2_with fail
    refine HRN2.out.mono ?_
    rintro e w3 ⟨r, lb, cap, rfl, _, _, _, hb3⟩
    have HB3 : Hid (Below w.heap.size w w3) := HB2.out.trans (hb3.mono HB2.out.size)
    have HAW := Lib.hid (awake_any w3)
    clear hb3 HRN2 HB2
    go_wp2_with fail
    refine HAW.out.mono ?_
    rintro e w9 ⟨rfl, hb⟩
    have HBL : Hid (Below w.heap.size w w9) := HB3.out.trans (hb.mono HB3.out.size)
    clear hb
    go_wp2
    go_ret
    exact ⟨rfl, HBL.out⟩

set_option maxRecDepth 100000 in
set_option maxHeartbeats 4000000 in
theorem walk (a0 : Int) (a1 : Int) (a2 : Int) (a3 : Option Addr) (len3 cap3 : Nat) (w : World) (w0 : (Lit.int .i64 a0).wf = true) (w1 : (Lit.int .i64 a1).wf = true) (w2 : (Lit.int .i64 a2).wf = true) (w3 : IsO w a3 len3 cap3) :
    Calls Tryz.prog 3 #[.int .i64 a0, .int .i64 a1, .int .i64 a2, .slice a3 len3 cap3] w fun e w' => e = .returned (.bool true) ∧ Below w.heap.size w w' := by
  have b0 := bounds_i64 w0
  have b1 := bounds_i64 w1
  have b2 := bounds_i64 w2
  have HO := Lib.hid w3
  have HF := Lib.hid (few_any w a3 len3 cap3 w3)
  by_cases hs : 3 ≤ a0 ∧ a0 ≤ 160 ∧ 16 ≤ a1 ∧ a1 ≤ 40 ∧ 1 ≤ a2 ∧ a2 ≤ 12 ∧ 3 + 3 * a2 ≤ a1
  · obtain ⟨N, rfl⟩ := Int.eq_ofNat_of_zero_le (show 0 ≤ a0 by omega)
    obtain ⟨Bz, rfl⟩ := Int.eq_ofNat_of_zero_le (show 0 ≤ a1 by omega)
    obtain ⟨log, rfl⟩ := Int.eq_ofNat_of_zero_le (show 0 ≤ a2 by omega)
    exact walkGood N Bz log a3 len3 cap3 w HO.out HF.out (by omega) (by omega) (by omega) (by omega) (by omega) (by omega) (by omega)
  · have HS := Lib.hid (small_all a0 a1 a2 w)
    have HNS := Lib.hid hs
    clear w3 hs
    go_enter Tryz.func3, Tryz.ntmps3
    go_wp2_with fail
    refine HS.out.mono ?_
    rintro e w' ⟨rfl | ⟨rfl, hy⟩, rfl⟩
    · go_wp2
      go_ret
      exact ⟨rfl, Below.refl _ _⟩
    · exact absurd hy HNS.out

set_option maxRecDepth 100000 in
theorem lifted (os : Os) (started : os.Started) (H : Type) (enc : TypeId × Value → H) :
    ReturnsInHanded {} Tryz.checked os 3 .any (Rows.pagesDoesSpec.pre6 enc Tryz.prog Tryz.f3 Rows.pagesDoesRow.domain false) (Rows.pagesDoesSpec.post enc Tryz.prog Tryz.f3 false true false false) := by
  refine returnsInHanded_of_change (C := Tryz.checked) own started (by kernel_rfl) Tryz.func3
    (ChangeSpec.witness6 (enc := enc) (C := Tryz.checked) false ⟨#[], #[.int .i64 0, .int .i64 0, .int .i64 0, .slice none 0 0], []⟩ 8 (by kernel_rfl) (by kernel_rfl) (by kernel_rfl) (by kernel_rfl)) ?_
  intro W base args ds gs before hval0 hW hcnd _
  have hval : ∀ (j : Nat) t v, Tryz.f3.params[j]? = some t → args[j]? = some v → Value.okWide Tryz.prog W .any base t v := hval0
  have hW' := hW
  obtain ⟨p, q, hA0, hV, rfl, hfz, hnd⟩ := hW
  have hA : DataW.TrodAll enc Tryz.prog W 0 (fun _ => true) true Tryz.f3.params.toList args.toList ds p := hA0
  rw [Tryz.params3] at hA hval
  obtain ⟨v0, vs0, d0, ds0, p0, q0, hargs, rfl, rfl, h0, r0⟩ := trodAll_cons hA
  obtain ⟨v1, vs1, d1, ds1, p1, q1, rfl, rfl, rfl, h1, r1⟩ := trodAll_cons r0
  obtain ⟨v2, vs2, d2, ds2, p2, q2, rfl, rfl, rfl, h2, r2⟩ := trodAll_cons r1
  obtain ⟨v3, vs3, d3, ds3, p3, q3, rfl, rfl, rfl, h3, r3⟩ := trodAll_cons r2
  obtain ⟨rfl, rfl, rfl⟩ := trodAll_nil r3
  obtain rfl : args = #[v0, v1, v2, v3] := by cases args; simp_all
  obtain ⟨rfl, rfl⟩ := trodVars_none hV
  obtain ⟨a0, rfl, rfl, rfl, w0⟩ := open_int Tryz.underlying3 (hval 0 3 v0 rfl rfl) h0
  obtain ⟨a1, rfl, rfl, rfl, w1⟩ := open_int Tryz.underlying3 (hval 1 3 v1 rfl rfl) h1
  obtain ⟨a2, rfl, rfl, rfl, w2⟩ := open_int Tryz.underlying3 (hval 2 3 v2 rfl rfl) h2
  obtain ⟨a3, len3, cap3, rfl⟩ := okWide_slice Tryz.underlying22 (hval 3 22 v3 rfl rfl)
  have k3 := h3
  have lt3 : ∀ x ∈ p3, x.block < W.heap.size := by obtain ⟨m, hm⟩ := k3; exact DataW.trod_lt m _ _ _ hm
  have w3 : IsO W a3 len3 cap3 := by
    obtain ⟨fuel, hf⟩ := h3
    exact IsO.of hf
  clear hA0 hval0
  refine (walk a0 a1 a2 a3 len3 cap3 W w0 w1 w2 w3).mono fun e W' ⟨he, bel⟩ => ?_
  subst he
  exact ⟨_, rfl, _, _, _, [], _, [], hW', trodAll_mk1 (shut_bool Tryz.underlying4 _), (trodAll_cons_mk (shut_int Tryz.underlying3 w0) (trodAll_cons_mk (shut_int Tryz.underlying3 w1) (trodAll_cons_mk (shut_int Tryz.underlying3 w2) (trodAll_cons_mk (Below.trod laidOut (by kernel_rfl) (of_decide_eq_true (by kernel_rfl)) k3 bel lt3) trodAll_mk0)))), rfl, bel.frame _, fun h => by cases h⟩

theorem over : Rows.pagesDoesRow.holds Tryz.pinned (OpenSpec.ofChange Rows.pagesDoesSpec) :=
  OpenClaim.holds_of_wide 3 Tryz.f3 rfl rfl rfl rfl rfl rfl rfl ⟨rfl, rfl, rfl, rfl, rfl⟩ rfl rfl rfl rfl rfl (by kernel_rfl) Tryz.func3 (by kernel_rfl)
    (of_decide_eq_true (by kernel_rfl)) (by unfold Func.isWrapper; first | (rw [if_pos (by decide +kernel)]; kernel_rfl) | (rw [if_neg (by decide +kernel)]; exact ⟨rfl, rfl⟩))
    (fun os started H enc _ => lifted os started H enc)

/-- the statement. -/
theorem proved : Rows.PagesDoesSaid := over
#print axioms proved
end Go.Proofs.YtephmcbofcfpmaaGreat.pagesDoes
