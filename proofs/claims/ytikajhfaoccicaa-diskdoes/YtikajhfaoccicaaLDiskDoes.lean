/-
  The statement 'DiskDoes' (chandlerylaw05) holds at every input: the call returns true and leaves its arguments as they were. Conditions: none beyond the row's own.
-/
import Derived.Test.YtikajhfaoccicaaRows
import Derived.Test.YtikajhfaoccicaaTw2
import Derived.Deep.RegionHeld3
import Derived.WalkKit
import Derived.ProofKit
import Derived.OpenShut
import Derived.ChangeOld
import Derived.Below
namespace Go.Proofs.Ytikajhfaoccicaa.diskDoes
open Go.ChangeShapes Go.WideShapes Go.ChangeAt Go.RowKit Go.Bs Go.Dk
set_option linter.unusedVariables false

theorem own : ownKnob Try.prog.godebug = none := by kernel_rfl
theorem laidOut : laidOutB Try.prog = true := by kernel_rfl

set_option maxRecDepth 100000 in
set_option maxHeartbeats 16000000 in
theorem walkGood (n m : Nat) (a2 : Option Addr) (len2 cap2 : Nat) (w : World) (hO : IsO w a2 len2 cap2)
    (hF : Calls Try.prog 8 #[.slice a2 len2 cap2] w fun e w' => (e = .returned (.bool false) ∨ (e = .returned (.bool true) ∧ few w a2 len2)) ∧ w = w')
    (hM : ∀ w, Calls Try.prog 9 #[.int .i64 (n : Int), .int .i64 (m : Int)] w fun e w' => e = .returned (.bool true) ∧ w = w')
    (hn0 : 1 ≤ n) (hn : n ≤ 30) (hm0 : 16 ≤ m) (hm : m ≤ 100) :
    Calls Try.prog 3 #[.int .i64 (n : Int), .int .i64 (m : Int), .slice a2 len2 cap2] w fun e w' => e = .returned (.bool true) ∧ Below w.heap.size w w' := by
  have HO := Lib.hid hO
  have HF := Lib.hid hF
  have HM := Lib.hid hM
  have hml := hO.m
  have hle := hO.le
  unfold maxLen at hml
  have HN := Lib.hid (New_any n m hn0 (by omega) hm0 (by omega) w)
  clear hO hF hM
  go_enter Try.func3, Try.ntmps3
  go_wp2_with fail
  refine HF.out.mono ?_
  rintro e w' ⟨rfl | ⟨rfl, hfew⟩, rfl⟩
  · go_wp2
    go_ret
    exact ⟨rfl, Below.refl _ _⟩
  have hlen2 := hfew.1
  have HFW := Lib.hid hfew.2
  clear hfew HF
  go_wp2_with fail
  refine (HM.out _).mono ?_
  rintro e w' ⟨rfl, rfl⟩
  go_wp2_with fail
  refine HN.out.mono ?_
  rintro e wA ⟨g, D1, rfl, hd1, hk1, hb1⟩
  have HD1 := Lib.hid hd1
  have HK1 := Lib.hid hk1
  have HB1 := Lib.hid hb1
  have HRN := Lib.hid (rNew_any wA n m hn0 (by omega) hm0 (by omega))
  clear hd1 hk1 hb1 HN
  go_wp2_with fail
  refine (HM.out _).mono ?_
  rintro e w' ⟨rfl, rfl⟩
  go_wp2_with fail
  refine HRN.out.mono ?_
  rintro e wB ⟨r, D2, rfl, hd2, hk2, hb2⟩
  have HTB : Hid (Two w wB g r (S.new n m) (S.new n m) (fun _ => False)) :=
    ⟨D1, D2, HD1.out.below hb2, hd2, HK1.out, fun k h => Nat.le_trans HB1.out.size (hk2 k h), fun k h1 h2 => (by have := HD1.out.lt k h1; have := hk2 k h2; omega), HB1.out.trans (hb2.mono HB1.out.size), fun _ h => h.elim⟩
  clear hd2 hk2 hb2 HD1 HK1 HB1 HRN HM
  go_wp2
  go_loopw [10] (fun i wr => ∃ (k : Nat) (s : S), k ≤ len2 ∧ i = .int .i64 k ∧ Two w wr g r s s (fun _ => False) ∧ s.Fine ∧ s.deeds ≤ k ∧ s.sectors = n ∧ s.bytes = m) (fun i _ => len2 - (intOf i).toNat)
  case atStart => exact ⟨0, _, Nat.zero_le _, rfl, HTB.out, Nat.zero_le _, Nat.zero_le _, rfl, rfl⟩
  case round =>
    obtain ⟨k, s, hk, rfl, hT, hfi, hde, hsn, hsb⟩ := hrel
    have HT := Lib.hid hT
    have HFI := Lib.hid hfi
    have HSN := Lib.hid hsn
    have HSB := Lib.hid hsb
    clear HTB
    by_cases hlt : k < len2
    · obtain ⟨ga, oa, c, rfl, hga, hc⟩ := HO.out.at_ k hlt
      have hcw := hc.keep hga hT.bel
      have hfe := HFW.out k hlt ga oa c rfl hc
      obtain ⟨call, sec, cn, bA, bl, bc, bs, kA, kl, kc, ks⟩ := c
      have c0 := hcw.c0
      have c1 := hcw.c1
      have c2 := hcw.c2
      have c3 := hcw.c3
      have c4 := hcw.c4
      have hw1 := hc.w1
      have hw2 := hc.w2
      have HRB := Lib.hid hc.rb
      have HRQ := Lib.hid hc.rq
      dsimp only at c0 c1 c2 c3 c4 hw1 hw2 HRB HRQ hfe
      obtain ⟨hfb, hfk⟩ := hfe
      clear hcw hc hT hfi hsn hsb HO HFW
      obtain ⟨zo, hzo⟩ : ∃ zo, wr.heap.size = zo := ⟨_, rfl⟩
      obtain ⟨WB, hWB⟩ : ∃ WB, wr.alloc (.cells #[.int .i64 call, .int .i64 sec, .int .i64 cn, .slice bA bl bc, .slice kA kl kc] 35) = WB := ⟨_, rfl⟩
      have hBB : Below wr.heap.size wr WB := by rw [← hWB]; exact (Below.refl _ _).alloc (Nat.le_refl _) _
      have hzB : WB.heap[zo]? = some (.cells #[.int .i64 call, .int .i64 sec, .int .i64 cn, .slice bA bl bc, .slice kA kl kc] 35 (0, 0)) := by rw [← hWB, ← hzo]; exact heap_alloc_new wr _
      have hzl : zo < WB.heap.size := (Array.getElem?_eq_some_iff.1 hzB).1
      have HT1 : Hid (Two w WB g r s s (fun j => j = zo)) := HT.out.moreK hBB (fun k e => .inr (by subst e; exact ⟨by omega, hzl⟩))
      have HZW : Hid (w.heap.size ≤ zo) := by show _ ≤ _; rw [← hzo]; exact HT.out.bel.size
      obtain ⟨b0, b1, b2, b3, b4⟩ := op_cells hzB
      have HZ := Lib.hid hzB
      have HZL := Lib.hid hzl
      clear hBB hzB hzl HT
      by_cases q0 : call = 0
      · subst q0
        as_aux_lemma =>
          obtain ⟨X0, hX0⟩ : ∃ X0, WB.alloc (.cells #[] 5) = X0 := ⟨_, rfl⟩
          obtain ⟨zx, hzx⟩ : ∃ zx, WB.heap.size = zx := ⟨_, rfl⟩
          have hX0b : Below WB.heap.size WB X0 := by rw [← hX0]; exact (Below.refl _ _).alloc (Nat.le_refl _) _
          have hoe := Go.Bs.Own.empty WB 5
          rw [hX0] at hoe
          obtain ⟨v', W1, hrun, ho, hbe⟩ := Go.Bs.run_app (P := Try.prog) X0 WB.heap.size 32 32 5 Try.underlying32 u8_info _ [] hoe bA bl bc bs ((HRB.out.keep HT1.out.bel).keep hX0b) (by simp; omega) hX0b.size
          rw [List.nil_append] at ho
          obtain ⟨A1, ca, z1, rfl, hrd1, hrow1⟩ := own_form ho bl HRB.out.len
          have hbW : Below WB.heap.size WB W1 := hX0b.trans hbe
          have hTw : Two w W1 g r s s (fun j => j = zo ∨ (0 < bl ∧ j = z1)) := HT1.out.moreK hbW (fun j e => e.imp id (fun e => by obtain ⟨e1, rfl⟩ := e; exact ⟨(hrow1 e1).2.1, (hrow1 e1).2.2.lt⟩))
          have hzW := (hbW.block zo HZL.out).trans HZ.out
          have f1 := (op_cells hzW).2.1
          have X3 : X0.cell? ⟨zo, 3, none⟩ = some (.slice bA bl bc) := (hX0b.cell (p := ⟨zo, 3, none⟩) HZL.out).trans b3
          have hrun' : ∀ ty, (Builtin.append_ #[32, 32] ty #[.slice (some ⟨zx, 0, none⟩) 0 0, .slice bA bl bc]).run Try.prog X0 = .ok (.slice A1 bl ca) W1 := fun _ => by rw [← hzx]; exact hrun
          have HRUN := Lib.hid hrun'
          have H1 := hTw.write HFI.out (by omega) sec A1 bl ca bs hrd1 (by omega)
          have hfi2 := S.Fine.write HFI.out sec bs
          have hde2 := S.write_deeds s sec bs
          have hsz2 := write_sz s sec bs
          obtain ⟨s2, er, hs2⟩ : ∃ x y, s.write sec bs = (x, y) := ⟨_, _, rfl⟩
          rw [hs2] at H1 hfi2 hde2 hsz2
          have H1 := Lib.hid H1
          have HFI2 : Hid s2.Fine := hfi2
          have HSN2 : Hid (s2.sectors = n) := hsz2.1.trans HSN.out
          have HSB2 : Hid (s2.bytes = m) := hsz2.2.trans HSB.out
          replace hde2 : s2.deeds ≤ k + 1 := by
            have : s2.deeds ≤ s.deeds + 1 := hde2
            omega
          have HS2 := Lib.hid hs2
          have HROW : Hid (0 < bl → A1 = some ⟨z1, 0, none⟩ ∧ WB.heap.size ≤ z1 ∧ Row W1 z1 5 bl (fun _ => True)) := hrow1
          have HRD1 := Lib.hid hrd1
          have HZ1 := Lib.hid hzW
          clear hX0b hoe hrun ho hbe hrd1 hrow1 hbW hTw hzW hrun' hfi2 hsz2 hs2
          go_wp2_with (first | (at_builtin; refine wpList_run_app _ rfl _ _ 32 rfl _ _ _ _ rfl rfl HRUN.out ?_) | fail)
          clear hX0 hzx X3
          refine H1.out.mono ?_
          rintro e W2 ⟨rfl, hT2, hK2⟩
          have H2 := hT2.rwrite HFI.out (by omega) sec bA bl bc bs (HRB.out.keep hT2.bel)
          rw [HS2.out] at H2
          have H2 := Lib.hid H2
          have hz2 := (hK2.2 zo (.inl rfl)).trans HZ1.out
          obtain ⟨_, f1', _, f3', _⟩ := op_cells hz2
          have HK2 := Lib.hid hK2
          have HZ3 := Lib.hid hz2
          clear hT2 hK2 hz2 H1 f1
          go_wp2_with fail
          refine H2.out.mono ?_
          rintro e W3 ⟨rfl, hT3, hK3⟩
          have HT3 := Lib.hid hT3
          have HZ4 : Hid (W3.heap[zo]? = some (.cells #[.int .i64 0, .int .i64 sec, .int .i64 cn, .slice bA bl bc, .slice kA kl kc] 35 (0, 0))) := (hK3.2 zo (.inl rfl)).trans HZ3.out
          have HR3 : Hid (0 < bl → Row W3 z1 5 bl (fun _ => True)) := fun h0 => ((HROW.out h0).2.2).keep ((HK2.out.trans hK3).2 z1 (.inr ⟨h0, rfl⟩))
          have hs1 := string_rd W3 A1 bl ca bs (rd_keepC HRD1.out (HK2.out.trans hK3).1 (fun h0 a ea => by
            have e := (HROW.out h0).1
            rw [ea] at e
            cases e
            exact (HK2.out.trans hK3).2 z1 (.inr ⟨h0, rfl⟩)))
          have hs2 := string_rd W3 bA bl bc bs (HRB.out.keep hT3.bel)
          have f3'' := (op_cells HZ4.out).2.2.2.1
          clear hT3 hK3 H2 f1' f3' b0 b1 b2 b3 b4 c0 c1 c2 c3 c4 hWB hzo
          go_wp2
          clear hs1 hs2 f3''
          go_loopw [14] (fun i wr => ∃ q : Nat, q ≤ bl ∧ i = .int .i64 q ∧ Fr (fun j => 0 < bl ∧ j = z1) W3 wr ∧ (0 < bl → Row wr z1 5 bl (fun _ => True))) (fun i _ => bl - (intOf i).toNat)
          case atStart => exact ⟨0, Nat.zero_le _, rfl, Fr.refl _ _, HR3.out⟩
          case round =>
            obtain ⟨q, hq, rfl, hF, hR⟩ := hrel
            by_cases hqk : q < bl
            · obtain ⟨⟨u, hu, _⟩, hfz⟩ := (hR (by omega)).cell q hqk
              obtain ⟨rfl, _, _⟩ := HROW.out (by omega)
              have HF2 := Lib.hid hF
              have HR2 := Lib.hid hR
              clear hF hR
              go_wp2
              go_roundw
              case rel => exact ⟨q + 1, by omega, by go_num, HF2.out.setCell (.inl ⟨by omega, rfl⟩) _, fun h0 => (HR2.out h0).set q _ trivial⟩
              case measure => simp [intOf]; omega
            · have HT2 : Hid (Two w wr g r s2 s2 (fun j => j = zo)) := (HT3.out.frK (hF.mono (fun j e => .inr e)) (fun j e => by
                rcases e with rfl | ⟨e1, rfl⟩
                · exact HZW.out
                · have := (HROW.out e1).2.1; have := HZW.out; have := HZL.out; omega)).less (fun j e => .inl e)
              have HZ2 : Hid (wr.heap[zo]? = some (.cells #[.int .i64 0, .int .i64 sec, .int .i64 cn, .slice bA bl bc, .slice kA kl kc] 35 (0, 0))) := (hF.block zo (Array.getElem?_eq_some_iff.1 HZ4.out).1 (fun e => by have := (HROW.out e.1).2.1; have := HZL.out; omega)).trans HZ4.out
              clear hF hR HROW HR3 HT3 HZ4
              have tc1 := (op_cells HZ2.out).2.1
              have HZl2 : Hid (zo < wr.heap.size) := (Array.getElem?_eq_some_iff.1 HZ2.out).1
              have HRD := HT2.out.read sec
              obtain ⟨bs2, er2, hrs⟩ : ∃ x y, s2.read sec = (x, y) := ⟨_, _, rfl⟩
              have hrl := read_len HT2.out.ok sec
              rw [hrs] at HRD hrl
              have HRL : Hid (bs2.length ≤ 4096) := hrl
              have HRD := Lib.hid HRD
              have HRS := Lib.hid hrs
              clear hrs hrl
              go_wp2_with fail
              refine HRD.out.mono ?_
              rintro e V1 ⟨v, rfl, hv, hb⟩
              obtain ⟨A, bn, rfl, hbn, hrd, hrow⟩ := read_form hv
              obtain ⟨zb, hzb⟩ : ∃ zb, wr.heap.size = zb := ⟨_, rfl⟩
              rw [hzb] at hrow
              have hbn1 : bn ≤ 4096 := by rw [← hbn]; exact HRL.out
              have HT3 : Hid (Two w V1 g r s2 s2 (fun j => 0 < bn ∧ j = zb)) := HT2.out.moreK hb (fun j e => .inr (by obtain ⟨e1, rfl⟩ := e; exact ⟨by omega, (hrow e1).2.lt⟩))
              have HZB : Hid (w.heap.size ≤ zb) := by show _ ≤ _; rw [← hzb]; exact HT2.out.bel.size
              have tc2 := (hb.cell (p := ⟨zo, 1, none⟩) HZl2.out).trans tc1
              have HRR := HT3.out.rread (by omega) sec
              rw [HRS.out] at HRR
              have HRR := Lib.hid HRR
              have HSZ := HT3.out.size
              rw [HSN2.out, HSB2.out] at HSZ
              have HSZ := Lib.hid HSZ
              have HRD2 := Lib.hid hrd
              have HROW2 := Lib.hid hrow
              clear hv hb hbn hrd hrow hzb tc1 HRD HRS HT2 HZ2
              go_wp2_with fail
              refine HRR.out.mono ?_
              rintro e w' ⟨rfl, rfl⟩
              clear tc2 HRR
              go_wp2_with fail
              refine HSZ.out.mono ?_
              rintro e V2 ⟨rfl, kk, hkk⟩
              have hb2 : Below V1.heap.size V1 V2 := by rw [hkk]; exact ⟨rfl, rfl, rfl, Nat.le_refl _, fun _ _ => rfl⟩
              have HT4 := Lib.hid (HT3.out.grow hb2).1
              have HROW3 : Hid (0 < bn → Row V2 zb 5 bn (fun _ => True)) := fun h0 => ((HROW2.out h0).2).keep (hb2.block zb ((HROW2.out h0).2).lt)
              have HST : Hid ((convert 32 9 (.slice A bn bn)).run Try.prog V2.drew = .ok (.string ⟨bs2.toArray⟩) V2.drew) := string_rd V2.drew A bn bn bs2 (HRD2.out.keep hb2).drew
              have HTD := Lib.hid (HT4.out.grow ((Below.refl _ V2).drew)).1
              have HC3 := Lib.hid HTD.out.cells.1
              have HC6 := Lib.hid HTD.out.cells.2
              have HUP := Lib.hid HTD.out.up
              have HDD := Lib.hid HTD.out.deeds
              have hdec := hde2
              obtain ⟨dd, hdd⟩ : ∃ dd, s2.deeds = dd := ⟨_, rfl⟩
              obtain ⟨uu, huu⟩ : ∃ uu, s2.up = uu := ⟨_, rfl⟩
              rw [hdd] at HC6 HDD
              rw [huu] at HC3 HUP
              clear hb2 hkk HSZ HRD2 hdec hdd huu
              go_wp2_with fail
              refine wp_region_held_drew (S := fun W => (convert 32 9 (.slice A bn bn)).run Try.prog W = .ok (.string ⟨bs2.toArray⟩) W ∧ W.cell? ⟨r, 3, none⟩ = some (.bool uu) ∧ W.cell? ⟨r, 6, none⟩ = some (.int .i64 (dd : Int))) (by kernel_rfl) (⟨HST.out, HC3.out, HC6.out⟩) (fun hHeld => ?_)
              refine wpAnyH_take (i := 0) (oi := { dst := some 194, op := Go.Op.move (Go.Operand.tmp 17), type := 32, pos := "law.go:99", after := #[], guard := none }) (v := ?vt00) rfl (by kernel_rfl) (by kernel_rfl) (by kernel_rfl) (fun _ _ _ h => h) (Or.inl ⟨by rfl, ?hyt00⟩) hHeld ?_
              case hyt00 => (intro w hSw; (try dsimp only at hSw); go_simp; first | done | with_reducible rfl)
              try simp only [Act.put, List.setIfInBounds_toArray, List.set_cons_zero, List.set_cons_succ]
              refine wpAnyH_take (i := 1) (oi := { dst := some 195, op := Go.Op.convert 32 9 (Go.Operand.tmp 194), type := 9, pos := "law.go:99", after := #[{ on := 0, ground := Go.Ground.data }], guard := none }) (v := ?vt01) rfl (by kernel_rfl) (by kernel_rfl) (by kernel_rfl) (fun _ _ _ h => h) (Or.inl ⟨by rfl, ?hyt01⟩) hHeld ?_
              case hyt01 => (intro w hSw; (try dsimp only at hSw); go_simp; first | done | with_reducible rfl)
              try simp only [Act.put, List.setIfInBounds_toArray, List.set_cons_zero, List.set_cons_succ]
              refine wpAnyH_take (i := 2) (oi := { dst := some 196, op := Go.Op.move (Go.Operand.tmp 19), type := 9, pos := "law.go:99", after := #[], guard := none }) (v := ?vt02) rfl (by kernel_rfl) (by kernel_rfl) (by kernel_rfl) (fun _ _ _ h => h) (Or.inl ⟨by rfl, ?hyt02⟩) hHeld ?_
              case hyt02 => (intro w hSw; (try dsimp only at hSw); go_simp; first | done | with_reducible rfl)
              try simp only [Act.put, List.setIfInBounds_toArray, List.set_cons_zero, List.set_cons_succ]
              refine wpAnyH_take (i := 3) (oi := { dst := some 197, op := Go.Op.binOp Go.BinOp.neq 9 (Go.Operand.tmp 195) (Go.Operand.tmp 196) 9, type := 4, pos := "law.go:99", after := #[{ on := 1, ground := Go.Ground.data }, { on := 2, ground := Go.Ground.data }], guard := none }) (v := ?vt03) rfl (by kernel_rfl) (by kernel_rfl) (by kernel_rfl) (fun _ _ _ h => h) (Or.inl ⟨by rfl, ?hyt03⟩) hHeld ?_
              case hyt03 => (intro w hSw; (try dsimp only at hSw); go_simp; first | done | with_reducible rfl)
              try simp only [Act.put, List.setIfInBounds_toArray, List.set_cons_zero, List.set_cons_succ]
              refine wpAnyH_take (i := 4) (oi := { dst := some 198, op := Go.Op.move (Go.Operand.tmp 197), type := 4, pos := "law.go:99", after := #[{ on := 3, ground := Go.Ground.data }], guard := none }) (v := ?vt04) rfl (by kernel_rfl) (by kernel_rfl) (by kernel_rfl) (fun _ _ _ h => h) (Or.inl ⟨by rfl, ?hyt04⟩) hHeld ?_
              case hyt04 => (intro w hSw; (try dsimp only at hSw); go_simp; first | done | with_reducible rfl)
              try simp only [Act.put, List.setIfInBounds_toArray, List.set_cons_zero, List.set_cons_succ]
              refine wpAnyH_take (i := 5) (oi := { dst := some 199, op := Go.Op.move (Go.Operand.tmp 18), type := 26, pos := "law.go:99", after := #[{ on := 4, ground := Go.Ground.guard }], guard := some (4, false) }) (v := ?vt05) rfl (by kernel_rfl) (by kernel_rfl) (by kernel_rfl) (fun _ _ _ h => h) (Or.inl ⟨by rfl, ?hyt05⟩) hHeld ?_
              case hyt05 => (intro w hSw; (try dsimp only at hSw); go_simp; first | done | with_reducible rfl)
              try simp only [Act.put, List.setIfInBounds_toArray, List.set_cons_zero, List.set_cons_succ]
              refine wpAnyH_take (i := 6) (oi := { dst := some 200, op := Go.Op.move (Go.Operand.tmp 20), type := 26, pos := "law.go:99", after := #[{ on := 4, ground := Go.Ground.guard }], guard := some (4, false) }) (v := ?vt06) rfl (by kernel_rfl) (by kernel_rfl) (by kernel_rfl) (fun _ _ _ h => h) (Or.inl ⟨by rfl, ?hyt06⟩) hHeld ?_
              case hyt06 => (intro w hSw; (try dsimp only at hSw); go_simp; first | done | with_reducible rfl)
              try simp only [Act.put, List.setIfInBounds_toArray, List.set_cons_zero, List.set_cons_succ]
              refine wpAnyH_take (i := 7) (oi := { dst := some 201, op := Go.Op.binOp Go.BinOp.neq 26 (Go.Operand.tmp 199) (Go.Operand.tmp 200) 26, type := 4, pos := "law.go:99", after := #[{ on := 5, ground := Go.Ground.data }, { on := 6, ground := Go.Ground.data }, { on := 4, ground := Go.Ground.guard }], guard := some (4, false) }) (v := ?vt07) rfl (by kernel_rfl) (by kernel_rfl) (by kernel_rfl) (fun _ _ _ h => h) (Or.inl ⟨by rfl, ?hyt07⟩) hHeld ?_
              case hyt07 => (intro w hSw; (try dsimp only at hSw); go_simp; first | done | with_reducible rfl)
              try simp only [Act.put, List.setIfInBounds_toArray, List.set_cons_zero, List.set_cons_succ]
              refine wpAnyH_take (i := 8) (oi := { dst := some 202, op := Go.Op.pick (Go.Operand.tmp 198) (Go.Operand.const (Go.Value.bool true)) (Go.Operand.tmp 201), type := 4, pos := "law.go:99", after := #[{ on := 4, ground := Go.Ground.data }, { on := 7, ground := Go.Ground.data }], guard := none }) (v := ?vt08) rfl (by kernel_rfl) (by kernel_rfl) (by kernel_rfl) (fun _ _ _ h => h) (Or.inl ⟨by rfl, ?hyt08⟩) hHeld ?_
              case hyt08 => (intro w hSw; (try dsimp only at hSw); go_simp; first | done | with_reducible rfl)
              try simp only [Act.put, List.setIfInBounds_toArray, List.set_cons_zero, List.set_cons_succ]
              refine wpAnyH_take (i := 9) (oi := { dst := some 203, op := Go.Op.move (Go.Operand.tmp 202), type := 4, pos := "law.go:99", after := #[{ on := 8, ground := Go.Ground.data }, { on := 4, ground := Go.Ground.chain }], guard := none }) (v := ?vt09) rfl (by kernel_rfl) (by kernel_rfl) (by kernel_rfl) (fun _ _ _ h => h) (Or.inl ⟨by rfl, ?hyt09⟩) hHeld ?_
              case hyt09 => (intro w hSw; (try dsimp only at hSw); go_simp; first | done | with_reducible rfl)
              try simp only [Act.put, List.setIfInBounds_toArray, List.set_cons_zero, List.set_cons_succ]
              refine wpAnyH_take (i := 10) (oi := { dst := some 204, op := Go.Op.move (Go.Operand.tmp 7), type := 25, pos := "law.go:99", after := #[{ on := 9, ground := Go.Ground.guard }], guard := some (9, false) }) (v := ?vt010) rfl (by kernel_rfl) (by kernel_rfl) (by kernel_rfl) (fun _ _ _ h => h) (Or.inl ⟨by rfl, ?hyt010⟩) hHeld ?_
              case hyt010 => (intro w hSw; (try dsimp only at hSw); go_simp; first | done | with_reducible rfl)
              try simp only [Act.put, List.setIfInBounds_toArray, List.set_cons_zero, List.set_cons_succ]
              refine wpAnyH_take (i := 12) (oi := { dst := some 206, op := Go.Op.move (Go.Operand.tmp 9), type := 30, pos := "law.go:99", after := #[{ on := 9, ground := Go.Ground.guard }], guard := some (9, false) }) (v := ?vt012) rfl (by kernel_rfl) (by kernel_rfl) (by kernel_rfl) (fun _ _ _ h => h) (Or.inl ⟨by rfl, ?hyt012⟩) hHeld ?_
              case hyt012 => (intro w hSw; (try dsimp only at hSw); go_simp; first | done | with_reducible rfl)
              try simp only [Act.put, List.setIfInBounds_toArray, List.set_cons_zero, List.set_cons_succ]
              refine wpAnyH_take (i := 13) (oi := { dst := some 207, op := Go.Op.nilCheck (Go.Operand.tmp 206), type := 0, pos := "law.go:99", after := #[{ on := 12, ground := Go.Ground.data }, { on := 9, ground := Go.Ground.guard }], guard := some (9, false) }) (v := ?vt013) rfl (by kernel_rfl) (by kernel_rfl) (by kernel_rfl) (fun _ _ _ h => h) (Or.inl ⟨by rfl, ?hyt013⟩) hHeld ?_
              case hyt013 => (intro w hSw; (try dsimp only at hSw); go_simp; first | done | with_reducible rfl)
              try simp only [Act.put, List.setIfInBounds_toArray, List.set_cons_zero, List.set_cons_succ]
              refine wpAnyH_take (i := 14) (oi := { dst := some 208, op := Go.Op.fieldAddr 49 (Go.Operand.tmp 207) 3, type := 0, pos := "law.go:99", after := #[{ on := 13, ground := Go.Ground.data }, { on := 9, ground := Go.Ground.guard }], guard := some (9, false) }) (v := ?vt014) rfl (by kernel_rfl) (by kernel_rfl) (by kernel_rfl) (fun _ _ _ h => h) (Or.inl ⟨by rfl, ?hyt014⟩) hHeld ?_
              case hyt014 => (intro w hSw; (try dsimp only at hSw); go_simp; first | done | with_reducible rfl)
              try simp only [Act.put, List.setIfInBounds_toArray, List.set_cons_zero, List.set_cons_succ]
              refine wpAnyH_take (i := 15) (oi := { dst := some 209, op := Go.Op.load 4 (Go.Operand.tmp 208), type := 4, pos := "law.go:99", after := #[{ on := 14, ground := Go.Ground.data }, { on := 9, ground := Go.Ground.guard }], guard := some (9, false) }) (v := ?vt015) rfl (by kernel_rfl) (by kernel_rfl) (by kernel_rfl) (fun _ _ _ h => h) (Or.inl ⟨by rfl, ?hyt015⟩) hHeld ?_
              case hyt015 => (intro w hSw; (try dsimp only at hSw); go_simp; first | done | with_reducible rfl)
              try simp only [Act.put, List.setIfInBounds_toArray, List.set_cons_zero, List.set_cons_succ]
              refine wpAnyH_ready (rs := [11]) (by kernel_rfl) (by simp) ?_
              refine AllReadyH.cons (o := { dst := some 205, op := Go.Op.call { callee := Go.Callee.value (Go.Operand.func 26), args := #[Go.Operand.tmp 204], argTypes := #[25] }, type := 4, pos := "law.go:99", after := #[{ on := 10, ground := Go.Ground.data }, { on := 9, ground := Go.Ground.chain }, { on := 9, ground := Go.Ground.guard }], guard := some (9, false) }) rfl (fun K hK => ?_) AllReadyH.nil
              go_simp
              refine HUP.out.mono ?_
              rintro e w' ⟨rfl, rfl⟩
              go_wp2_with fail
              refine hK.out _ _ (⟨HST.out, HC3.out, HC6.out⟩) (fun hHeld => ?_)
              clear hK K
              try simp only [Act.put, List.setIfInBounds_toArray, List.set_cons_zero, List.set_cons_succ]
              refine wpAnyH_take (i := 16) (oi := { dst := some 210, op := Go.Op.binOp Go.BinOp.neq 4 (Go.Operand.tmp 205) (Go.Operand.tmp 209) 4, type := 4, pos := "law.go:99", after := #[{ on := 11, ground := Go.Ground.data }, { on := 15, ground := Go.Ground.data }, { on := 9, ground := Go.Ground.guard }], guard := some (9, false) }) (v := ?vt016) rfl (by kernel_rfl) (by kernel_rfl) (by kernel_rfl) (fun _ _ _ h => h) (Or.inl ⟨by rfl, ?hyt016⟩) hHeld ?_
              case hyt016 => (intro w hSw; (try dsimp only at hSw); go_simp; first | done | with_reducible rfl)
              try simp only [Act.put, List.setIfInBounds_toArray, List.set_cons_zero, List.set_cons_succ]
              refine wpAnyH_take (i := 17) (oi := { dst := some 211, op := Go.Op.pick (Go.Operand.tmp 203) (Go.Operand.const (Go.Value.bool true)) (Go.Operand.tmp 210), type := 4, pos := "law.go:99", after := #[{ on := 9, ground := Go.Ground.data }, { on := 16, ground := Go.Ground.data }], guard := none }) (v := ?vt017) rfl (by kernel_rfl) (by kernel_rfl) (by kernel_rfl) (fun _ _ _ h => h) (Or.inl ⟨by rfl, ?hyt017⟩) hHeld ?_
              case hyt017 => (intro w hSw; (try dsimp only at hSw); go_simp; first | done | with_reducible rfl)
              try simp only [Act.put, List.setIfInBounds_toArray, List.set_cons_zero, List.set_cons_succ]
              refine wpAnyH_take (i := 18) (oi := { dst := some 212, op := Go.Op.move (Go.Operand.tmp 211), type := 4, pos := "law.go:99", after := #[{ on := 17, ground := Go.Ground.data }, { on := 11, ground := Go.Ground.chain }], guard := none }) (v := ?vt018) rfl (by kernel_rfl) (by kernel_rfl) (by kernel_rfl) (fun _ _ _ h => h) (Or.inl ⟨by rfl, ?hyt018⟩) hHeld ?_
              case hyt018 => (intro w hSw; (try dsimp only at hSw); go_simp; first | done | with_reducible rfl)
              try simp only [Act.put, List.setIfInBounds_toArray, List.set_cons_zero, List.set_cons_succ]
              refine wpAnyH_take (i := 19) (oi := { dst := some 213, op := Go.Op.move (Go.Operand.tmp 7), type := 25, pos := "law.go:99", after := #[{ on := 18, ground := Go.Ground.guard }], guard := some (18, false) }) (v := ?vt019) rfl (by kernel_rfl) (by kernel_rfl) (by kernel_rfl) (fun _ _ _ h => h) (Or.inl ⟨by rfl, ?hyt019⟩) hHeld ?_
              case hyt019 => (intro w hSw; (try dsimp only at hSw); go_simp; first | done | with_reducible rfl)
              try simp only [Act.put, List.setIfInBounds_toArray, List.set_cons_zero, List.set_cons_succ]
              refine wpAnyH_take (i := 21) (oi := { dst := some 215, op := Go.Op.move (Go.Operand.tmp 9), type := 30, pos := "law.go:99", after := #[{ on := 18, ground := Go.Ground.guard }], guard := some (18, false) }) (v := ?vt021) rfl (by kernel_rfl) (by kernel_rfl) (by kernel_rfl) (fun _ _ _ h => h) (Or.inl ⟨by rfl, ?hyt021⟩) hHeld ?_
              case hyt021 => (intro w hSw; (try dsimp only at hSw); go_simp; first | done | with_reducible rfl)
              try simp only [Act.put, List.setIfInBounds_toArray, List.set_cons_zero, List.set_cons_succ]
              refine wpAnyH_take (i := 22) (oi := { dst := some 216, op := Go.Op.nilCheck (Go.Operand.tmp 215), type := 0, pos := "law.go:99", after := #[{ on := 21, ground := Go.Ground.data }, { on := 18, ground := Go.Ground.guard }], guard := some (18, false) }) (v := ?vt022) rfl (by kernel_rfl) (by kernel_rfl) (by kernel_rfl) (fun _ _ _ h => h) (Or.inl ⟨by rfl, ?hyt022⟩) hHeld ?_
              case hyt022 => (intro w hSw; (try dsimp only at hSw); go_simp; first | done | with_reducible rfl)
              try simp only [Act.put, List.setIfInBounds_toArray, List.set_cons_zero, List.set_cons_succ]
              refine wpAnyH_take (i := 23) (oi := { dst := some 217, op := Go.Op.fieldAddr 49 (Go.Operand.tmp 216) 6, type := 0, pos := "law.go:99", after := #[{ on := 22, ground := Go.Ground.data }, { on := 18, ground := Go.Ground.guard }], guard := some (18, false) }) (v := ?vt023) rfl (by kernel_rfl) (by kernel_rfl) (by kernel_rfl) (fun _ _ _ h => h) (Or.inl ⟨by rfl, ?hyt023⟩) hHeld ?_
              case hyt023 => (intro w hSw; (try dsimp only at hSw); go_simp; first | done | with_reducible rfl)
              try simp only [Act.put, List.setIfInBounds_toArray, List.set_cons_zero, List.set_cons_succ]
              refine wpAnyH_take (i := 24) (oi := { dst := some 218, op := Go.Op.load 3 (Go.Operand.tmp 217), type := 3, pos := "law.go:99", after := #[{ on := 23, ground := Go.Ground.data }, { on := 18, ground := Go.Ground.guard }], guard := some (18, false) }) (v := ?vt024) rfl (by kernel_rfl) (by kernel_rfl) (by kernel_rfl) (fun _ _ _ h => h) (Or.inl ⟨by rfl, ?hyt024⟩) hHeld ?_
              case hyt024 => (intro w hSw; (try dsimp only at hSw); go_simp; first | done | with_reducible rfl)
              try simp only [Act.put, List.setIfInBounds_toArray, List.set_cons_zero, List.set_cons_succ]
              refine wpAnyH_ready (rs := [20]) (by kernel_rfl) (by simp) ?_
              refine AllReadyH.cons (o := { dst := some 214, op := Go.Op.call { callee := Go.Callee.value (Go.Operand.func 27), args := #[Go.Operand.tmp 213], argTypes := #[25] }, type := 3, pos := "law.go:99", after := #[{ on := 19, ground := Go.Ground.data }, { on := 18, ground := Go.Ground.chain }, { on := 18, ground := Go.Ground.guard }], guard := some (18, false) }) rfl (fun K hK => ?_) AllReadyH.nil
              go_simp
              refine HDD.out.mono ?_
              rintro e w' ⟨rfl, rfl⟩
              go_wp2_with fail
              refine hK.out _ _ (⟨HST.out, HC3.out, HC6.out⟩) (fun hHeld => ?_)
              clear hK K
              try simp only [Act.put, List.setIfInBounds_toArray, List.set_cons_zero, List.set_cons_succ]
              refine wpAnyH_take (i := 25) (oi := { dst := some 219, op := Go.Op.binOp Go.BinOp.neq 3 (Go.Operand.tmp 214) (Go.Operand.tmp 218) 3, type := 4, pos := "law.go:99", after := #[{ on := 20, ground := Go.Ground.data }, { on := 24, ground := Go.Ground.data }, { on := 18, ground := Go.Ground.guard }], guard := some (18, false) }) (v := ?vt025) rfl (by kernel_rfl) (by kernel_rfl) (by kernel_rfl) (fun _ _ _ h => h) (Or.inl ⟨by rfl, ?hyt025⟩) hHeld ?_
              case hyt025 => (intro w hSw; (try dsimp only at hSw); go_simp; first | done | with_reducible rfl)
              try simp only [Act.put, List.setIfInBounds_toArray, List.set_cons_zero, List.set_cons_succ]
              refine wpAnyH_take (i := 26) (oi := { dst := some 220, op := Go.Op.pick (Go.Operand.tmp 212) (Go.Operand.const (Go.Value.bool true)) (Go.Operand.tmp 219), type := 4, pos := "law.go:99", after := #[{ on := 18, ground := Go.Ground.data }, { on := 25, ground := Go.Ground.data }], guard := none }) (v := ?vt026) rfl (by kernel_rfl) (by kernel_rfl) (by kernel_rfl) (fun _ _ _ h => h) (Or.inl ⟨by rfl, ?hyt026⟩) hHeld ?_
              case hyt026 => (intro w hSw; (try dsimp only at hSw); go_simp; first | done | with_reducible rfl)
              try simp only [Act.put, List.setIfInBounds_toArray, List.set_cons_zero, List.set_cons_succ]
              refine wpAnyH_take (i := 27) (oi := { dst := some 221, op := Go.Op.move (Go.Operand.tmp 220), type := 4, pos := "law.go:99", after := #[{ on := 26, ground := Go.Ground.data }, { on := 20, ground := Go.Ground.chain }], guard := none }) (v := ?vt027) rfl (by kernel_rfl) (by kernel_rfl) (by kernel_rfl) (fun _ _ _ h => h) (Or.inl ⟨by rfl, ?hyt027⟩) hHeld ?_
              case hyt027 => (intro w hSw; (try dsimp only at hSw); go_simp; first | done | with_reducible rfl)
              try simp only [Act.put, List.setIfInBounds_toArray, List.set_cons_zero, List.set_cons_succ]
              refine wpAnyH_take (i := 28) (oi := { dst := some 222, op := Go.Op.move (Go.Operand.tmp 21), type := 3, pos := "law.go:99", after := #[{ on := 27, ground := Go.Ground.guard }], guard := some (27, false) }) (v := ?vt028) rfl (by kernel_rfl) (by kernel_rfl) (by kernel_rfl) (fun _ _ _ h => h) (Or.inl ⟨by rfl, ?hyt028⟩) hHeld ?_
              case hyt028 => (intro w hSw; (try dsimp only at hSw); go_simp; first | done | with_reducible rfl)
              try simp only [Act.put, List.setIfInBounds_toArray, List.set_cons_zero, List.set_cons_succ]
              refine wpAnyH_take (i := 29) (oi := { dst := some 223, op := Go.Op.move (Go.Operand.tmp 0), type := 3, pos := "law.go:99", after := #[{ on := 27, ground := Go.Ground.guard }], guard := some (27, false) }) (v := ?vt029) rfl (by kernel_rfl) (by kernel_rfl) (by kernel_rfl) (fun _ _ _ h => h) (Or.inl ⟨by rfl, ?hyt029⟩) hHeld ?_
              case hyt029 => (intro w hSw; (try dsimp only at hSw); go_simp; first | done | with_reducible rfl)
              try simp only [Act.put, List.setIfInBounds_toArray, List.set_cons_zero, List.set_cons_succ]
              refine wpAnyH_take (i := 30) (oi := { dst := some 224, op := Go.Op.binOp Go.BinOp.neq 3 (Go.Operand.tmp 222) (Go.Operand.tmp 223) 3, type := 4, pos := "law.go:99", after := #[{ on := 28, ground := Go.Ground.data }, { on := 29, ground := Go.Ground.data }, { on := 27, ground := Go.Ground.guard }], guard := some (27, false) }) (v := ?vt030) rfl (by kernel_rfl) (by kernel_rfl) (by kernel_rfl) (fun _ _ _ h => h) (Or.inl ⟨by rfl, ?hyt030⟩) hHeld ?_
              case hyt030 => (intro w hSw; (try dsimp only at hSw); go_simp; first | done | with_reducible rfl)
              try simp only [Act.put, List.setIfInBounds_toArray, List.set_cons_zero, List.set_cons_succ]
              refine wpAnyH_take (i := 31) (oi := { dst := some 225, op := Go.Op.pick (Go.Operand.tmp 221) (Go.Operand.const (Go.Value.bool true)) (Go.Operand.tmp 224), type := 4, pos := "law.go:99", after := #[{ on := 27, ground := Go.Ground.data }, { on := 30, ground := Go.Ground.data }], guard := none }) (v := ?vt031) rfl (by kernel_rfl) (by kernel_rfl) (by kernel_rfl) (fun _ _ _ h => h) (Or.inl ⟨by rfl, ?hyt031⟩) hHeld ?_
              case hyt031 => (intro w hSw; (try dsimp only at hSw); go_simp; first | done | with_reducible rfl)
              try simp only [Act.put, List.setIfInBounds_toArray, List.set_cons_zero, List.set_cons_succ]
              refine wpAnyH_take (i := 32) (oi := { dst := some 226, op := Go.Op.move (Go.Operand.tmp 225), type := 4, pos := "law.go:99", after := #[{ on := 31, ground := Go.Ground.data }, { on := 27, ground := Go.Ground.chain }], guard := none }) (v := ?vt032) rfl (by kernel_rfl) (by kernel_rfl) (by kernel_rfl) (fun _ _ _ h => h) (Or.inl ⟨by rfl, ?hyt032⟩) hHeld ?_
              case hyt032 => (intro w hSw; (try dsimp only at hSw); go_simp; first | done | with_reducible rfl)
              try simp only [Act.put, List.setIfInBounds_toArray, List.set_cons_zero, List.set_cons_succ]
              refine wpAnyH_take (i := 33) (oi := { dst := some 227, op := Go.Op.move (Go.Operand.tmp 22), type := 3, pos := "law.go:99", after := #[{ on := 32, ground := Go.Ground.guard }], guard := some (32, false) }) (v := ?vt033) rfl (by kernel_rfl) (by kernel_rfl) (by kernel_rfl) (fun _ _ _ h => h) (Or.inl ⟨by rfl, ?hyt033⟩) hHeld ?_
              case hyt033 => (intro w hSw; (try dsimp only at hSw); go_simp; first | done | with_reducible rfl)
              try simp only [Act.put, List.setIfInBounds_toArray, List.set_cons_zero, List.set_cons_succ]
              refine wpAnyH_take (i := 34) (oi := { dst := some 228, op := Go.Op.move (Go.Operand.tmp 1), type := 3, pos := "law.go:99", after := #[{ on := 32, ground := Go.Ground.guard }], guard := some (32, false) }) (v := ?vt034) rfl (by kernel_rfl) (by kernel_rfl) (by kernel_rfl) (fun _ _ _ h => h) (Or.inl ⟨by rfl, ?hyt034⟩) hHeld ?_
              case hyt034 => (intro w hSw; (try dsimp only at hSw); go_simp; first | done | with_reducible rfl)
              try simp only [Act.put, List.setIfInBounds_toArray, List.set_cons_zero, List.set_cons_succ]
              refine wpAnyH_take (i := 35) (oi := { dst := some 229, op := Go.Op.binOp Go.BinOp.neq 3 (Go.Operand.tmp 227) (Go.Operand.tmp 228) 3, type := 4, pos := "law.go:99", after := #[{ on := 33, ground := Go.Ground.data }, { on := 34, ground := Go.Ground.data }, { on := 32, ground := Go.Ground.guard }], guard := some (32, false) }) (v := ?vt035) rfl (by kernel_rfl) (by kernel_rfl) (by kernel_rfl) (fun _ _ _ h => h) (Or.inl ⟨by rfl, ?hyt035⟩) hHeld ?_
              case hyt035 => (intro w hSw; (try dsimp only at hSw); go_simp; first | done | with_reducible rfl)
              try simp only [Act.put, List.setIfInBounds_toArray, List.set_cons_zero, List.set_cons_succ]
              refine wpAnyH_take (i := 36) (oi := { dst := some 230, op := Go.Op.pick (Go.Operand.tmp 226) (Go.Operand.const (Go.Value.bool true)) (Go.Operand.tmp 229), type := 4, pos := "law.go:99", after := #[{ on := 32, ground := Go.Ground.data }, { on := 35, ground := Go.Ground.data }], guard := none }) (v := ?vt036) rfl (by kernel_rfl) (by kernel_rfl) (by kernel_rfl) (fun _ _ _ h => h) (Or.inl ⟨by rfl, ?hyt036⟩) hHeld ?_
              case hyt036 => (intro w hSw; (try dsimp only at hSw); go_simp; first | done | with_reducible rfl)
              try simp only [Act.put, List.setIfInBounds_toArray, List.set_cons_zero, List.set_cons_succ]
              refine wpAnyH_done (by kernel_rfl) ?_ _
              go_wp2
              go_loopw [23] (fun i wr => ∃ q : Nat, q ≤ bn ∧ i = .int .i64 q ∧ Fr (fun j => 0 < bn ∧ j = zb) V2 wr ∧ (0 < bn → Row wr zb 5 bn (fun _ => True))) (fun i _ => bn - (intOf i).toNat)
              case atStart => exact ⟨0, Nat.zero_le _, rfl, (Fr.refl _ _).drew, HROW3.out⟩
              case round =>
                obtain ⟨q, hq, rfl, hF, hR⟩ := hrel
                by_cases hqk : q < bn
                · obtain ⟨⟨u, hu, _⟩, hfz⟩ := (hR (by omega)).cell q hqk
                  obtain ⟨rfl, _⟩ := HROW2.out (by omega)
                  have HF2 := Lib.hid hF
                  have HR2 := Lib.hid hR
                  clear hF hR
                  go_wp2
                  go_roundw
                  case rel => exact ⟨q + 1, by omega, by go_num, HF2.out.setCell (.inl ⟨by omega, rfl⟩) _, fun h0 => (HR2.out h0).set q _ trivial⟩
                  case measure => simp [intOf]; omega
                · have HTN : Hid (Two w wr g r s2 s2 (fun _ => False)) := (HT4.out.frK hF (fun j e => by obtain ⟨_, rfl⟩ := e; exact HZB.out)).less (fun _ h => h.elim)
                  clear hF hR
                  go_wp2
                  go_roundw
                  case rel => exact ⟨k + 1, s2, by omega, by go_num, HTN.out, HFI2.out, hde2, HSN2.out, HSB2.out⟩
                  case measure => simp [intOf]; omega
      by_cases q2 : call = 2
      · subst q2
        as_aux_lemma =>
          have H1 := HT1.out.flush (by omega)
          have hfi2 := S.Fine.flush HFI.out
          have hde2 := S.flush_deeds s
          have hsz2 := flush_sz s
          obtain ⟨s2, er, hs2⟩ : ∃ x y, s.flush = (x, y) := ⟨_, _, rfl⟩
          rw [hs2] at H1 hfi2 hde2 hsz2
          have H1 := Lib.hid H1
          have HFI2 : Hid s2.Fine := hfi2
          have HSN2 : Hid (s2.sectors = n) := hsz2.1.trans HSN.out
          have HSB2 : Hid (s2.bytes = m) := hsz2.2.trans HSB.out
          replace hde2 : s2.deeds ≤ k + 1 := by
            have : s2.deeds ≤ s.deeds + 1 := hde2
            omega
          have HS2 := Lib.hid hs2
          clear hfi2 hsz2 hs2
          go_wp2_with fail
          refine H1.out.mono ?_
          rintro e W1 ⟨rfl, hT1, hK1⟩
          have H2 := hT1.rflush (by omega)
          rw [HS2.out] at H2
          have H2 := Lib.hid H2
          have HK1 := Lib.hid hK1
          clear hT1 hK1 H1
          go_wp2_with fail
          refine H2.out.mono ?_
          rintro e WT ⟨rfl, hT2, hK2⟩
          have HZ2 : Hid (WT.heap[zo]? = some (.cells #[.int .i64 2, .int .i64 sec, .int .i64 cn, .slice bA bl bc, .slice kA kl kc] 35 (0, 0))) := ((HK1.out.trans hK2).2 zo rfl).trans HZ.out
          have HT2 := Lib.hid hT2
          clear hT2 hK2 HK1 H2
          have tc1 := (op_cells HZ2.out).2.1
          have HZl2 : Hid (zo < WT.heap.size) := (Array.getElem?_eq_some_iff.1 HZ2.out).1
          have HRD := HT2.out.read sec
          obtain ⟨bs2, er2, hrs⟩ : ∃ x y, s2.read sec = (x, y) := ⟨_, _, rfl⟩
          have hrl := read_len HT2.out.ok sec
          rw [hrs] at HRD hrl
          have HRL : Hid (bs2.length ≤ 4096) := hrl
          have HRD := Lib.hid HRD
          have HRS := Lib.hid hrs
          clear hrs hrl b0 b1 b2 b3 b4 c0 c1 c2 c3 c4 hWB hzo
          go_wp2_with fail
          refine HRD.out.mono ?_
          rintro e V1 ⟨v, rfl, hv, hb⟩
          obtain ⟨A, bn, rfl, hbn, hrd, hrow⟩ := read_form hv
          obtain ⟨zb, hzb⟩ : ∃ zb, WT.heap.size = zb := ⟨_, rfl⟩
          rw [hzb] at hrow
          have hbn1 : bn ≤ 4096 := by rw [← hbn]; exact HRL.out
          have HT3 : Hid (Two w V1 g r s2 s2 (fun j => 0 < bn ∧ j = zb)) := HT2.out.moreK hb (fun j e => .inr (by obtain ⟨e1, rfl⟩ := e; exact ⟨by omega, (hrow e1).2.lt⟩))
          have HZB : Hid (w.heap.size ≤ zb) := by show _ ≤ _; rw [← hzb]; exact HT2.out.bel.size
          have tc2 := (hb.cell (p := ⟨zo, 1, none⟩) HZl2.out).trans tc1
          have HRR := HT3.out.rread (by omega) sec
          rw [HRS.out] at HRR
          have HRR := Lib.hid HRR
          have HSZ := HT3.out.size
          rw [HSN2.out, HSB2.out] at HSZ
          have HSZ := Lib.hid HSZ
          have HRD2 := Lib.hid hrd
          have HROW2 := Lib.hid hrow
          clear hv hb hbn hrd hrow hzb tc1 HRD HRS HT2 HZ2
          go_wp2_with fail
          refine HRR.out.mono ?_
          rintro e w' ⟨rfl, rfl⟩
          clear tc2 HRR
          go_wp2_with fail
          refine HSZ.out.mono ?_
          rintro e V2 ⟨rfl, kk, hkk⟩
          have hb2 : Below V1.heap.size V1 V2 := by rw [hkk]; exact ⟨rfl, rfl, rfl, Nat.le_refl _, fun _ _ => rfl⟩
          have HT4 := Lib.hid (HT3.out.grow hb2).1
          have HROW3 : Hid (0 < bn → Row V2 zb 5 bn (fun _ => True)) := fun h0 => ((HROW2.out h0).2).keep (hb2.block zb ((HROW2.out h0).2).lt)
          have HST : Hid ((convert 32 9 (.slice A bn bn)).run Try.prog V2.drew = .ok (.string ⟨bs2.toArray⟩) V2.drew) := string_rd V2.drew A bn bn bs2 (HRD2.out.keep hb2).drew
          have HTD := Lib.hid (HT4.out.grow ((Below.refl _ V2).drew)).1
          have HC3 := Lib.hid HTD.out.cells.1
          have HC6 := Lib.hid HTD.out.cells.2
          have HUP := Lib.hid HTD.out.up
          have HDD := Lib.hid HTD.out.deeds
          have hdec := hde2
          obtain ⟨dd, hdd⟩ : ∃ dd, s2.deeds = dd := ⟨_, rfl⟩
          obtain ⟨uu, huu⟩ : ∃ uu, s2.up = uu := ⟨_, rfl⟩
          rw [hdd] at HC6 HDD
          rw [huu] at HC3 HUP
          clear hb2 hkk HSZ HRD2 hdec hdd huu
          go_wp2_with fail
          refine wp_region_held_drew (S := fun W => (convert 32 9 (.slice A bn bn)).run Try.prog W = .ok (.string ⟨bs2.toArray⟩) W ∧ W.cell? ⟨r, 3, none⟩ = some (.bool uu) ∧ W.cell? ⟨r, 6, none⟩ = some (.int .i64 (dd : Int))) (by kernel_rfl) (⟨HST.out, HC3.out, HC6.out⟩) (fun hHeld => ?_)
          refine wpAnyH_take (i := 0) (oi := { dst := some 194, op := Go.Op.move (Go.Operand.tmp 17), type := 32, pos := "law.go:99", after := #[], guard := none }) (v := ?vt20) rfl (by kernel_rfl) (by kernel_rfl) (by kernel_rfl) (fun _ _ _ h => h) (Or.inl ⟨by rfl, ?hyt20⟩) hHeld ?_
          case hyt20 => (intro w hSw; (try dsimp only at hSw); go_simp; first | done | with_reducible rfl)
          try simp only [Act.put, List.setIfInBounds_toArray, List.set_cons_zero, List.set_cons_succ]
          refine wpAnyH_take (i := 1) (oi := { dst := some 195, op := Go.Op.convert 32 9 (Go.Operand.tmp 194), type := 9, pos := "law.go:99", after := #[{ on := 0, ground := Go.Ground.data }], guard := none }) (v := ?vt21) rfl (by kernel_rfl) (by kernel_rfl) (by kernel_rfl) (fun _ _ _ h => h) (Or.inl ⟨by rfl, ?hyt21⟩) hHeld ?_
          case hyt21 => (intro w hSw; (try dsimp only at hSw); go_simp; first | done | with_reducible rfl)
          try simp only [Act.put, List.setIfInBounds_toArray, List.set_cons_zero, List.set_cons_succ]
          refine wpAnyH_take (i := 2) (oi := { dst := some 196, op := Go.Op.move (Go.Operand.tmp 19), type := 9, pos := "law.go:99", after := #[], guard := none }) (v := ?vt22) rfl (by kernel_rfl) (by kernel_rfl) (by kernel_rfl) (fun _ _ _ h => h) (Or.inl ⟨by rfl, ?hyt22⟩) hHeld ?_
          case hyt22 => (intro w hSw; (try dsimp only at hSw); go_simp; first | done | with_reducible rfl)
          try simp only [Act.put, List.setIfInBounds_toArray, List.set_cons_zero, List.set_cons_succ]
          refine wpAnyH_take (i := 3) (oi := { dst := some 197, op := Go.Op.binOp Go.BinOp.neq 9 (Go.Operand.tmp 195) (Go.Operand.tmp 196) 9, type := 4, pos := "law.go:99", after := #[{ on := 1, ground := Go.Ground.data }, { on := 2, ground := Go.Ground.data }], guard := none }) (v := ?vt23) rfl (by kernel_rfl) (by kernel_rfl) (by kernel_rfl) (fun _ _ _ h => h) (Or.inl ⟨by rfl, ?hyt23⟩) hHeld ?_
          case hyt23 => (intro w hSw; (try dsimp only at hSw); go_simp; first | done | with_reducible rfl)
          try simp only [Act.put, List.setIfInBounds_toArray, List.set_cons_zero, List.set_cons_succ]
          refine wpAnyH_take (i := 4) (oi := { dst := some 198, op := Go.Op.move (Go.Operand.tmp 197), type := 4, pos := "law.go:99", after := #[{ on := 3, ground := Go.Ground.data }], guard := none }) (v := ?vt24) rfl (by kernel_rfl) (by kernel_rfl) (by kernel_rfl) (fun _ _ _ h => h) (Or.inl ⟨by rfl, ?hyt24⟩) hHeld ?_
          case hyt24 => (intro w hSw; (try dsimp only at hSw); go_simp; first | done | with_reducible rfl)
          try simp only [Act.put, List.setIfInBounds_toArray, List.set_cons_zero, List.set_cons_succ]
          refine wpAnyH_take (i := 5) (oi := { dst := some 199, op := Go.Op.move (Go.Operand.tmp 18), type := 26, pos := "law.go:99", after := #[{ on := 4, ground := Go.Ground.guard }], guard := some (4, false) }) (v := ?vt25) rfl (by kernel_rfl) (by kernel_rfl) (by kernel_rfl) (fun _ _ _ h => h) (Or.inl ⟨by rfl, ?hyt25⟩) hHeld ?_
          case hyt25 => (intro w hSw; (try dsimp only at hSw); go_simp; first | done | with_reducible rfl)
          try simp only [Act.put, List.setIfInBounds_toArray, List.set_cons_zero, List.set_cons_succ]
          refine wpAnyH_take (i := 6) (oi := { dst := some 200, op := Go.Op.move (Go.Operand.tmp 20), type := 26, pos := "law.go:99", after := #[{ on := 4, ground := Go.Ground.guard }], guard := some (4, false) }) (v := ?vt26) rfl (by kernel_rfl) (by kernel_rfl) (by kernel_rfl) (fun _ _ _ h => h) (Or.inl ⟨by rfl, ?hyt26⟩) hHeld ?_
          case hyt26 => (intro w hSw; (try dsimp only at hSw); go_simp; first | done | with_reducible rfl)
          try simp only [Act.put, List.setIfInBounds_toArray, List.set_cons_zero, List.set_cons_succ]
          refine wpAnyH_take (i := 7) (oi := { dst := some 201, op := Go.Op.binOp Go.BinOp.neq 26 (Go.Operand.tmp 199) (Go.Operand.tmp 200) 26, type := 4, pos := "law.go:99", after := #[{ on := 5, ground := Go.Ground.data }, { on := 6, ground := Go.Ground.data }, { on := 4, ground := Go.Ground.guard }], guard := some (4, false) }) (v := ?vt27) rfl (by kernel_rfl) (by kernel_rfl) (by kernel_rfl) (fun _ _ _ h => h) (Or.inl ⟨by rfl, ?hyt27⟩) hHeld ?_
          case hyt27 => (intro w hSw; (try dsimp only at hSw); go_simp; first | done | with_reducible rfl)
          try simp only [Act.put, List.setIfInBounds_toArray, List.set_cons_zero, List.set_cons_succ]
          refine wpAnyH_take (i := 8) (oi := { dst := some 202, op := Go.Op.pick (Go.Operand.tmp 198) (Go.Operand.const (Go.Value.bool true)) (Go.Operand.tmp 201), type := 4, pos := "law.go:99", after := #[{ on := 4, ground := Go.Ground.data }, { on := 7, ground := Go.Ground.data }], guard := none }) (v := ?vt28) rfl (by kernel_rfl) (by kernel_rfl) (by kernel_rfl) (fun _ _ _ h => h) (Or.inl ⟨by rfl, ?hyt28⟩) hHeld ?_
          case hyt28 => (intro w hSw; (try dsimp only at hSw); go_simp; first | done | with_reducible rfl)
          try simp only [Act.put, List.setIfInBounds_toArray, List.set_cons_zero, List.set_cons_succ]
          refine wpAnyH_take (i := 9) (oi := { dst := some 203, op := Go.Op.move (Go.Operand.tmp 202), type := 4, pos := "law.go:99", after := #[{ on := 8, ground := Go.Ground.data }, { on := 4, ground := Go.Ground.chain }], guard := none }) (v := ?vt29) rfl (by kernel_rfl) (by kernel_rfl) (by kernel_rfl) (fun _ _ _ h => h) (Or.inl ⟨by rfl, ?hyt29⟩) hHeld ?_
          case hyt29 => (intro w hSw; (try dsimp only at hSw); go_simp; first | done | with_reducible rfl)
          try simp only [Act.put, List.setIfInBounds_toArray, List.set_cons_zero, List.set_cons_succ]
          refine wpAnyH_take (i := 10) (oi := { dst := some 204, op := Go.Op.move (Go.Operand.tmp 7), type := 25, pos := "law.go:99", after := #[{ on := 9, ground := Go.Ground.guard }], guard := some (9, false) }) (v := ?vt210) rfl (by kernel_rfl) (by kernel_rfl) (by kernel_rfl) (fun _ _ _ h => h) (Or.inl ⟨by rfl, ?hyt210⟩) hHeld ?_
          case hyt210 => (intro w hSw; (try dsimp only at hSw); go_simp; first | done | with_reducible rfl)
          try simp only [Act.put, List.setIfInBounds_toArray, List.set_cons_zero, List.set_cons_succ]
          refine wpAnyH_take (i := 12) (oi := { dst := some 206, op := Go.Op.move (Go.Operand.tmp 9), type := 30, pos := "law.go:99", after := #[{ on := 9, ground := Go.Ground.guard }], guard := some (9, false) }) (v := ?vt212) rfl (by kernel_rfl) (by kernel_rfl) (by kernel_rfl) (fun _ _ _ h => h) (Or.inl ⟨by rfl, ?hyt212⟩) hHeld ?_
          case hyt212 => (intro w hSw; (try dsimp only at hSw); go_simp; first | done | with_reducible rfl)
          try simp only [Act.put, List.setIfInBounds_toArray, List.set_cons_zero, List.set_cons_succ]
          refine wpAnyH_take (i := 13) (oi := { dst := some 207, op := Go.Op.nilCheck (Go.Operand.tmp 206), type := 0, pos := "law.go:99", after := #[{ on := 12, ground := Go.Ground.data }, { on := 9, ground := Go.Ground.guard }], guard := some (9, false) }) (v := ?vt213) rfl (by kernel_rfl) (by kernel_rfl) (by kernel_rfl) (fun _ _ _ h => h) (Or.inl ⟨by rfl, ?hyt213⟩) hHeld ?_
          case hyt213 => (intro w hSw; (try dsimp only at hSw); go_simp; first | done | with_reducible rfl)
          try simp only [Act.put, List.setIfInBounds_toArray, List.set_cons_zero, List.set_cons_succ]
          refine wpAnyH_take (i := 14) (oi := { dst := some 208, op := Go.Op.fieldAddr 49 (Go.Operand.tmp 207) 3, type := 0, pos := "law.go:99", after := #[{ on := 13, ground := Go.Ground.data }, { on := 9, ground := Go.Ground.guard }], guard := some (9, false) }) (v := ?vt214) rfl (by kernel_rfl) (by kernel_rfl) (by kernel_rfl) (fun _ _ _ h => h) (Or.inl ⟨by rfl, ?hyt214⟩) hHeld ?_
          case hyt214 => (intro w hSw; (try dsimp only at hSw); go_simp; first | done | with_reducible rfl)
          try simp only [Act.put, List.setIfInBounds_toArray, List.set_cons_zero, List.set_cons_succ]
          refine wpAnyH_take (i := 15) (oi := { dst := some 209, op := Go.Op.load 4 (Go.Operand.tmp 208), type := 4, pos := "law.go:99", after := #[{ on := 14, ground := Go.Ground.data }, { on := 9, ground := Go.Ground.guard }], guard := some (9, false) }) (v := ?vt215) rfl (by kernel_rfl) (by kernel_rfl) (by kernel_rfl) (fun _ _ _ h => h) (Or.inl ⟨by rfl, ?hyt215⟩) hHeld ?_
          case hyt215 => (intro w hSw; (try dsimp only at hSw); go_simp; first | done | with_reducible rfl)
          try simp only [Act.put, List.setIfInBounds_toArray, List.set_cons_zero, List.set_cons_succ]
          refine wpAnyH_ready (rs := [11]) (by kernel_rfl) (by simp) ?_
          refine AllReadyH.cons (o := { dst := some 205, op := Go.Op.call { callee := Go.Callee.value (Go.Operand.func 26), args := #[Go.Operand.tmp 204], argTypes := #[25] }, type := 4, pos := "law.go:99", after := #[{ on := 10, ground := Go.Ground.data }, { on := 9, ground := Go.Ground.chain }, { on := 9, ground := Go.Ground.guard }], guard := some (9, false) }) rfl (fun K hK => ?_) AllReadyH.nil
          go_simp
          refine HUP.out.mono ?_
          rintro e w' ⟨rfl, rfl⟩
          go_wp2_with fail
          refine hK.out _ _ (⟨HST.out, HC3.out, HC6.out⟩) (fun hHeld => ?_)
          clear hK K
          try simp only [Act.put, List.setIfInBounds_toArray, List.set_cons_zero, List.set_cons_succ]
          refine wpAnyH_take (i := 16) (oi := { dst := some 210, op := Go.Op.binOp Go.BinOp.neq 4 (Go.Operand.tmp 205) (Go.Operand.tmp 209) 4, type := 4, pos := "law.go:99", after := #[{ on := 11, ground := Go.Ground.data }, { on := 15, ground := Go.Ground.data }, { on := 9, ground := Go.Ground.guard }], guard := some (9, false) }) (v := ?vt216) rfl (by kernel_rfl) (by kernel_rfl) (by kernel_rfl) (fun _ _ _ h => h) (Or.inl ⟨by rfl, ?hyt216⟩) hHeld ?_
          case hyt216 => (intro w hSw; (try dsimp only at hSw); go_simp; first | done | with_reducible rfl)
          try simp only [Act.put, List.setIfInBounds_toArray, List.set_cons_zero, List.set_cons_succ]
          refine wpAnyH_take (i := 17) (oi := { dst := some 211, op := Go.Op.pick (Go.Operand.tmp 203) (Go.Operand.const (Go.Value.bool true)) (Go.Operand.tmp 210), type := 4, pos := "law.go:99", after := #[{ on := 9, ground := Go.Ground.data }, { on := 16, ground := Go.Ground.data }], guard := none }) (v := ?vt217) rfl (by kernel_rfl) (by kernel_rfl) (by kernel_rfl) (fun _ _ _ h => h) (Or.inl ⟨by rfl, ?hyt217⟩) hHeld ?_
          case hyt217 => (intro w hSw; (try dsimp only at hSw); go_simp; first | done | with_reducible rfl)
          try simp only [Act.put, List.setIfInBounds_toArray, List.set_cons_zero, List.set_cons_succ]
          refine wpAnyH_take (i := 18) (oi := { dst := some 212, op := Go.Op.move (Go.Operand.tmp 211), type := 4, pos := "law.go:99", after := #[{ on := 17, ground := Go.Ground.data }, { on := 11, ground := Go.Ground.chain }], guard := none }) (v := ?vt218) rfl (by kernel_rfl) (by kernel_rfl) (by kernel_rfl) (fun _ _ _ h => h) (Or.inl ⟨by rfl, ?hyt218⟩) hHeld ?_
          case hyt218 => (intro w hSw; (try dsimp only at hSw); go_simp; first | done | with_reducible rfl)
          try simp only [Act.put, List.setIfInBounds_toArray, List.set_cons_zero, List.set_cons_succ]
          refine wpAnyH_take (i := 19) (oi := { dst := some 213, op := Go.Op.move (Go.Operand.tmp 7), type := 25, pos := "law.go:99", after := #[{ on := 18, ground := Go.Ground.guard }], guard := some (18, false) }) (v := ?vt219) rfl (by kernel_rfl) (by kernel_rfl) (by kernel_rfl) (fun _ _ _ h => h) (Or.inl ⟨by rfl, ?hyt219⟩) hHeld ?_
          case hyt219 => (intro w hSw; (try dsimp only at hSw); go_simp; first | done | with_reducible rfl)
          try simp only [Act.put, List.setIfInBounds_toArray, List.set_cons_zero, List.set_cons_succ]
          refine wpAnyH_take (i := 21) (oi := { dst := some 215, op := Go.Op.move (Go.Operand.tmp 9), type := 30, pos := "law.go:99", after := #[{ on := 18, ground := Go.Ground.guard }], guard := some (18, false) }) (v := ?vt221) rfl (by kernel_rfl) (by kernel_rfl) (by kernel_rfl) (fun _ _ _ h => h) (Or.inl ⟨by rfl, ?hyt221⟩) hHeld ?_
          case hyt221 => (intro w hSw; (try dsimp only at hSw); go_simp; first | done | with_reducible rfl)
          try simp only [Act.put, List.setIfInBounds_toArray, List.set_cons_zero, List.set_cons_succ]
          refine wpAnyH_take (i := 22) (oi := { dst := some 216, op := Go.Op.nilCheck (Go.Operand.tmp 215), type := 0, pos := "law.go:99", after := #[{ on := 21, ground := Go.Ground.data }, { on := 18, ground := Go.Ground.guard }], guard := some (18, false) }) (v := ?vt222) rfl (by kernel_rfl) (by kernel_rfl) (by kernel_rfl) (fun _ _ _ h => h) (Or.inl ⟨by rfl, ?hyt222⟩) hHeld ?_
          case hyt222 => (intro w hSw; (try dsimp only at hSw); go_simp; first | done | with_reducible rfl)
          try simp only [Act.put, List.setIfInBounds_toArray, List.set_cons_zero, List.set_cons_succ]
          refine wpAnyH_take (i := 23) (oi := { dst := some 217, op := Go.Op.fieldAddr 49 (Go.Operand.tmp 216) 6, type := 0, pos := "law.go:99", after := #[{ on := 22, ground := Go.Ground.data }, { on := 18, ground := Go.Ground.guard }], guard := some (18, false) }) (v := ?vt223) rfl (by kernel_rfl) (by kernel_rfl) (by kernel_rfl) (fun _ _ _ h => h) (Or.inl ⟨by rfl, ?hyt223⟩) hHeld ?_
          case hyt223 => (intro w hSw; (try dsimp only at hSw); go_simp; first | done | with_reducible rfl)
          try simp only [Act.put, List.setIfInBounds_toArray, List.set_cons_zero, List.set_cons_succ]
          refine wpAnyH_take (i := 24) (oi := { dst := some 218, op := Go.Op.load 3 (Go.Operand.tmp 217), type := 3, pos := "law.go:99", after := #[{ on := 23, ground := Go.Ground.data }, { on := 18, ground := Go.Ground.guard }], guard := some (18, false) }) (v := ?vt224) rfl (by kernel_rfl) (by kernel_rfl) (by kernel_rfl) (fun _ _ _ h => h) (Or.inl ⟨by rfl, ?hyt224⟩) hHeld ?_
          case hyt224 => (intro w hSw; (try dsimp only at hSw); go_simp; first | done | with_reducible rfl)
          try simp only [Act.put, List.setIfInBounds_toArray, List.set_cons_zero, List.set_cons_succ]
          refine wpAnyH_ready (rs := [20]) (by kernel_rfl) (by simp) ?_
          refine AllReadyH.cons (o := { dst := some 214, op := Go.Op.call { callee := Go.Callee.value (Go.Operand.func 27), args := #[Go.Operand.tmp 213], argTypes := #[25] }, type := 3, pos := "law.go:99", after := #[{ on := 19, ground := Go.Ground.data }, { on := 18, ground := Go.Ground.chain }, { on := 18, ground := Go.Ground.guard }], guard := some (18, false) }) rfl (fun K hK => ?_) AllReadyH.nil
          go_simp
          refine HDD.out.mono ?_
          rintro e w' ⟨rfl, rfl⟩
          go_wp2_with fail
          refine hK.out _ _ (⟨HST.out, HC3.out, HC6.out⟩) (fun hHeld => ?_)
          clear hK K
          try simp only [Act.put, List.setIfInBounds_toArray, List.set_cons_zero, List.set_cons_succ]
          refine wpAnyH_take (i := 25) (oi := { dst := some 219, op := Go.Op.binOp Go.BinOp.neq 3 (Go.Operand.tmp 214) (Go.Operand.tmp 218) 3, type := 4, pos := "law.go:99", after := #[{ on := 20, ground := Go.Ground.data }, { on := 24, ground := Go.Ground.data }, { on := 18, ground := Go.Ground.guard }], guard := some (18, false) }) (v := ?vt225) rfl (by kernel_rfl) (by kernel_rfl) (by kernel_rfl) (fun _ _ _ h => h) (Or.inl ⟨by rfl, ?hyt225⟩) hHeld ?_
          case hyt225 => (intro w hSw; (try dsimp only at hSw); go_simp; first | done | with_reducible rfl)
          try simp only [Act.put, List.setIfInBounds_toArray, List.set_cons_zero, List.set_cons_succ]
          refine wpAnyH_take (i := 26) (oi := { dst := some 220, op := Go.Op.pick (Go.Operand.tmp 212) (Go.Operand.const (Go.Value.bool true)) (Go.Operand.tmp 219), type := 4, pos := "law.go:99", after := #[{ on := 18, ground := Go.Ground.data }, { on := 25, ground := Go.Ground.data }], guard := none }) (v := ?vt226) rfl (by kernel_rfl) (by kernel_rfl) (by kernel_rfl) (fun _ _ _ h => h) (Or.inl ⟨by rfl, ?hyt226⟩) hHeld ?_
          case hyt226 => (intro w hSw; (try dsimp only at hSw); go_simp; first | done | with_reducible rfl)
          try simp only [Act.put, List.setIfInBounds_toArray, List.set_cons_zero, List.set_cons_succ]
          refine wpAnyH_take (i := 27) (oi := { dst := some 221, op := Go.Op.move (Go.Operand.tmp 220), type := 4, pos := "law.go:99", after := #[{ on := 26, ground := Go.Ground.data }, { on := 20, ground := Go.Ground.chain }], guard := none }) (v := ?vt227) rfl (by kernel_rfl) (by kernel_rfl) (by kernel_rfl) (fun _ _ _ h => h) (Or.inl ⟨by rfl, ?hyt227⟩) hHeld ?_
          case hyt227 => (intro w hSw; (try dsimp only at hSw); go_simp; first | done | with_reducible rfl)
          try simp only [Act.put, List.setIfInBounds_toArray, List.set_cons_zero, List.set_cons_succ]
          refine wpAnyH_take (i := 28) (oi := { dst := some 222, op := Go.Op.move (Go.Operand.tmp 21), type := 3, pos := "law.go:99", after := #[{ on := 27, ground := Go.Ground.guard }], guard := some (27, false) }) (v := ?vt228) rfl (by kernel_rfl) (by kernel_rfl) (by kernel_rfl) (fun _ _ _ h => h) (Or.inl ⟨by rfl, ?hyt228⟩) hHeld ?_
          case hyt228 => (intro w hSw; (try dsimp only at hSw); go_simp; first | done | with_reducible rfl)
          try simp only [Act.put, List.setIfInBounds_toArray, List.set_cons_zero, List.set_cons_succ]
          refine wpAnyH_take (i := 29) (oi := { dst := some 223, op := Go.Op.move (Go.Operand.tmp 0), type := 3, pos := "law.go:99", after := #[{ on := 27, ground := Go.Ground.guard }], guard := some (27, false) }) (v := ?vt229) rfl (by kernel_rfl) (by kernel_rfl) (by kernel_rfl) (fun _ _ _ h => h) (Or.inl ⟨by rfl, ?hyt229⟩) hHeld ?_
          case hyt229 => (intro w hSw; (try dsimp only at hSw); go_simp; first | done | with_reducible rfl)
          try simp only [Act.put, List.setIfInBounds_toArray, List.set_cons_zero, List.set_cons_succ]
          refine wpAnyH_take (i := 30) (oi := { dst := some 224, op := Go.Op.binOp Go.BinOp.neq 3 (Go.Operand.tmp 222) (Go.Operand.tmp 223) 3, type := 4, pos := "law.go:99", after := #[{ on := 28, ground := Go.Ground.data }, { on := 29, ground := Go.Ground.data }, { on := 27, ground := Go.Ground.guard }], guard := some (27, false) }) (v := ?vt230) rfl (by kernel_rfl) (by kernel_rfl) (by kernel_rfl) (fun _ _ _ h => h) (Or.inl ⟨by rfl, ?hyt230⟩) hHeld ?_
          case hyt230 => (intro w hSw; (try dsimp only at hSw); go_simp; first | done | with_reducible rfl)
          try simp only [Act.put, List.setIfInBounds_toArray, List.set_cons_zero, List.set_cons_succ]
          refine wpAnyH_take (i := 31) (oi := { dst := some 225, op := Go.Op.pick (Go.Operand.tmp 221) (Go.Operand.const (Go.Value.bool true)) (Go.Operand.tmp 224), type := 4, pos := "law.go:99", after := #[{ on := 27, ground := Go.Ground.data }, { on := 30, ground := Go.Ground.data }], guard := none }) (v := ?vt231) rfl (by kernel_rfl) (by kernel_rfl) (by kernel_rfl) (fun _ _ _ h => h) (Or.inl ⟨by rfl, ?hyt231⟩) hHeld ?_
          case hyt231 => (intro w hSw; (try dsimp only at hSw); go_simp; first | done | with_reducible rfl)
          try simp only [Act.put, List.setIfInBounds_toArray, List.set_cons_zero, List.set_cons_succ]
          refine wpAnyH_take (i := 32) (oi := { dst := some 226, op := Go.Op.move (Go.Operand.tmp 225), type := 4, pos := "law.go:99", after := #[{ on := 31, ground := Go.Ground.data }, { on := 27, ground := Go.Ground.chain }], guard := none }) (v := ?vt232) rfl (by kernel_rfl) (by kernel_rfl) (by kernel_rfl) (fun _ _ _ h => h) (Or.inl ⟨by rfl, ?hyt232⟩) hHeld ?_
          case hyt232 => (intro w hSw; (try dsimp only at hSw); go_simp; first | done | with_reducible rfl)
          try simp only [Act.put, List.setIfInBounds_toArray, List.set_cons_zero, List.set_cons_succ]
          refine wpAnyH_take (i := 33) (oi := { dst := some 227, op := Go.Op.move (Go.Operand.tmp 22), type := 3, pos := "law.go:99", after := #[{ on := 32, ground := Go.Ground.guard }], guard := some (32, false) }) (v := ?vt233) rfl (by kernel_rfl) (by kernel_rfl) (by kernel_rfl) (fun _ _ _ h => h) (Or.inl ⟨by rfl, ?hyt233⟩) hHeld ?_
          case hyt233 => (intro w hSw; (try dsimp only at hSw); go_simp; first | done | with_reducible rfl)
          try simp only [Act.put, List.setIfInBounds_toArray, List.set_cons_zero, List.set_cons_succ]
          refine wpAnyH_take (i := 34) (oi := { dst := some 228, op := Go.Op.move (Go.Operand.tmp 1), type := 3, pos := "law.go:99", after := #[{ on := 32, ground := Go.Ground.guard }], guard := some (32, false) }) (v := ?vt234) rfl (by kernel_rfl) (by kernel_rfl) (by kernel_rfl) (fun _ _ _ h => h) (Or.inl ⟨by rfl, ?hyt234⟩) hHeld ?_
          case hyt234 => (intro w hSw; (try dsimp only at hSw); go_simp; first | done | with_reducible rfl)
          try simp only [Act.put, List.setIfInBounds_toArray, List.set_cons_zero, List.set_cons_succ]
          refine wpAnyH_take (i := 35) (oi := { dst := some 229, op := Go.Op.binOp Go.BinOp.neq 3 (Go.Operand.tmp 227) (Go.Operand.tmp 228) 3, type := 4, pos := "law.go:99", after := #[{ on := 33, ground := Go.Ground.data }, { on := 34, ground := Go.Ground.data }, { on := 32, ground := Go.Ground.guard }], guard := some (32, false) }) (v := ?vt235) rfl (by kernel_rfl) (by kernel_rfl) (by kernel_rfl) (fun _ _ _ h => h) (Or.inl ⟨by rfl, ?hyt235⟩) hHeld ?_
          case hyt235 => (intro w hSw; (try dsimp only at hSw); go_simp; first | done | with_reducible rfl)
          try simp only [Act.put, List.setIfInBounds_toArray, List.set_cons_zero, List.set_cons_succ]
          refine wpAnyH_take (i := 36) (oi := { dst := some 230, op := Go.Op.pick (Go.Operand.tmp 226) (Go.Operand.const (Go.Value.bool true)) (Go.Operand.tmp 229), type := 4, pos := "law.go:99", after := #[{ on := 32, ground := Go.Ground.data }, { on := 35, ground := Go.Ground.data }], guard := none }) (v := ?vt236) rfl (by kernel_rfl) (by kernel_rfl) (by kernel_rfl) (fun _ _ _ h => h) (Or.inl ⟨by rfl, ?hyt236⟩) hHeld ?_
          case hyt236 => (intro w hSw; (try dsimp only at hSw); go_simp; first | done | with_reducible rfl)
          try simp only [Act.put, List.setIfInBounds_toArray, List.set_cons_zero, List.set_cons_succ]
          refine wpAnyH_done (by kernel_rfl) ?_ _
          go_wp2
          go_loopw [23] (fun i wr => ∃ q : Nat, q ≤ bn ∧ i = .int .i64 q ∧ Fr (fun j => 0 < bn ∧ j = zb) V2 wr ∧ (0 < bn → Row wr zb 5 bn (fun _ => True))) (fun i _ => bn - (intOf i).toNat)
          case atStart => exact ⟨0, Nat.zero_le _, rfl, (Fr.refl _ _).drew, HROW3.out⟩
          case round =>
            obtain ⟨q, hq, rfl, hF, hR⟩ := hrel
            by_cases hqk : q < bn
            · obtain ⟨⟨u, hu, _⟩, hfz⟩ := (hR (by omega)).cell q hqk
              obtain ⟨rfl, _⟩ := HROW2.out (by omega)
              have HF2 := Lib.hid hF
              have HR2 := Lib.hid hR
              clear hF hR
              go_wp2
              go_roundw
              case rel => exact ⟨q + 1, by omega, by go_num, HF2.out.setCell (.inl ⟨by omega, rfl⟩) _, fun h0 => (HR2.out h0).set q _ trivial⟩
              case measure => simp [intOf]; omega
            · have HTN : Hid (Two w wr g r s2 s2 (fun _ => False)) := (HT4.out.frK hF (fun j e => by obtain ⟨_, rfl⟩ := e; exact HZB.out)).less (fun _ h => h.elim)
              clear hF hR
              go_wp2
              go_roundw
              case rel => exact ⟨k + 1, s2, by omega, by go_num, HTN.out, HFI2.out, hde2, HSN2.out, HSB2.out⟩
              case measure => simp [intOf]; omega
      by_cases q3 : call = 3
      · subst q3
        as_aux_lemma =>
          obtain ⟨X0, hX0⟩ : ∃ X0, WB.alloc (.cells #[] 4) = X0 := ⟨_, rfl⟩
          obtain ⟨zx, hzx⟩ : ∃ zx, WB.heap.size = zx := ⟨_, rfl⟩
          have hX0b : Below WB.heap.size WB X0 := by rw [← hX0]; exact (Below.refl _ _).alloc (Nat.le_refl _) _
          have hoe := OwnQ.empty WB
          rw [hX0] at hoe
          obtain ⟨v', W1, hrun, ho, hbe⟩ := run_appQ X0 WB.heap.size 33 _ [] hoe kA kl kc ks ((HRQ.out.keep HT1.out.bel).keep hX0b) (by simp; omega) hX0b.size
          rw [List.nil_append] at ho
          obtain ⟨A1, ca, z1, rfl, hrd1, hrow1⟩ := own_formQ ho kl HRQ.out.len
          have hbW : Below WB.heap.size WB W1 := hX0b.trans hbe
          have hTw : Two w W1 g r s s (fun j => j = zo ∨ (0 < kl ∧ j = z1)) := HT1.out.moreK hbW (fun j e => e.imp id (fun e => by obtain ⟨e1, rfl⟩ := e; exact ⟨(hrow1 e1).2.1, (hrow1 e1).2.2.lt⟩))
          have hzW := (hbW.block zo HZL.out).trans HZ.out
          have f2 := (op_cells hzW).2.2.1
          have X4 : X0.cell? ⟨zo, 4, none⟩ = some (.slice kA kl kc) := (hX0b.cell (p := ⟨zo, 4, none⟩) HZL.out).trans b4
          have hrun' : ∀ ty, (Builtin.append_ #[33, 33] ty #[.slice (some ⟨zx, 0, none⟩) 0 0, .slice kA kl kc]).run Try.prog X0 = .ok (.slice A1 kl ca) W1 := fun _ => by rw [← hzx]; exact hrun
          have HRUN := Lib.hid hrun'
          have H1 := Lib.hid (hTw.arm cn hw2.2 A1 kl ca ks hrd1 (by omega))
          have HROW : Hid (0 < kl → A1 = some ⟨z1, 0, none⟩ ∧ WB.heap.size ≤ z1 ∧ Row W1 z1 4 kl (fun v => ∃ b, v = .bool b)) := hrow1
          have HZ1 := Lib.hid hzW
          clear hX0b hoe hrun ho hbe hrd1 hrow1 hbW hTw hzW hrun'
          go_wp2_with (first | (at_builtin; refine wpList_run_app _ rfl _ _ 33 rfl _ _ _ _ rfl rfl HRUN.out ?_) | fail)
          clear hX0 hzx X4
          refine H1.out.mono ?_
          rintro e W2 ⟨⟨v, rfl⟩, hT2, hK2⟩
          have H2 := Lib.hid (hT2.rarm cn hw2.2 kA kl kc ks HRQ.out (by omega))
          have hz2 := (hK2.2 zo (.inl rfl)).trans HZ1.out
          obtain ⟨_, _, f2', _, f4'⟩ := op_cells hz2
          have HK2 := Lib.hid hK2
          have HZ3 := Lib.hid hz2
          clear hT2 hK2 hz2 H1 f2
          go_wp2_with fail
          refine H2.out.mono ?_
          rintro e W3 ⟨⟨v2, rfl⟩, hT3, hK3⟩
          have HT3 := Lib.hid hT3
          have HZ4 : Hid (W3.heap[zo]? = some (.cells #[.int .i64 3, .int .i64 sec, .int .i64 cn, .slice bA bl bc, .slice kA kl kc] 35 (0, 0))) := (hK3.2 zo (.inl rfl)).trans HZ3.out
          have HR3 : Hid (0 < kl → Row W3 z1 4 kl (fun v => ∃ b, v = .bool b)) := fun h0 => ((HROW.out h0).2.2).keep ((HK2.out.trans hK3).2 z1 (.inr ⟨h0, rfl⟩))
          clear hT3 hK3 H2 f2' f4' b0 b1 b2 b3 b4 c0 c1 c2 c3 c4 hWB hzo
          go_wp2
          go_loopw [16] (fun i wr => ∃ q : Nat, q ≤ kl ∧ i = .int .i64 q ∧ Fr (fun j => 0 < kl ∧ j = z1) W3 wr ∧ (0 < kl → Row wr z1 4 kl (fun v => ∃ b, v = .bool b))) (fun i _ => kl - (intOf i).toNat)
          case atStart => exact ⟨0, Nat.zero_le _, rfl, Fr.refl _ _, HR3.out⟩
          case round =>
            obtain ⟨q, hq, rfl, hF, hR⟩ := hrel
            by_cases hqk : q < kl
            · obtain ⟨⟨u, hu, ub, rfl⟩, hfz⟩ := (hR (by omega)).cell q hqk
              obtain ⟨rfl, _, _⟩ := HROW.out (by omega)
              have HF2 := Lib.hid hF
              have HR2 := Lib.hid hR
              clear hF hR
              go_wp2
              go_roundw
              case rel => exact ⟨q + 1, by omega, by go_num, HF2.out.setCell (.inl ⟨by omega, rfl⟩) _, fun h0 => (HR2.out h0).set q _ ⟨_, rfl⟩⟩
              case measure => simp [intOf]; omega
            · have HT2 : Hid (Two w wr g r (s.arm cn ks) (s.arm cn ks) (fun j => j = zo)) := (HT3.out.frK (hF.mono (fun j e => .inr e)) (fun j e => by
                rcases e with rfl | ⟨e1, rfl⟩
                · exact HZW.out
                · have := (HROW.out e1).2.1; have := HZW.out; have := HZL.out; omega)).less (fun j e => .inl e)
              have HZ2 : Hid (wr.heap[zo]? = some (.cells #[.int .i64 3, .int .i64 sec, .int .i64 cn, .slice bA bl bc, .slice kA kl kc] 35 (0, 0))) := (hF.block zo (Array.getElem?_eq_some_iff.1 HZ4.out).1 (fun e => by have := (HROW.out e.1).2.1; have := HZL.out; omega)).trans HZ4.out
              have HFI2 : Hid (s.arm cn ks).Fine := HFI.out
              have hde2 : (s.arm cn ks).deeds ≤ k + 1 := by show s.deeds ≤ _; omega
              have HSN2 : Hid ((s.arm cn ks).sectors = n) := HSN.out
              have HSB2 : Hid ((s.arm cn ks).bytes = m) := HSB.out
              obtain ⟨s2, hs2⟩ : ∃ s2, s.arm cn ks = s2 := ⟨_, rfl⟩
              rw [hs2] at HFI2 hde2 HSN2 HSB2 HT2
              clear hs2 hF hR HROW HR3 HT3 HZ4
              have tc1 := (op_cells HZ2.out).2.1
              have HZl2 : Hid (zo < wr.heap.size) := (Array.getElem?_eq_some_iff.1 HZ2.out).1
              have HRD := HT2.out.read sec
              obtain ⟨bs2, er2, hrs⟩ : ∃ x y, s2.read sec = (x, y) := ⟨_, _, rfl⟩
              have hrl := read_len HT2.out.ok sec
              rw [hrs] at HRD hrl
              have HRL : Hid (bs2.length ≤ 4096) := hrl
              have HRD := Lib.hid HRD
              have HRS := Lib.hid hrs
              clear hrs hrl
              go_wp2_with fail
              refine HRD.out.mono ?_
              rintro e V1 ⟨v, rfl, hv, hb⟩
              obtain ⟨A, bn, rfl, hbn, hrd, hrow⟩ := read_form hv
              obtain ⟨zb, hzb⟩ : ∃ zb, wr.heap.size = zb := ⟨_, rfl⟩
              rw [hzb] at hrow
              have hbn1 : bn ≤ 4096 := by rw [← hbn]; exact HRL.out
              have HT3 : Hid (Two w V1 g r s2 s2 (fun j => 0 < bn ∧ j = zb)) := HT2.out.moreK hb (fun j e => .inr (by obtain ⟨e1, rfl⟩ := e; exact ⟨by omega, (hrow e1).2.lt⟩))
              have HZB : Hid (w.heap.size ≤ zb) := by show _ ≤ _; rw [← hzb]; exact HT2.out.bel.size
              have tc2 := (hb.cell (p := ⟨zo, 1, none⟩) HZl2.out).trans tc1
              have HRR := HT3.out.rread (by omega) sec
              rw [HRS.out] at HRR
              have HRR := Lib.hid HRR
              have HSZ := HT3.out.size
              rw [HSN2.out, HSB2.out] at HSZ
              have HSZ := Lib.hid HSZ
              have HRD2 := Lib.hid hrd
              have HROW2 := Lib.hid hrow
              clear hv hb hbn hrd hrow hzb tc1 HRD HRS HT2 HZ2
              go_wp2_with fail
              refine HRR.out.mono ?_
              rintro e w' ⟨rfl, rfl⟩
              clear tc2 HRR
              go_wp2_with fail
              refine HSZ.out.mono ?_
              rintro e V2 ⟨rfl, kk, hkk⟩
              have hb2 : Below V1.heap.size V1 V2 := by rw [hkk]; exact ⟨rfl, rfl, rfl, Nat.le_refl _, fun _ _ => rfl⟩
              have HT4 := Lib.hid (HT3.out.grow hb2).1
              have HROW3 : Hid (0 < bn → Row V2 zb 5 bn (fun _ => True)) := fun h0 => ((HROW2.out h0).2).keep (hb2.block zb ((HROW2.out h0).2).lt)
              have HST : Hid ((convert 32 9 (.slice A bn bn)).run Try.prog V2.drew = .ok (.string ⟨bs2.toArray⟩) V2.drew) := string_rd V2.drew A bn bn bs2 (HRD2.out.keep hb2).drew
              have HTD := Lib.hid (HT4.out.grow ((Below.refl _ V2).drew)).1
              have HC3 := Lib.hid HTD.out.cells.1
              have HC6 := Lib.hid HTD.out.cells.2
              have HUP := Lib.hid HTD.out.up
              have HDD := Lib.hid HTD.out.deeds
              have hdec := hde2
              obtain ⟨dd, hdd⟩ : ∃ dd, s2.deeds = dd := ⟨_, rfl⟩
              obtain ⟨uu, huu⟩ : ∃ uu, s2.up = uu := ⟨_, rfl⟩
              rw [hdd] at HC6 HDD
              rw [huu] at HC3 HUP
              clear hb2 hkk HSZ HRD2 hdec hdd huu
              go_wp2_with fail
              refine wp_region_held_drew (S := fun W => (convert 32 9 (.slice A bn bn)).run Try.prog W = .ok (.string ⟨bs2.toArray⟩) W ∧ W.cell? ⟨r, 3, none⟩ = some (.bool uu) ∧ W.cell? ⟨r, 6, none⟩ = some (.int .i64 (dd : Int))) (by kernel_rfl) (⟨HST.out, HC3.out, HC6.out⟩) (fun hHeld => ?_)
              refine wpAnyH_take (i := 0) (oi := { dst := some 194, op := Go.Op.move (Go.Operand.tmp 17), type := 32, pos := "law.go:99", after := #[], guard := none }) (v := ?vt30) rfl (by kernel_rfl) (by kernel_rfl) (by kernel_rfl) (fun _ _ _ h => h) (Or.inl ⟨by rfl, ?hyt30⟩) hHeld ?_
              case hyt30 => (intro w hSw; (try dsimp only at hSw); go_simp; first | done | with_reducible rfl)
              try simp only [Act.put, List.setIfInBounds_toArray, List.set_cons_zero, List.set_cons_succ]
              refine wpAnyH_take (i := 1) (oi := { dst := some 195, op := Go.Op.convert 32 9 (Go.Operand.tmp 194), type := 9, pos := "law.go:99", after := #[{ on := 0, ground := Go.Ground.data }], guard := none }) (v := ?vt31) rfl (by kernel_rfl) (by kernel_rfl) (by kernel_rfl) (fun _ _ _ h => h) (Or.inl ⟨by rfl, ?hyt31⟩) hHeld ?_
              case hyt31 => (intro w hSw; (try dsimp only at hSw); go_simp; first | done | with_reducible rfl)
              try simp only [Act.put, List.setIfInBounds_toArray, List.set_cons_zero, List.set_cons_succ]
              refine wpAnyH_take (i := 2) (oi := { dst := some 196, op := Go.Op.move (Go.Operand.tmp 19), type := 9, pos := "law.go:99", after := #[], guard := none }) (v := ?vt32) rfl (by kernel_rfl) (by kernel_rfl) (by kernel_rfl) (fun _ _ _ h => h) (Or.inl ⟨by rfl, ?hyt32⟩) hHeld ?_
              case hyt32 => (intro w hSw; (try dsimp only at hSw); go_simp; first | done | with_reducible rfl)
              try simp only [Act.put, List.setIfInBounds_toArray, List.set_cons_zero, List.set_cons_succ]
              refine wpAnyH_take (i := 3) (oi := { dst := some 197, op := Go.Op.binOp Go.BinOp.neq 9 (Go.Operand.tmp 195) (Go.Operand.tmp 196) 9, type := 4, pos := "law.go:99", after := #[{ on := 1, ground := Go.Ground.data }, { on := 2, ground := Go.Ground.data }], guard := none }) (v := ?vt33) rfl (by kernel_rfl) (by kernel_rfl) (by kernel_rfl) (fun _ _ _ h => h) (Or.inl ⟨by rfl, ?hyt33⟩) hHeld ?_
              case hyt33 => (intro w hSw; (try dsimp only at hSw); go_simp; first | done | with_reducible rfl)
              try simp only [Act.put, List.setIfInBounds_toArray, List.set_cons_zero, List.set_cons_succ]
              refine wpAnyH_take (i := 4) (oi := { dst := some 198, op := Go.Op.move (Go.Operand.tmp 197), type := 4, pos := "law.go:99", after := #[{ on := 3, ground := Go.Ground.data }], guard := none }) (v := ?vt34) rfl (by kernel_rfl) (by kernel_rfl) (by kernel_rfl) (fun _ _ _ h => h) (Or.inl ⟨by rfl, ?hyt34⟩) hHeld ?_
              case hyt34 => (intro w hSw; (try dsimp only at hSw); go_simp; first | done | with_reducible rfl)
              try simp only [Act.put, List.setIfInBounds_toArray, List.set_cons_zero, List.set_cons_succ]
              refine wpAnyH_take (i := 5) (oi := { dst := some 199, op := Go.Op.move (Go.Operand.tmp 18), type := 26, pos := "law.go:99", after := #[{ on := 4, ground := Go.Ground.guard }], guard := some (4, false) }) (v := ?vt35) rfl (by kernel_rfl) (by kernel_rfl) (by kernel_rfl) (fun _ _ _ h => h) (Or.inl ⟨by rfl, ?hyt35⟩) hHeld ?_
              case hyt35 => (intro w hSw; (try dsimp only at hSw); go_simp; first | done | with_reducible rfl)
              try simp only [Act.put, List.setIfInBounds_toArray, List.set_cons_zero, List.set_cons_succ]
              refine wpAnyH_take (i := 6) (oi := { dst := some 200, op := Go.Op.move (Go.Operand.tmp 20), type := 26, pos := "law.go:99", after := #[{ on := 4, ground := Go.Ground.guard }], guard := some (4, false) }) (v := ?vt36) rfl (by kernel_rfl) (by kernel_rfl) (by kernel_rfl) (fun _ _ _ h => h) (Or.inl ⟨by rfl, ?hyt36⟩) hHeld ?_
              case hyt36 => (intro w hSw; (try dsimp only at hSw); go_simp; first | done | with_reducible rfl)
              try simp only [Act.put, List.setIfInBounds_toArray, List.set_cons_zero, List.set_cons_succ]
              refine wpAnyH_take (i := 7) (oi := { dst := some 201, op := Go.Op.binOp Go.BinOp.neq 26 (Go.Operand.tmp 199) (Go.Operand.tmp 200) 26, type := 4, pos := "law.go:99", after := #[{ on := 5, ground := Go.Ground.data }, { on := 6, ground := Go.Ground.data }, { on := 4, ground := Go.Ground.guard }], guard := some (4, false) }) (v := ?vt37) rfl (by kernel_rfl) (by kernel_rfl) (by kernel_rfl) (fun _ _ _ h => h) (Or.inl ⟨by rfl, ?hyt37⟩) hHeld ?_
              case hyt37 => (intro w hSw; (try dsimp only at hSw); go_simp; first | done | with_reducible rfl)
              try simp only [Act.put, List.setIfInBounds_toArray, List.set_cons_zero, List.set_cons_succ]
              refine wpAnyH_take (i := 8) (oi := { dst := some 202, op := Go.Op.pick (Go.Operand.tmp 198) (Go.Operand.const (Go.Value.bool true)) (Go.Operand.tmp 201), type := 4, pos := "law.go:99", after := #[{ on := 4, ground := Go.Ground.data }, { on := 7, ground := Go.Ground.data }], guard := none }) (v := ?vt38) rfl (by kernel_rfl) (by kernel_rfl) (by kernel_rfl) (fun _ _ _ h => h) (Or.inl ⟨by rfl, ?hyt38⟩) hHeld ?_
              case hyt38 => (intro w hSw; (try dsimp only at hSw); go_simp; first | done | with_reducible rfl)
              try simp only [Act.put, List.setIfInBounds_toArray, List.set_cons_zero, List.set_cons_succ]
              refine wpAnyH_take (i := 9) (oi := { dst := some 203, op := Go.Op.move (Go.Operand.tmp 202), type := 4, pos := "law.go:99", after := #[{ on := 8, ground := Go.Ground.data }, { on := 4, ground := Go.Ground.chain }], guard := none }) (v := ?vt39) rfl (by kernel_rfl) (by kernel_rfl) (by kernel_rfl) (fun _ _ _ h => h) (Or.inl ⟨by rfl, ?hyt39⟩) hHeld ?_
              case hyt39 => (intro w hSw; (try dsimp only at hSw); go_simp; first | done | with_reducible rfl)
              try simp only [Act.put, List.setIfInBounds_toArray, List.set_cons_zero, List.set_cons_succ]
              refine wpAnyH_take (i := 10) (oi := { dst := some 204, op := Go.Op.move (Go.Operand.tmp 7), type := 25, pos := "law.go:99", after := #[{ on := 9, ground := Go.Ground.guard }], guard := some (9, false) }) (v := ?vt310) rfl (by kernel_rfl) (by kernel_rfl) (by kernel_rfl) (fun _ _ _ h => h) (Or.inl ⟨by rfl, ?hyt310⟩) hHeld ?_
              case hyt310 => (intro w hSw; (try dsimp only at hSw); go_simp; first | done | with_reducible rfl)
              try simp only [Act.put, List.setIfInBounds_toArray, List.set_cons_zero, List.set_cons_succ]
              refine wpAnyH_take (i := 12) (oi := { dst := some 206, op := Go.Op.move (Go.Operand.tmp 9), type := 30, pos := "law.go:99", after := #[{ on := 9, ground := Go.Ground.guard }], guard := some (9, false) }) (v := ?vt312) rfl (by kernel_rfl) (by kernel_rfl) (by kernel_rfl) (fun _ _ _ h => h) (Or.inl ⟨by rfl, ?hyt312⟩) hHeld ?_
              case hyt312 => (intro w hSw; (try dsimp only at hSw); go_simp; first | done | with_reducible rfl)
              try simp only [Act.put, List.setIfInBounds_toArray, List.set_cons_zero, List.set_cons_succ]
              refine wpAnyH_take (i := 13) (oi := { dst := some 207, op := Go.Op.nilCheck (Go.Operand.tmp 206), type := 0, pos := "law.go:99", after := #[{ on := 12, ground := Go.Ground.data }, { on := 9, ground := Go.Ground.guard }], guard := some (9, false) }) (v := ?vt313) rfl (by kernel_rfl) (by kernel_rfl) (by kernel_rfl) (fun _ _ _ h => h) (Or.inl ⟨by rfl, ?hyt313⟩) hHeld ?_
              case hyt313 => (intro w hSw; (try dsimp only at hSw); go_simp; first | done | with_reducible rfl)
              try simp only [Act.put, List.setIfInBounds_toArray, List.set_cons_zero, List.set_cons_succ]
              refine wpAnyH_take (i := 14) (oi := { dst := some 208, op := Go.Op.fieldAddr 49 (Go.Operand.tmp 207) 3, type := 0, pos := "law.go:99", after := #[{ on := 13, ground := Go.Ground.data }, { on := 9, ground := Go.Ground.guard }], guard := some (9, false) }) (v := ?vt314) rfl (by kernel_rfl) (by kernel_rfl) (by kernel_rfl) (fun _ _ _ h => h) (Or.inl ⟨by rfl, ?hyt314⟩) hHeld ?_
              case hyt314 => (intro w hSw; (try dsimp only at hSw); go_simp; first | done | with_reducible rfl)
              try simp only [Act.put, List.setIfInBounds_toArray, List.set_cons_zero, List.set_cons_succ]
              refine wpAnyH_take (i := 15) (oi := { dst := some 209, op := Go.Op.load 4 (Go.Operand.tmp 208), type := 4, pos := "law.go:99", after := #[{ on := 14, ground := Go.Ground.data }, { on := 9, ground := Go.Ground.guard }], guard := some (9, false) }) (v := ?vt315) rfl (by kernel_rfl) (by kernel_rfl) (by kernel_rfl) (fun _ _ _ h => h) (Or.inl ⟨by rfl, ?hyt315⟩) hHeld ?_
              case hyt315 => (intro w hSw; (try dsimp only at hSw); go_simp; first | done | with_reducible rfl)
              try simp only [Act.put, List.setIfInBounds_toArray, List.set_cons_zero, List.set_cons_succ]
              refine wpAnyH_ready (rs := [11]) (by kernel_rfl) (by simp) ?_
              refine AllReadyH.cons (o := { dst := some 205, op := Go.Op.call { callee := Go.Callee.value (Go.Operand.func 26), args := #[Go.Operand.tmp 204], argTypes := #[25] }, type := 4, pos := "law.go:99", after := #[{ on := 10, ground := Go.Ground.data }, { on := 9, ground := Go.Ground.chain }, { on := 9, ground := Go.Ground.guard }], guard := some (9, false) }) rfl (fun K hK => ?_) AllReadyH.nil
              go_simp
              refine HUP.out.mono ?_
              rintro e w' ⟨rfl, rfl⟩
              go_wp2_with fail
              refine hK.out _ _ (⟨HST.out, HC3.out, HC6.out⟩) (fun hHeld => ?_)
              clear hK K
              try simp only [Act.put, List.setIfInBounds_toArray, List.set_cons_zero, List.set_cons_succ]
              refine wpAnyH_take (i := 16) (oi := { dst := some 210, op := Go.Op.binOp Go.BinOp.neq 4 (Go.Operand.tmp 205) (Go.Operand.tmp 209) 4, type := 4, pos := "law.go:99", after := #[{ on := 11, ground := Go.Ground.data }, { on := 15, ground := Go.Ground.data }, { on := 9, ground := Go.Ground.guard }], guard := some (9, false) }) (v := ?vt316) rfl (by kernel_rfl) (by kernel_rfl) (by kernel_rfl) (fun _ _ _ h => h) (Or.inl ⟨by rfl, ?hyt316⟩) hHeld ?_
              case hyt316 => (intro w hSw; (try dsimp only at hSw); go_simp; first | done | with_reducible rfl)
              try simp only [Act.put, List.setIfInBounds_toArray, List.set_cons_zero, List.set_cons_succ]
              refine wpAnyH_take (i := 17) (oi := { dst := some 211, op := Go.Op.pick (Go.Operand.tmp 203) (Go.Operand.const (Go.Value.bool true)) (Go.Operand.tmp 210), type := 4, pos := "law.go:99", after := #[{ on := 9, ground := Go.Ground.data }, { on := 16, ground := Go.Ground.data }], guard := none }) (v := ?vt317) rfl (by kernel_rfl) (by kernel_rfl) (by kernel_rfl) (fun _ _ _ h => h) (Or.inl ⟨by rfl, ?hyt317⟩) hHeld ?_
              case hyt317 => (intro w hSw; (try dsimp only at hSw); go_simp; first | done | with_reducible rfl)
              try simp only [Act.put, List.setIfInBounds_toArray, List.set_cons_zero, List.set_cons_succ]
              refine wpAnyH_take (i := 18) (oi := { dst := some 212, op := Go.Op.move (Go.Operand.tmp 211), type := 4, pos := "law.go:99", after := #[{ on := 17, ground := Go.Ground.data }, { on := 11, ground := Go.Ground.chain }], guard := none }) (v := ?vt318) rfl (by kernel_rfl) (by kernel_rfl) (by kernel_rfl) (fun _ _ _ h => h) (Or.inl ⟨by rfl, ?hyt318⟩) hHeld ?_
              case hyt318 => (intro w hSw; (try dsimp only at hSw); go_simp; first | done | with_reducible rfl)
              try simp only [Act.put, List.setIfInBounds_toArray, List.set_cons_zero, List.set_cons_succ]
              refine wpAnyH_take (i := 19) (oi := { dst := some 213, op := Go.Op.move (Go.Operand.tmp 7), type := 25, pos := "law.go:99", after := #[{ on := 18, ground := Go.Ground.guard }], guard := some (18, false) }) (v := ?vt319) rfl (by kernel_rfl) (by kernel_rfl) (by kernel_rfl) (fun _ _ _ h => h) (Or.inl ⟨by rfl, ?hyt319⟩) hHeld ?_
              case hyt319 => (intro w hSw; (try dsimp only at hSw); go_simp; first | done | with_reducible rfl)
              try simp only [Act.put, List.setIfInBounds_toArray, List.set_cons_zero, List.set_cons_succ]
              refine wpAnyH_take (i := 21) (oi := { dst := some 215, op := Go.Op.move (Go.Operand.tmp 9), type := 30, pos := "law.go:99", after := #[{ on := 18, ground := Go.Ground.guard }], guard := some (18, false) }) (v := ?vt321) rfl (by kernel_rfl) (by kernel_rfl) (by kernel_rfl) (fun _ _ _ h => h) (Or.inl ⟨by rfl, ?hyt321⟩) hHeld ?_
              case hyt321 => (intro w hSw; (try dsimp only at hSw); go_simp; first | done | with_reducible rfl)
              try simp only [Act.put, List.setIfInBounds_toArray, List.set_cons_zero, List.set_cons_succ]
              refine wpAnyH_take (i := 22) (oi := { dst := some 216, op := Go.Op.nilCheck (Go.Operand.tmp 215), type := 0, pos := "law.go:99", after := #[{ on := 21, ground := Go.Ground.data }, { on := 18, ground := Go.Ground.guard }], guard := some (18, false) }) (v := ?vt322) rfl (by kernel_rfl) (by kernel_rfl) (by kernel_rfl) (fun _ _ _ h => h) (Or.inl ⟨by rfl, ?hyt322⟩) hHeld ?_
              case hyt322 => (intro w hSw; (try dsimp only at hSw); go_simp; first | done | with_reducible rfl)
              try simp only [Act.put, List.setIfInBounds_toArray, List.set_cons_zero, List.set_cons_succ]
              refine wpAnyH_take (i := 23) (oi := { dst := some 217, op := Go.Op.fieldAddr 49 (Go.Operand.tmp 216) 6, type := 0, pos := "law.go:99", after := #[{ on := 22, ground := Go.Ground.data }, { on := 18, ground := Go.Ground.guard }], guard := some (18, false) }) (v := ?vt323) rfl (by kernel_rfl) (by kernel_rfl) (by kernel_rfl) (fun _ _ _ h => h) (Or.inl ⟨by rfl, ?hyt323⟩) hHeld ?_
              case hyt323 => (intro w hSw; (try dsimp only at hSw); go_simp; first | done | with_reducible rfl)
              try simp only [Act.put, List.setIfInBounds_toArray, List.set_cons_zero, List.set_cons_succ]
              refine wpAnyH_take (i := 24) (oi := { dst := some 218, op := Go.Op.load 3 (Go.Operand.tmp 217), type := 3, pos := "law.go:99", after := #[{ on := 23, ground := Go.Ground.data }, { on := 18, ground := Go.Ground.guard }], guard := some (18, false) }) (v := ?vt324) rfl (by kernel_rfl) (by kernel_rfl) (by kernel_rfl) (fun _ _ _ h => h) (Or.inl ⟨by rfl, ?hyt324⟩) hHeld ?_
              case hyt324 => (intro w hSw; (try dsimp only at hSw); go_simp; first | done | with_reducible rfl)
              try simp only [Act.put, List.setIfInBounds_toArray, List.set_cons_zero, List.set_cons_succ]
              refine wpAnyH_ready (rs := [20]) (by kernel_rfl) (by simp) ?_
              refine AllReadyH.cons (o := { dst := some 214, op := Go.Op.call { callee := Go.Callee.value (Go.Operand.func 27), args := #[Go.Operand.tmp 213], argTypes := #[25] }, type := 3, pos := "law.go:99", after := #[{ on := 19, ground := Go.Ground.data }, { on := 18, ground := Go.Ground.chain }, { on := 18, ground := Go.Ground.guard }], guard := some (18, false) }) rfl (fun K hK => ?_) AllReadyH.nil
              go_simp
              refine HDD.out.mono ?_
              rintro e w' ⟨rfl, rfl⟩
              go_wp2_with fail
              refine hK.out _ _ (⟨HST.out, HC3.out, HC6.out⟩) (fun hHeld => ?_)
              clear hK K
              try simp only [Act.put, List.setIfInBounds_toArray, List.set_cons_zero, List.set_cons_succ]
              refine wpAnyH_take (i := 25) (oi := { dst := some 219, op := Go.Op.binOp Go.BinOp.neq 3 (Go.Operand.tmp 214) (Go.Operand.tmp 218) 3, type := 4, pos := "law.go:99", after := #[{ on := 20, ground := Go.Ground.data }, { on := 24, ground := Go.Ground.data }, { on := 18, ground := Go.Ground.guard }], guard := some (18, false) }) (v := ?vt325) rfl (by kernel_rfl) (by kernel_rfl) (by kernel_rfl) (fun _ _ _ h => h) (Or.inl ⟨by rfl, ?hyt325⟩) hHeld ?_
              case hyt325 => (intro w hSw; (try dsimp only at hSw); go_simp; first | done | with_reducible rfl)
              try simp only [Act.put, List.setIfInBounds_toArray, List.set_cons_zero, List.set_cons_succ]
              refine wpAnyH_take (i := 26) (oi := { dst := some 220, op := Go.Op.pick (Go.Operand.tmp 212) (Go.Operand.const (Go.Value.bool true)) (Go.Operand.tmp 219), type := 4, pos := "law.go:99", after := #[{ on := 18, ground := Go.Ground.data }, { on := 25, ground := Go.Ground.data }], guard := none }) (v := ?vt326) rfl (by kernel_rfl) (by kernel_rfl) (by kernel_rfl) (fun _ _ _ h => h) (Or.inl ⟨by rfl, ?hyt326⟩) hHeld ?_
              case hyt326 => (intro w hSw; (try dsimp only at hSw); go_simp; first | done | with_reducible rfl)
              try simp only [Act.put, List.setIfInBounds_toArray, List.set_cons_zero, List.set_cons_succ]
              refine wpAnyH_take (i := 27) (oi := { dst := some 221, op := Go.Op.move (Go.Operand.tmp 220), type := 4, pos := "law.go:99", after := #[{ on := 26, ground := Go.Ground.data }, { on := 20, ground := Go.Ground.chain }], guard := none }) (v := ?vt327) rfl (by kernel_rfl) (by kernel_rfl) (by kernel_rfl) (fun _ _ _ h => h) (Or.inl ⟨by rfl, ?hyt327⟩) hHeld ?_
              case hyt327 => (intro w hSw; (try dsimp only at hSw); go_simp; first | done | with_reducible rfl)
              try simp only [Act.put, List.setIfInBounds_toArray, List.set_cons_zero, List.set_cons_succ]
              refine wpAnyH_take (i := 28) (oi := { dst := some 222, op := Go.Op.move (Go.Operand.tmp 21), type := 3, pos := "law.go:99", after := #[{ on := 27, ground := Go.Ground.guard }], guard := some (27, false) }) (v := ?vt328) rfl (by kernel_rfl) (by kernel_rfl) (by kernel_rfl) (fun _ _ _ h => h) (Or.inl ⟨by rfl, ?hyt328⟩) hHeld ?_
              case hyt328 => (intro w hSw; (try dsimp only at hSw); go_simp; first | done | with_reducible rfl)
              try simp only [Act.put, List.setIfInBounds_toArray, List.set_cons_zero, List.set_cons_succ]
              refine wpAnyH_take (i := 29) (oi := { dst := some 223, op := Go.Op.move (Go.Operand.tmp 0), type := 3, pos := "law.go:99", after := #[{ on := 27, ground := Go.Ground.guard }], guard := some (27, false) }) (v := ?vt329) rfl (by kernel_rfl) (by kernel_rfl) (by kernel_rfl) (fun _ _ _ h => h) (Or.inl ⟨by rfl, ?hyt329⟩) hHeld ?_
              case hyt329 => (intro w hSw; (try dsimp only at hSw); go_simp; first | done | with_reducible rfl)
              try simp only [Act.put, List.setIfInBounds_toArray, List.set_cons_zero, List.set_cons_succ]
              refine wpAnyH_take (i := 30) (oi := { dst := some 224, op := Go.Op.binOp Go.BinOp.neq 3 (Go.Operand.tmp 222) (Go.Operand.tmp 223) 3, type := 4, pos := "law.go:99", after := #[{ on := 28, ground := Go.Ground.data }, { on := 29, ground := Go.Ground.data }, { on := 27, ground := Go.Ground.guard }], guard := some (27, false) }) (v := ?vt330) rfl (by kernel_rfl) (by kernel_rfl) (by kernel_rfl) (fun _ _ _ h => h) (Or.inl ⟨by rfl, ?hyt330⟩) hHeld ?_
              case hyt330 => (intro w hSw; (try dsimp only at hSw); go_simp; first | done | with_reducible rfl)
              try simp only [Act.put, List.setIfInBounds_toArray, List.set_cons_zero, List.set_cons_succ]
              refine wpAnyH_take (i := 31) (oi := { dst := some 225, op := Go.Op.pick (Go.Operand.tmp 221) (Go.Operand.const (Go.Value.bool true)) (Go.Operand.tmp 224), type := 4, pos := "law.go:99", after := #[{ on := 27, ground := Go.Ground.data }, { on := 30, ground := Go.Ground.data }], guard := none }) (v := ?vt331) rfl (by kernel_rfl) (by kernel_rfl) (by kernel_rfl) (fun _ _ _ h => h) (Or.inl ⟨by rfl, ?hyt331⟩) hHeld ?_
              case hyt331 => (intro w hSw; (try dsimp only at hSw); go_simp; first | done | with_reducible rfl)
              try simp only [Act.put, List.setIfInBounds_toArray, List.set_cons_zero, List.set_cons_succ]
              refine wpAnyH_take (i := 32) (oi := { dst := some 226, op := Go.Op.move (Go.Operand.tmp 225), type := 4, pos := "law.go:99", after := #[{ on := 31, ground := Go.Ground.data }, { on := 27, ground := Go.Ground.chain }], guard := none }) (v := ?vt332) rfl (by kernel_rfl) (by kernel_rfl) (by kernel_rfl) (fun _ _ _ h => h) (Or.inl ⟨by rfl, ?hyt332⟩) hHeld ?_
              case hyt332 => (intro w hSw; (try dsimp only at hSw); go_simp; first | done | with_reducible rfl)
              try simp only [Act.put, List.setIfInBounds_toArray, List.set_cons_zero, List.set_cons_succ]
              refine wpAnyH_take (i := 33) (oi := { dst := some 227, op := Go.Op.move (Go.Operand.tmp 22), type := 3, pos := "law.go:99", after := #[{ on := 32, ground := Go.Ground.guard }], guard := some (32, false) }) (v := ?vt333) rfl (by kernel_rfl) (by kernel_rfl) (by kernel_rfl) (fun _ _ _ h => h) (Or.inl ⟨by rfl, ?hyt333⟩) hHeld ?_
              case hyt333 => (intro w hSw; (try dsimp only at hSw); go_simp; first | done | with_reducible rfl)
              try simp only [Act.put, List.setIfInBounds_toArray, List.set_cons_zero, List.set_cons_succ]
              refine wpAnyH_take (i := 34) (oi := { dst := some 228, op := Go.Op.move (Go.Operand.tmp 1), type := 3, pos := "law.go:99", after := #[{ on := 32, ground := Go.Ground.guard }], guard := some (32, false) }) (v := ?vt334) rfl (by kernel_rfl) (by kernel_rfl) (by kernel_rfl) (fun _ _ _ h => h) (Or.inl ⟨by rfl, ?hyt334⟩) hHeld ?_
              case hyt334 => (intro w hSw; (try dsimp only at hSw); go_simp; first | done | with_reducible rfl)
              try simp only [Act.put, List.setIfInBounds_toArray, List.set_cons_zero, List.set_cons_succ]
              refine wpAnyH_take (i := 35) (oi := { dst := some 229, op := Go.Op.binOp Go.BinOp.neq 3 (Go.Operand.tmp 227) (Go.Operand.tmp 228) 3, type := 4, pos := "law.go:99", after := #[{ on := 33, ground := Go.Ground.data }, { on := 34, ground := Go.Ground.data }, { on := 32, ground := Go.Ground.guard }], guard := some (32, false) }) (v := ?vt335) rfl (by kernel_rfl) (by kernel_rfl) (by kernel_rfl) (fun _ _ _ h => h) (Or.inl ⟨by rfl, ?hyt335⟩) hHeld ?_
              case hyt335 => (intro w hSw; (try dsimp only at hSw); go_simp; first | done | with_reducible rfl)
              try simp only [Act.put, List.setIfInBounds_toArray, List.set_cons_zero, List.set_cons_succ]
              refine wpAnyH_take (i := 36) (oi := { dst := some 230, op := Go.Op.pick (Go.Operand.tmp 226) (Go.Operand.const (Go.Value.bool true)) (Go.Operand.tmp 229), type := 4, pos := "law.go:99", after := #[{ on := 32, ground := Go.Ground.data }, { on := 35, ground := Go.Ground.data }], guard := none }) (v := ?vt336) rfl (by kernel_rfl) (by kernel_rfl) (by kernel_rfl) (fun _ _ _ h => h) (Or.inl ⟨by rfl, ?hyt336⟩) hHeld ?_
              case hyt336 => (intro w hSw; (try dsimp only at hSw); go_simp; first | done | with_reducible rfl)
              try simp only [Act.put, List.setIfInBounds_toArray, List.set_cons_zero, List.set_cons_succ]
              refine wpAnyH_done (by kernel_rfl) ?_ _
              go_wp2
              go_loopw [23] (fun i wr => ∃ q : Nat, q ≤ bn ∧ i = .int .i64 q ∧ Fr (fun j => 0 < bn ∧ j = zb) V2 wr ∧ (0 < bn → Row wr zb 5 bn (fun _ => True))) (fun i _ => bn - (intOf i).toNat)
              case atStart => exact ⟨0, Nat.zero_le _, rfl, (Fr.refl _ _).drew, HROW3.out⟩
              case round =>
                obtain ⟨q, hq, rfl, hF, hR⟩ := hrel
                by_cases hqk : q < bn
                · obtain ⟨⟨u, hu, _⟩, hfz⟩ := (hR (by omega)).cell q hqk
                  obtain ⟨rfl, _⟩ := HROW2.out (by omega)
                  have HF2 := Lib.hid hF
                  have HR2 := Lib.hid hR
                  clear hF hR
                  go_wp2
                  go_roundw
                  case rel => exact ⟨q + 1, by omega, by go_num, HF2.out.setCell (.inl ⟨by omega, rfl⟩) _, fun h0 => (HR2.out h0).set q _ trivial⟩
                  case measure => simp [intOf]; omega
                · have HTN : Hid (Two w wr g r s2 s2 (fun _ => False)) := (HT4.out.frK hF (fun j e => by obtain ⟨_, rfl⟩ := e; exact HZB.out)).less (fun _ h => h.elim)
                  clear hF hR
                  go_wp2
                  go_roundw
                  case rel => exact ⟨k + 1, s2, by omega, by go_num, HTN.out, HFI2.out, hde2, HSN2.out, HSB2.out⟩
                  case measure => simp [intOf]; omega
      by_cases q4 : call = 4
      · subst q4
        as_aux_lemma =>
          have H1 := Lib.hid (HT1.out.crash (by omega) kA kl kc ks HRQ.out)
          go_wp2_with fail
          refine H1.out.mono ?_
          rintro e W1 ⟨⟨v, rfl⟩, hT1, hK1⟩
          have H2 := Lib.hid (hT1.rcrash (by omega) kA kl kc ks HRQ.out)
          have HK1 := Lib.hid hK1
          have e4 := (op_cells ((hK1.2 zo rfl).trans HZ.out)).2.2.2.2
          clear hT1 hK1 H1
          go_wp2_with fail
          refine H2.out.mono ?_
          rintro e WT ⟨⟨v2, rfl⟩, hT2, hK2⟩
          have HZ2 : Hid (WT.heap[zo]? = some (.cells #[.int .i64 4, .int .i64 sec, .int .i64 cn, .slice bA bl bc, .slice kA kl kc] 35 (0, 0))) := ((HK1.out.trans hK2).2 zo rfl).trans HZ.out
          have HFI2 : Hid (s.crash ks).Fine := S.Fine.crash HFI.out ks
          have hde2 : (s.crash ks).deeds ≤ k + 1 := by rw [S.crash_deeds]; omega
          have HSN2 : Hid ((s.crash ks).sectors = n) := (crash_sz s ks).1.trans HSN.out
          have HSB2 : Hid ((s.crash ks).bytes = m) := (crash_sz s ks).2.trans HSB.out
          have HT2 := Lib.hid hT2
          obtain ⟨s2, hs2⟩ : ∃ s2, s.crash ks = s2 := ⟨_, rfl⟩
          rw [hs2] at HFI2 hde2 HSN2 HSB2 HT2
          clear hT2 hK2 HK1 H2 hs2 e4
          have tc1 := (op_cells HZ2.out).2.1
          have HZl2 : Hid (zo < WT.heap.size) := (Array.getElem?_eq_some_iff.1 HZ2.out).1
          have HRD := HT2.out.read sec
          obtain ⟨bs2, er2, hrs⟩ : ∃ x y, s2.read sec = (x, y) := ⟨_, _, rfl⟩
          have hrl := read_len HT2.out.ok sec
          rw [hrs] at HRD hrl
          have HRL : Hid (bs2.length ≤ 4096) := hrl
          have HRD := Lib.hid HRD
          have HRS := Lib.hid hrs
          clear hrs hrl b0 b1 b2 b3 b4 c0 c1 c2 c3 c4 hWB hzo
          go_wp2_with fail
          refine HRD.out.mono ?_
          rintro e V1 ⟨v, rfl, hv, hb⟩
          obtain ⟨A, bn, rfl, hbn, hrd, hrow⟩ := read_form hv
          obtain ⟨zb, hzb⟩ : ∃ zb, WT.heap.size = zb := ⟨_, rfl⟩
          rw [hzb] at hrow
          have hbn1 : bn ≤ 4096 := by rw [← hbn]; exact HRL.out
          have HT3 : Hid (Two w V1 g r s2 s2 (fun j => 0 < bn ∧ j = zb)) := HT2.out.moreK hb (fun j e => .inr (by obtain ⟨e1, rfl⟩ := e; exact ⟨by omega, (hrow e1).2.lt⟩))
          have HZB : Hid (w.heap.size ≤ zb) := by show _ ≤ _; rw [← hzb]; exact HT2.out.bel.size
          have tc2 := (hb.cell (p := ⟨zo, 1, none⟩) HZl2.out).trans tc1
          have HRR := HT3.out.rread (by omega) sec
          rw [HRS.out] at HRR
          have HRR := Lib.hid HRR
          have HSZ := HT3.out.size
          rw [HSN2.out, HSB2.out] at HSZ
          have HSZ := Lib.hid HSZ
          have HRD2 := Lib.hid hrd
          have HROW2 := Lib.hid hrow
          clear hv hb hbn hrd hrow hzb tc1 HRD HRS HT2 HZ2
          go_wp2_with fail
          refine HRR.out.mono ?_
          rintro e w' ⟨rfl, rfl⟩
          clear tc2 HRR
          go_wp2_with fail
          refine HSZ.out.mono ?_
          rintro e V2 ⟨rfl, kk, hkk⟩
          have hb2 : Below V1.heap.size V1 V2 := by rw [hkk]; exact ⟨rfl, rfl, rfl, Nat.le_refl _, fun _ _ => rfl⟩
          have HT4 := Lib.hid (HT3.out.grow hb2).1
          have HROW3 : Hid (0 < bn → Row V2 zb 5 bn (fun _ => True)) := fun h0 => ((HROW2.out h0).2).keep (hb2.block zb ((HROW2.out h0).2).lt)
          have HST : Hid ((convert 32 9 (.slice A bn bn)).run Try.prog V2.drew = .ok (.string ⟨bs2.toArray⟩) V2.drew) := string_rd V2.drew A bn bn bs2 (HRD2.out.keep hb2).drew
          have HTD := Lib.hid (HT4.out.grow ((Below.refl _ V2).drew)).1
          have HC3 := Lib.hid HTD.out.cells.1
          have HC6 := Lib.hid HTD.out.cells.2
          have HUP := Lib.hid HTD.out.up
          have HDD := Lib.hid HTD.out.deeds
          have hdec := hde2
          obtain ⟨dd, hdd⟩ : ∃ dd, s2.deeds = dd := ⟨_, rfl⟩
          obtain ⟨uu, huu⟩ : ∃ uu, s2.up = uu := ⟨_, rfl⟩
          rw [hdd] at HC6 HDD
          rw [huu] at HC3 HUP
          clear hb2 hkk HSZ HRD2 hdec hdd huu
          go_wp2_with fail
          refine wp_region_held_drew (S := fun W => (convert 32 9 (.slice A bn bn)).run Try.prog W = .ok (.string ⟨bs2.toArray⟩) W ∧ W.cell? ⟨r, 3, none⟩ = some (.bool uu) ∧ W.cell? ⟨r, 6, none⟩ = some (.int .i64 (dd : Int))) (by kernel_rfl) (⟨HST.out, HC3.out, HC6.out⟩) (fun hHeld => ?_)
          refine wpAnyH_take (i := 0) (oi := { dst := some 194, op := Go.Op.move (Go.Operand.tmp 17), type := 32, pos := "law.go:99", after := #[], guard := none }) (v := ?vt40) rfl (by kernel_rfl) (by kernel_rfl) (by kernel_rfl) (fun _ _ _ h => h) (Or.inl ⟨by rfl, ?hyt40⟩) hHeld ?_
          case hyt40 => (intro w hSw; (try dsimp only at hSw); go_simp; first | done | with_reducible rfl)
          try simp only [Act.put, List.setIfInBounds_toArray, List.set_cons_zero, List.set_cons_succ]
          refine wpAnyH_take (i := 1) (oi := { dst := some 195, op := Go.Op.convert 32 9 (Go.Operand.tmp 194), type := 9, pos := "law.go:99", after := #[{ on := 0, ground := Go.Ground.data }], guard := none }) (v := ?vt41) rfl (by kernel_rfl) (by kernel_rfl) (by kernel_rfl) (fun _ _ _ h => h) (Or.inl ⟨by rfl, ?hyt41⟩) hHeld ?_
          case hyt41 => (intro w hSw; (try dsimp only at hSw); go_simp; first | done | with_reducible rfl)
          try simp only [Act.put, List.setIfInBounds_toArray, List.set_cons_zero, List.set_cons_succ]
          refine wpAnyH_take (i := 2) (oi := { dst := some 196, op := Go.Op.move (Go.Operand.tmp 19), type := 9, pos := "law.go:99", after := #[], guard := none }) (v := ?vt42) rfl (by kernel_rfl) (by kernel_rfl) (by kernel_rfl) (fun _ _ _ h => h) (Or.inl ⟨by rfl, ?hyt42⟩) hHeld ?_
          case hyt42 => (intro w hSw; (try dsimp only at hSw); go_simp; first | done | with_reducible rfl)
          try simp only [Act.put, List.setIfInBounds_toArray, List.set_cons_zero, List.set_cons_succ]
          refine wpAnyH_take (i := 3) (oi := { dst := some 197, op := Go.Op.binOp Go.BinOp.neq 9 (Go.Operand.tmp 195) (Go.Operand.tmp 196) 9, type := 4, pos := "law.go:99", after := #[{ on := 1, ground := Go.Ground.data }, { on := 2, ground := Go.Ground.data }], guard := none }) (v := ?vt43) rfl (by kernel_rfl) (by kernel_rfl) (by kernel_rfl) (fun _ _ _ h => h) (Or.inl ⟨by rfl, ?hyt43⟩) hHeld ?_
          case hyt43 => (intro w hSw; (try dsimp only at hSw); go_simp; first | done | with_reducible rfl)
          try simp only [Act.put, List.setIfInBounds_toArray, List.set_cons_zero, List.set_cons_succ]
          refine wpAnyH_take (i := 4) (oi := { dst := some 198, op := Go.Op.move (Go.Operand.tmp 197), type := 4, pos := "law.go:99", after := #[{ on := 3, ground := Go.Ground.data }], guard := none }) (v := ?vt44) rfl (by kernel_rfl) (by kernel_rfl) (by kernel_rfl) (fun _ _ _ h => h) (Or.inl ⟨by rfl, ?hyt44⟩) hHeld ?_
          case hyt44 => (intro w hSw; (try dsimp only at hSw); go_simp; first | done | with_reducible rfl)
          try simp only [Act.put, List.setIfInBounds_toArray, List.set_cons_zero, List.set_cons_succ]
          refine wpAnyH_take (i := 5) (oi := { dst := some 199, op := Go.Op.move (Go.Operand.tmp 18), type := 26, pos := "law.go:99", after := #[{ on := 4, ground := Go.Ground.guard }], guard := some (4, false) }) (v := ?vt45) rfl (by kernel_rfl) (by kernel_rfl) (by kernel_rfl) (fun _ _ _ h => h) (Or.inl ⟨by rfl, ?hyt45⟩) hHeld ?_
          case hyt45 => (intro w hSw; (try dsimp only at hSw); go_simp; first | done | with_reducible rfl)
          try simp only [Act.put, List.setIfInBounds_toArray, List.set_cons_zero, List.set_cons_succ]
          refine wpAnyH_take (i := 6) (oi := { dst := some 200, op := Go.Op.move (Go.Operand.tmp 20), type := 26, pos := "law.go:99", after := #[{ on := 4, ground := Go.Ground.guard }], guard := some (4, false) }) (v := ?vt46) rfl (by kernel_rfl) (by kernel_rfl) (by kernel_rfl) (fun _ _ _ h => h) (Or.inl ⟨by rfl, ?hyt46⟩) hHeld ?_
          case hyt46 => (intro w hSw; (try dsimp only at hSw); go_simp; first | done | with_reducible rfl)
          try simp only [Act.put, List.setIfInBounds_toArray, List.set_cons_zero, List.set_cons_succ]
          refine wpAnyH_take (i := 7) (oi := { dst := some 201, op := Go.Op.binOp Go.BinOp.neq 26 (Go.Operand.tmp 199) (Go.Operand.tmp 200) 26, type := 4, pos := "law.go:99", after := #[{ on := 5, ground := Go.Ground.data }, { on := 6, ground := Go.Ground.data }, { on := 4, ground := Go.Ground.guard }], guard := some (4, false) }) (v := ?vt47) rfl (by kernel_rfl) (by kernel_rfl) (by kernel_rfl) (fun _ _ _ h => h) (Or.inl ⟨by rfl, ?hyt47⟩) hHeld ?_
          case hyt47 => (intro w hSw; (try dsimp only at hSw); go_simp; first | done | with_reducible rfl)
          try simp only [Act.put, List.setIfInBounds_toArray, List.set_cons_zero, List.set_cons_succ]
          refine wpAnyH_take (i := 8) (oi := { dst := some 202, op := Go.Op.pick (Go.Operand.tmp 198) (Go.Operand.const (Go.Value.bool true)) (Go.Operand.tmp 201), type := 4, pos := "law.go:99", after := #[{ on := 4, ground := Go.Ground.data }, { on := 7, ground := Go.Ground.data }], guard := none }) (v := ?vt48) rfl (by kernel_rfl) (by kernel_rfl) (by kernel_rfl) (fun _ _ _ h => h) (Or.inl ⟨by rfl, ?hyt48⟩) hHeld ?_
          case hyt48 => (intro w hSw; (try dsimp only at hSw); go_simp; first | done | with_reducible rfl)
          try simp only [Act.put, List.setIfInBounds_toArray, List.set_cons_zero, List.set_cons_succ]
          refine wpAnyH_take (i := 9) (oi := { dst := some 203, op := Go.Op.move (Go.Operand.tmp 202), type := 4, pos := "law.go:99", after := #[{ on := 8, ground := Go.Ground.data }, { on := 4, ground := Go.Ground.chain }], guard := none }) (v := ?vt49) rfl (by kernel_rfl) (by kernel_rfl) (by kernel_rfl) (fun _ _ _ h => h) (Or.inl ⟨by rfl, ?hyt49⟩) hHeld ?_
          case hyt49 => (intro w hSw; (try dsimp only at hSw); go_simp; first | done | with_reducible rfl)
          try simp only [Act.put, List.setIfInBounds_toArray, List.set_cons_zero, List.set_cons_succ]
          refine wpAnyH_take (i := 10) (oi := { dst := some 204, op := Go.Op.move (Go.Operand.tmp 7), type := 25, pos := "law.go:99", after := #[{ on := 9, ground := Go.Ground.guard }], guard := some (9, false) }) (v := ?vt410) rfl (by kernel_rfl) (by kernel_rfl) (by kernel_rfl) (fun _ _ _ h => h) (Or.inl ⟨by rfl, ?hyt410⟩) hHeld ?_
          case hyt410 => (intro w hSw; (try dsimp only at hSw); go_simp; first | done | with_reducible rfl)
          try simp only [Act.put, List.setIfInBounds_toArray, List.set_cons_zero, List.set_cons_succ]
          refine wpAnyH_take (i := 12) (oi := { dst := some 206, op := Go.Op.move (Go.Operand.tmp 9), type := 30, pos := "law.go:99", after := #[{ on := 9, ground := Go.Ground.guard }], guard := some (9, false) }) (v := ?vt412) rfl (by kernel_rfl) (by kernel_rfl) (by kernel_rfl) (fun _ _ _ h => h) (Or.inl ⟨by rfl, ?hyt412⟩) hHeld ?_
          case hyt412 => (intro w hSw; (try dsimp only at hSw); go_simp; first | done | with_reducible rfl)
          try simp only [Act.put, List.setIfInBounds_toArray, List.set_cons_zero, List.set_cons_succ]
          refine wpAnyH_take (i := 13) (oi := { dst := some 207, op := Go.Op.nilCheck (Go.Operand.tmp 206), type := 0, pos := "law.go:99", after := #[{ on := 12, ground := Go.Ground.data }, { on := 9, ground := Go.Ground.guard }], guard := some (9, false) }) (v := ?vt413) rfl (by kernel_rfl) (by kernel_rfl) (by kernel_rfl) (fun _ _ _ h => h) (Or.inl ⟨by rfl, ?hyt413⟩) hHeld ?_
          case hyt413 => (intro w hSw; (try dsimp only at hSw); go_simp; first | done | with_reducible rfl)
          try simp only [Act.put, List.setIfInBounds_toArray, List.set_cons_zero, List.set_cons_succ]
          refine wpAnyH_take (i := 14) (oi := { dst := some 208, op := Go.Op.fieldAddr 49 (Go.Operand.tmp 207) 3, type := 0, pos := "law.go:99", after := #[{ on := 13, ground := Go.Ground.data }, { on := 9, ground := Go.Ground.guard }], guard := some (9, false) }) (v := ?vt414) rfl (by kernel_rfl) (by kernel_rfl) (by kernel_rfl) (fun _ _ _ h => h) (Or.inl ⟨by rfl, ?hyt414⟩) hHeld ?_
          case hyt414 => (intro w hSw; (try dsimp only at hSw); go_simp; first | done | with_reducible rfl)
          try simp only [Act.put, List.setIfInBounds_toArray, List.set_cons_zero, List.set_cons_succ]
          refine wpAnyH_take (i := 15) (oi := { dst := some 209, op := Go.Op.load 4 (Go.Operand.tmp 208), type := 4, pos := "law.go:99", after := #[{ on := 14, ground := Go.Ground.data }, { on := 9, ground := Go.Ground.guard }], guard := some (9, false) }) (v := ?vt415) rfl (by kernel_rfl) (by kernel_rfl) (by kernel_rfl) (fun _ _ _ h => h) (Or.inl ⟨by rfl, ?hyt415⟩) hHeld ?_
          case hyt415 => (intro w hSw; (try dsimp only at hSw); go_simp; first | done | with_reducible rfl)
          try simp only [Act.put, List.setIfInBounds_toArray, List.set_cons_zero, List.set_cons_succ]
          refine wpAnyH_ready (rs := [11]) (by kernel_rfl) (by simp) ?_
          refine AllReadyH.cons (o := { dst := some 205, op := Go.Op.call { callee := Go.Callee.value (Go.Operand.func 26), args := #[Go.Operand.tmp 204], argTypes := #[25] }, type := 4, pos := "law.go:99", after := #[{ on := 10, ground := Go.Ground.data }, { on := 9, ground := Go.Ground.chain }, { on := 9, ground := Go.Ground.guard }], guard := some (9, false) }) rfl (fun K hK => ?_) AllReadyH.nil
          go_simp
          refine HUP.out.mono ?_
          rintro e w' ⟨rfl, rfl⟩
          go_wp2_with fail
          refine hK.out _ _ (⟨HST.out, HC3.out, HC6.out⟩) (fun hHeld => ?_)
          clear hK K
          try simp only [Act.put, List.setIfInBounds_toArray, List.set_cons_zero, List.set_cons_succ]
          refine wpAnyH_take (i := 16) (oi := { dst := some 210, op := Go.Op.binOp Go.BinOp.neq 4 (Go.Operand.tmp 205) (Go.Operand.tmp 209) 4, type := 4, pos := "law.go:99", after := #[{ on := 11, ground := Go.Ground.data }, { on := 15, ground := Go.Ground.data }, { on := 9, ground := Go.Ground.guard }], guard := some (9, false) }) (v := ?vt416) rfl (by kernel_rfl) (by kernel_rfl) (by kernel_rfl) (fun _ _ _ h => h) (Or.inl ⟨by rfl, ?hyt416⟩) hHeld ?_
          case hyt416 => (intro w hSw; (try dsimp only at hSw); go_simp; first | done | with_reducible rfl)
          try simp only [Act.put, List.setIfInBounds_toArray, List.set_cons_zero, List.set_cons_succ]
          refine wpAnyH_take (i := 17) (oi := { dst := some 211, op := Go.Op.pick (Go.Operand.tmp 203) (Go.Operand.const (Go.Value.bool true)) (Go.Operand.tmp 210), type := 4, pos := "law.go:99", after := #[{ on := 9, ground := Go.Ground.data }, { on := 16, ground := Go.Ground.data }], guard := none }) (v := ?vt417) rfl (by kernel_rfl) (by kernel_rfl) (by kernel_rfl) (fun _ _ _ h => h) (Or.inl ⟨by rfl, ?hyt417⟩) hHeld ?_
          case hyt417 => (intro w hSw; (try dsimp only at hSw); go_simp; first | done | with_reducible rfl)
          try simp only [Act.put, List.setIfInBounds_toArray, List.set_cons_zero, List.set_cons_succ]
          refine wpAnyH_take (i := 18) (oi := { dst := some 212, op := Go.Op.move (Go.Operand.tmp 211), type := 4, pos := "law.go:99", after := #[{ on := 17, ground := Go.Ground.data }, { on := 11, ground := Go.Ground.chain }], guard := none }) (v := ?vt418) rfl (by kernel_rfl) (by kernel_rfl) (by kernel_rfl) (fun _ _ _ h => h) (Or.inl ⟨by rfl, ?hyt418⟩) hHeld ?_
          case hyt418 => (intro w hSw; (try dsimp only at hSw); go_simp; first | done | with_reducible rfl)
          try simp only [Act.put, List.setIfInBounds_toArray, List.set_cons_zero, List.set_cons_succ]
          refine wpAnyH_take (i := 19) (oi := { dst := some 213, op := Go.Op.move (Go.Operand.tmp 7), type := 25, pos := "law.go:99", after := #[{ on := 18, ground := Go.Ground.guard }], guard := some (18, false) }) (v := ?vt419) rfl (by kernel_rfl) (by kernel_rfl) (by kernel_rfl) (fun _ _ _ h => h) (Or.inl ⟨by rfl, ?hyt419⟩) hHeld ?_
          case hyt419 => (intro w hSw; (try dsimp only at hSw); go_simp; first | done | with_reducible rfl)
          try simp only [Act.put, List.setIfInBounds_toArray, List.set_cons_zero, List.set_cons_succ]
          refine wpAnyH_take (i := 21) (oi := { dst := some 215, op := Go.Op.move (Go.Operand.tmp 9), type := 30, pos := "law.go:99", after := #[{ on := 18, ground := Go.Ground.guard }], guard := some (18, false) }) (v := ?vt421) rfl (by kernel_rfl) (by kernel_rfl) (by kernel_rfl) (fun _ _ _ h => h) (Or.inl ⟨by rfl, ?hyt421⟩) hHeld ?_
          case hyt421 => (intro w hSw; (try dsimp only at hSw); go_simp; first | done | with_reducible rfl)
          try simp only [Act.put, List.setIfInBounds_toArray, List.set_cons_zero, List.set_cons_succ]
          refine wpAnyH_take (i := 22) (oi := { dst := some 216, op := Go.Op.nilCheck (Go.Operand.tmp 215), type := 0, pos := "law.go:99", after := #[{ on := 21, ground := Go.Ground.data }, { on := 18, ground := Go.Ground.guard }], guard := some (18, false) }) (v := ?vt422) rfl (by kernel_rfl) (by kernel_rfl) (by kernel_rfl) (fun _ _ _ h => h) (Or.inl ⟨by rfl, ?hyt422⟩) hHeld ?_
          case hyt422 => (intro w hSw; (try dsimp only at hSw); go_simp; first | done | with_reducible rfl)
          try simp only [Act.put, List.setIfInBounds_toArray, List.set_cons_zero, List.set_cons_succ]
          refine wpAnyH_take (i := 23) (oi := { dst := some 217, op := Go.Op.fieldAddr 49 (Go.Operand.tmp 216) 6, type := 0, pos := "law.go:99", after := #[{ on := 22, ground := Go.Ground.data }, { on := 18, ground := Go.Ground.guard }], guard := some (18, false) }) (v := ?vt423) rfl (by kernel_rfl) (by kernel_rfl) (by kernel_rfl) (fun _ _ _ h => h) (Or.inl ⟨by rfl, ?hyt423⟩) hHeld ?_
          case hyt423 => (intro w hSw; (try dsimp only at hSw); go_simp; first | done | with_reducible rfl)
          try simp only [Act.put, List.setIfInBounds_toArray, List.set_cons_zero, List.set_cons_succ]
          refine wpAnyH_take (i := 24) (oi := { dst := some 218, op := Go.Op.load 3 (Go.Operand.tmp 217), type := 3, pos := "law.go:99", after := #[{ on := 23, ground := Go.Ground.data }, { on := 18, ground := Go.Ground.guard }], guard := some (18, false) }) (v := ?vt424) rfl (by kernel_rfl) (by kernel_rfl) (by kernel_rfl) (fun _ _ _ h => h) (Or.inl ⟨by rfl, ?hyt424⟩) hHeld ?_
          case hyt424 => (intro w hSw; (try dsimp only at hSw); go_simp; first | done | with_reducible rfl)
          try simp only [Act.put, List.setIfInBounds_toArray, List.set_cons_zero, List.set_cons_succ]
          refine wpAnyH_ready (rs := [20]) (by kernel_rfl) (by simp) ?_
          refine AllReadyH.cons (o := { dst := some 214, op := Go.Op.call { callee := Go.Callee.value (Go.Operand.func 27), args := #[Go.Operand.tmp 213], argTypes := #[25] }, type := 3, pos := "law.go:99", after := #[{ on := 19, ground := Go.Ground.data }, { on := 18, ground := Go.Ground.chain }, { on := 18, ground := Go.Ground.guard }], guard := some (18, false) }) rfl (fun K hK => ?_) AllReadyH.nil
          go_simp
          refine HDD.out.mono ?_
          rintro e w' ⟨rfl, rfl⟩
          go_wp2_with fail
          refine hK.out _ _ (⟨HST.out, HC3.out, HC6.out⟩) (fun hHeld => ?_)
          clear hK K
          try simp only [Act.put, List.setIfInBounds_toArray, List.set_cons_zero, List.set_cons_succ]
          refine wpAnyH_take (i := 25) (oi := { dst := some 219, op := Go.Op.binOp Go.BinOp.neq 3 (Go.Operand.tmp 214) (Go.Operand.tmp 218) 3, type := 4, pos := "law.go:99", after := #[{ on := 20, ground := Go.Ground.data }, { on := 24, ground := Go.Ground.data }, { on := 18, ground := Go.Ground.guard }], guard := some (18, false) }) (v := ?vt425) rfl (by kernel_rfl) (by kernel_rfl) (by kernel_rfl) (fun _ _ _ h => h) (Or.inl ⟨by rfl, ?hyt425⟩) hHeld ?_
          case hyt425 => (intro w hSw; (try dsimp only at hSw); go_simp; first | done | with_reducible rfl)
          try simp only [Act.put, List.setIfInBounds_toArray, List.set_cons_zero, List.set_cons_succ]
          refine wpAnyH_take (i := 26) (oi := { dst := some 220, op := Go.Op.pick (Go.Operand.tmp 212) (Go.Operand.const (Go.Value.bool true)) (Go.Operand.tmp 219), type := 4, pos := "law.go:99", after := #[{ on := 18, ground := Go.Ground.data }, { on := 25, ground := Go.Ground.data }], guard := none }) (v := ?vt426) rfl (by kernel_rfl) (by kernel_rfl) (by kernel_rfl) (fun _ _ _ h => h) (Or.inl ⟨by rfl, ?hyt426⟩) hHeld ?_
          case hyt426 => (intro w hSw; (try dsimp only at hSw); go_simp; first | done | with_reducible rfl)
          try simp only [Act.put, List.setIfInBounds_toArray, List.set_cons_zero, List.set_cons_succ]
          refine wpAnyH_take (i := 27) (oi := { dst := some 221, op := Go.Op.move (Go.Operand.tmp 220), type := 4, pos := "law.go:99", after := #[{ on := 26, ground := Go.Ground.data }, { on := 20, ground := Go.Ground.chain }], guard := none }) (v := ?vt427) rfl (by kernel_rfl) (by kernel_rfl) (by kernel_rfl) (fun _ _ _ h => h) (Or.inl ⟨by rfl, ?hyt427⟩) hHeld ?_
          case hyt427 => (intro w hSw; (try dsimp only at hSw); go_simp; first | done | with_reducible rfl)
          try simp only [Act.put, List.setIfInBounds_toArray, List.set_cons_zero, List.set_cons_succ]
          refine wpAnyH_take (i := 28) (oi := { dst := some 222, op := Go.Op.move (Go.Operand.tmp 21), type := 3, pos := "law.go:99", after := #[{ on := 27, ground := Go.Ground.guard }], guard := some (27, false) }) (v := ?vt428) rfl (by kernel_rfl) (by kernel_rfl) (by kernel_rfl) (fun _ _ _ h => h) (Or.inl ⟨by rfl, ?hyt428⟩) hHeld ?_
          case hyt428 => (intro w hSw; (try dsimp only at hSw); go_simp; first | done | with_reducible rfl)
          try simp only [Act.put, List.setIfInBounds_toArray, List.set_cons_zero, List.set_cons_succ]
          refine wpAnyH_take (i := 29) (oi := { dst := some 223, op := Go.Op.move (Go.Operand.tmp 0), type := 3, pos := "law.go:99", after := #[{ on := 27, ground := Go.Ground.guard }], guard := some (27, false) }) (v := ?vt429) rfl (by kernel_rfl) (by kernel_rfl) (by kernel_rfl) (fun _ _ _ h => h) (Or.inl ⟨by rfl, ?hyt429⟩) hHeld ?_
          case hyt429 => (intro w hSw; (try dsimp only at hSw); go_simp; first | done | with_reducible rfl)
          try simp only [Act.put, List.setIfInBounds_toArray, List.set_cons_zero, List.set_cons_succ]
          refine wpAnyH_take (i := 30) (oi := { dst := some 224, op := Go.Op.binOp Go.BinOp.neq 3 (Go.Operand.tmp 222) (Go.Operand.tmp 223) 3, type := 4, pos := "law.go:99", after := #[{ on := 28, ground := Go.Ground.data }, { on := 29, ground := Go.Ground.data }, { on := 27, ground := Go.Ground.guard }], guard := some (27, false) }) (v := ?vt430) rfl (by kernel_rfl) (by kernel_rfl) (by kernel_rfl) (fun _ _ _ h => h) (Or.inl ⟨by rfl, ?hyt430⟩) hHeld ?_
          case hyt430 => (intro w hSw; (try dsimp only at hSw); go_simp; first | done | with_reducible rfl)
          try simp only [Act.put, List.setIfInBounds_toArray, List.set_cons_zero, List.set_cons_succ]
          refine wpAnyH_take (i := 31) (oi := { dst := some 225, op := Go.Op.pick (Go.Operand.tmp 221) (Go.Operand.const (Go.Value.bool true)) (Go.Operand.tmp 224), type := 4, pos := "law.go:99", after := #[{ on := 27, ground := Go.Ground.data }, { on := 30, ground := Go.Ground.data }], guard := none }) (v := ?vt431) rfl (by kernel_rfl) (by kernel_rfl) (by kernel_rfl) (fun _ _ _ h => h) (Or.inl ⟨by rfl, ?hyt431⟩) hHeld ?_
          case hyt431 => (intro w hSw; (try dsimp only at hSw); go_simp; first | done | with_reducible rfl)
          try simp only [Act.put, List.setIfInBounds_toArray, List.set_cons_zero, List.set_cons_succ]
          refine wpAnyH_take (i := 32) (oi := { dst := some 226, op := Go.Op.move (Go.Operand.tmp 225), type := 4, pos := "law.go:99", after := #[{ on := 31, ground := Go.Ground.data }, { on := 27, ground := Go.Ground.chain }], guard := none }) (v := ?vt432) rfl (by kernel_rfl) (by kernel_rfl) (by kernel_rfl) (fun _ _ _ h => h) (Or.inl ⟨by rfl, ?hyt432⟩) hHeld ?_
          case hyt432 => (intro w hSw; (try dsimp only at hSw); go_simp; first | done | with_reducible rfl)
          try simp only [Act.put, List.setIfInBounds_toArray, List.set_cons_zero, List.set_cons_succ]
          refine wpAnyH_take (i := 33) (oi := { dst := some 227, op := Go.Op.move (Go.Operand.tmp 22), type := 3, pos := "law.go:99", after := #[{ on := 32, ground := Go.Ground.guard }], guard := some (32, false) }) (v := ?vt433) rfl (by kernel_rfl) (by kernel_rfl) (by kernel_rfl) (fun _ _ _ h => h) (Or.inl ⟨by rfl, ?hyt433⟩) hHeld ?_
          case hyt433 => (intro w hSw; (try dsimp only at hSw); go_simp; first | done | with_reducible rfl)
          try simp only [Act.put, List.setIfInBounds_toArray, List.set_cons_zero, List.set_cons_succ]
          refine wpAnyH_take (i := 34) (oi := { dst := some 228, op := Go.Op.move (Go.Operand.tmp 1), type := 3, pos := "law.go:99", after := #[{ on := 32, ground := Go.Ground.guard }], guard := some (32, false) }) (v := ?vt434) rfl (by kernel_rfl) (by kernel_rfl) (by kernel_rfl) (fun _ _ _ h => h) (Or.inl ⟨by rfl, ?hyt434⟩) hHeld ?_
          case hyt434 => (intro w hSw; (try dsimp only at hSw); go_simp; first | done | with_reducible rfl)
          try simp only [Act.put, List.setIfInBounds_toArray, List.set_cons_zero, List.set_cons_succ]
          refine wpAnyH_take (i := 35) (oi := { dst := some 229, op := Go.Op.binOp Go.BinOp.neq 3 (Go.Operand.tmp 227) (Go.Operand.tmp 228) 3, type := 4, pos := "law.go:99", after := #[{ on := 33, ground := Go.Ground.data }, { on := 34, ground := Go.Ground.data }, { on := 32, ground := Go.Ground.guard }], guard := some (32, false) }) (v := ?vt435) rfl (by kernel_rfl) (by kernel_rfl) (by kernel_rfl) (fun _ _ _ h => h) (Or.inl ⟨by rfl, ?hyt435⟩) hHeld ?_
          case hyt435 => (intro w hSw; (try dsimp only at hSw); go_simp; first | done | with_reducible rfl)
          try simp only [Act.put, List.setIfInBounds_toArray, List.set_cons_zero, List.set_cons_succ]
          refine wpAnyH_take (i := 36) (oi := { dst := some 230, op := Go.Op.pick (Go.Operand.tmp 226) (Go.Operand.const (Go.Value.bool true)) (Go.Operand.tmp 229), type := 4, pos := "law.go:99", after := #[{ on := 32, ground := Go.Ground.data }, { on := 35, ground := Go.Ground.data }], guard := none }) (v := ?vt436) rfl (by kernel_rfl) (by kernel_rfl) (by kernel_rfl) (fun _ _ _ h => h) (Or.inl ⟨by rfl, ?hyt436⟩) hHeld ?_
          case hyt436 => (intro w hSw; (try dsimp only at hSw); go_simp; first | done | with_reducible rfl)
          try simp only [Act.put, List.setIfInBounds_toArray, List.set_cons_zero, List.set_cons_succ]
          refine wpAnyH_done (by kernel_rfl) ?_ _
          go_wp2
          go_loopw [23] (fun i wr => ∃ q : Nat, q ≤ bn ∧ i = .int .i64 q ∧ Fr (fun j => 0 < bn ∧ j = zb) V2 wr ∧ (0 < bn → Row wr zb 5 bn (fun _ => True))) (fun i _ => bn - (intOf i).toNat)
          case atStart => exact ⟨0, Nat.zero_le _, rfl, (Fr.refl _ _).drew, HROW3.out⟩
          case round =>
            obtain ⟨q, hq, rfl, hF, hR⟩ := hrel
            by_cases hqk : q < bn
            · obtain ⟨⟨u, hu, _⟩, hfz⟩ := (hR (by omega)).cell q hqk
              obtain ⟨rfl, _⟩ := HROW2.out (by omega)
              have HF2 := Lib.hid hF
              have HR2 := Lib.hid hR
              clear hF hR
              go_wp2
              go_roundw
              case rel => exact ⟨q + 1, by omega, by go_num, HF2.out.setCell (.inl ⟨by omega, rfl⟩) _, fun h0 => (HR2.out h0).set q _ trivial⟩
              case measure => simp [intOf]; omega
            · have HTN : Hid (Two w wr g r s2 s2 (fun _ => False)) := (HT4.out.frK hF (fun j e => by obtain ⟨_, rfl⟩ := e; exact HZB.out)).less (fun _ h => h.elim)
              clear hF hR
              go_wp2
              go_roundw
              case rel => exact ⟨k + 1, s2, by omega, by go_num, HTN.out, HFI2.out, hde2, HSN2.out, HSB2.out⟩
              case measure => simp [intOf]; omega
      by_cases q5 : call = 5
      · subst q5
        as_aux_lemma =>
          have H1 := Lib.hid HT1.out.on
          go_wp2_with fail
          refine H1.out.mono ?_
          rintro e W1 ⟨⟨v, rfl⟩, hT1, hK1⟩
          have H2 := Lib.hid hT1.ron
          have HK1 := Lib.hid hK1
          clear hT1 hK1 H1
          go_wp2_with fail
          refine H2.out.mono ?_
          rintro e WT ⟨⟨v2, rfl⟩, hT2, hK2⟩
          have HZ2 : Hid (WT.heap[zo]? = some (.cells #[.int .i64 5, .int .i64 sec, .int .i64 cn, .slice bA bl bc, .slice kA kl kc] 35 (0, 0))) := ((HK1.out.trans hK2).2 zo rfl).trans HZ.out
          have HFI2 : Hid s.on.Fine := HFI.out
          have hde2 : s.on.deeds ≤ k + 1 := by show s.deeds ≤ _; omega
          have HSN2 : Hid (s.on.sectors = n) := HSN.out
          have HSB2 : Hid (s.on.bytes = m) := HSB.out
          have HT2 := Lib.hid hT2
          obtain ⟨s2, hs2⟩ : ∃ s2, s.on = s2 := ⟨_, rfl⟩
          rw [hs2] at HFI2 hde2 HSN2 HSB2 HT2
          clear hT2 hK2 HK1 H2 hs2
          have tc1 := (op_cells HZ2.out).2.1
          have HZl2 : Hid (zo < WT.heap.size) := (Array.getElem?_eq_some_iff.1 HZ2.out).1
          have HRD := HT2.out.read sec
          obtain ⟨bs2, er2, hrs⟩ : ∃ x y, s2.read sec = (x, y) := ⟨_, _, rfl⟩
          have hrl := read_len HT2.out.ok sec
          rw [hrs] at HRD hrl
          have HRL : Hid (bs2.length ≤ 4096) := hrl
          have HRD := Lib.hid HRD
          have HRS := Lib.hid hrs
          clear hrs hrl b0 b1 b2 b3 b4 c0 c1 c2 c3 c4 hWB hzo
          go_wp2_with fail
          refine HRD.out.mono ?_
          rintro e V1 ⟨v, rfl, hv, hb⟩
          obtain ⟨A, bn, rfl, hbn, hrd, hrow⟩ := read_form hv
          obtain ⟨zb, hzb⟩ : ∃ zb, WT.heap.size = zb := ⟨_, rfl⟩
          rw [hzb] at hrow
          have hbn1 : bn ≤ 4096 := by rw [← hbn]; exact HRL.out
          have HT3 : Hid (Two w V1 g r s2 s2 (fun j => 0 < bn ∧ j = zb)) := HT2.out.moreK hb (fun j e => .inr (by obtain ⟨e1, rfl⟩ := e; exact ⟨by omega, (hrow e1).2.lt⟩))
          have HZB : Hid (w.heap.size ≤ zb) := by show _ ≤ _; rw [← hzb]; exact HT2.out.bel.size
          have tc2 := (hb.cell (p := ⟨zo, 1, none⟩) HZl2.out).trans tc1
          have HRR := HT3.out.rread (by omega) sec
          rw [HRS.out] at HRR
          have HRR := Lib.hid HRR
          have HSZ := HT3.out.size
          rw [HSN2.out, HSB2.out] at HSZ
          have HSZ := Lib.hid HSZ
          have HRD2 := Lib.hid hrd
          have HROW2 := Lib.hid hrow
          clear hv hb hbn hrd hrow hzb tc1 HRD HRS HT2 HZ2
          go_wp2_with fail
          refine HRR.out.mono ?_
          rintro e w' ⟨rfl, rfl⟩
          clear tc2 HRR
          go_wp2_with fail
          refine HSZ.out.mono ?_
          rintro e V2 ⟨rfl, kk, hkk⟩
          have hb2 : Below V1.heap.size V1 V2 := by rw [hkk]; exact ⟨rfl, rfl, rfl, Nat.le_refl _, fun _ _ => rfl⟩
          have HT4 := Lib.hid (HT3.out.grow hb2).1
          have HROW3 : Hid (0 < bn → Row V2 zb 5 bn (fun _ => True)) := fun h0 => ((HROW2.out h0).2).keep (hb2.block zb ((HROW2.out h0).2).lt)
          have HST : Hid ((convert 32 9 (.slice A bn bn)).run Try.prog V2.drew = .ok (.string ⟨bs2.toArray⟩) V2.drew) := string_rd V2.drew A bn bn bs2 (HRD2.out.keep hb2).drew
          have HTD := Lib.hid (HT4.out.grow ((Below.refl _ V2).drew)).1
          have HC3 := Lib.hid HTD.out.cells.1
          have HC6 := Lib.hid HTD.out.cells.2
          have HUP := Lib.hid HTD.out.up
          have HDD := Lib.hid HTD.out.deeds
          have hdec := hde2
          obtain ⟨dd, hdd⟩ : ∃ dd, s2.deeds = dd := ⟨_, rfl⟩
          obtain ⟨uu, huu⟩ : ∃ uu, s2.up = uu := ⟨_, rfl⟩
          rw [hdd] at HC6 HDD
          rw [huu] at HC3 HUP
          clear hb2 hkk HSZ HRD2 hdec hdd huu
          go_wp2_with fail
          refine wp_region_held_drew (S := fun W => (convert 32 9 (.slice A bn bn)).run Try.prog W = .ok (.string ⟨bs2.toArray⟩) W ∧ W.cell? ⟨r, 3, none⟩ = some (.bool uu) ∧ W.cell? ⟨r, 6, none⟩ = some (.int .i64 (dd : Int))) (by kernel_rfl) (⟨HST.out, HC3.out, HC6.out⟩) (fun hHeld => ?_)
          refine wpAnyH_take (i := 0) (oi := { dst := some 194, op := Go.Op.move (Go.Operand.tmp 17), type := 32, pos := "law.go:99", after := #[], guard := none }) (v := ?vt50) rfl (by kernel_rfl) (by kernel_rfl) (by kernel_rfl) (fun _ _ _ h => h) (Or.inl ⟨by rfl, ?hyt50⟩) hHeld ?_
          case hyt50 => (intro w hSw; (try dsimp only at hSw); go_simp; first | done | with_reducible rfl)
          try simp only [Act.put, List.setIfInBounds_toArray, List.set_cons_zero, List.set_cons_succ]
          refine wpAnyH_take (i := 1) (oi := { dst := some 195, op := Go.Op.convert 32 9 (Go.Operand.tmp 194), type := 9, pos := "law.go:99", after := #[{ on := 0, ground := Go.Ground.data }], guard := none }) (v := ?vt51) rfl (by kernel_rfl) (by kernel_rfl) (by kernel_rfl) (fun _ _ _ h => h) (Or.inl ⟨by rfl, ?hyt51⟩) hHeld ?_
          case hyt51 => (intro w hSw; (try dsimp only at hSw); go_simp; first | done | with_reducible rfl)
          try simp only [Act.put, List.setIfInBounds_toArray, List.set_cons_zero, List.set_cons_succ]
          refine wpAnyH_take (i := 2) (oi := { dst := some 196, op := Go.Op.move (Go.Operand.tmp 19), type := 9, pos := "law.go:99", after := #[], guard := none }) (v := ?vt52) rfl (by kernel_rfl) (by kernel_rfl) (by kernel_rfl) (fun _ _ _ h => h) (Or.inl ⟨by rfl, ?hyt52⟩) hHeld ?_
          case hyt52 => (intro w hSw; (try dsimp only at hSw); go_simp; first | done | with_reducible rfl)
          try simp only [Act.put, List.setIfInBounds_toArray, List.set_cons_zero, List.set_cons_succ]
          refine wpAnyH_take (i := 3) (oi := { dst := some 197, op := Go.Op.binOp Go.BinOp.neq 9 (Go.Operand.tmp 195) (Go.Operand.tmp 196) 9, type := 4, pos := "law.go:99", after := #[{ on := 1, ground := Go.Ground.data }, { on := 2, ground := Go.Ground.data }], guard := none }) (v := ?vt53) rfl (by kernel_rfl) (by kernel_rfl) (by kernel_rfl) (fun _ _ _ h => h) (Or.inl ⟨by rfl, ?hyt53⟩) hHeld ?_
          case hyt53 => (intro w hSw; (try dsimp only at hSw); go_simp; first | done | with_reducible rfl)
          try simp only [Act.put, List.setIfInBounds_toArray, List.set_cons_zero, List.set_cons_succ]
          refine wpAnyH_take (i := 4) (oi := { dst := some 198, op := Go.Op.move (Go.Operand.tmp 197), type := 4, pos := "law.go:99", after := #[{ on := 3, ground := Go.Ground.data }], guard := none }) (v := ?vt54) rfl (by kernel_rfl) (by kernel_rfl) (by kernel_rfl) (fun _ _ _ h => h) (Or.inl ⟨by rfl, ?hyt54⟩) hHeld ?_
          case hyt54 => (intro w hSw; (try dsimp only at hSw); go_simp; first | done | with_reducible rfl)
          try simp only [Act.put, List.setIfInBounds_toArray, List.set_cons_zero, List.set_cons_succ]
          refine wpAnyH_take (i := 5) (oi := { dst := some 199, op := Go.Op.move (Go.Operand.tmp 18), type := 26, pos := "law.go:99", after := #[{ on := 4, ground := Go.Ground.guard }], guard := some (4, false) }) (v := ?vt55) rfl (by kernel_rfl) (by kernel_rfl) (by kernel_rfl) (fun _ _ _ h => h) (Or.inl ⟨by rfl, ?hyt55⟩) hHeld ?_
          case hyt55 => (intro w hSw; (try dsimp only at hSw); go_simp; first | done | with_reducible rfl)
          try simp only [Act.put, List.setIfInBounds_toArray, List.set_cons_zero, List.set_cons_succ]
          refine wpAnyH_take (i := 6) (oi := { dst := some 200, op := Go.Op.move (Go.Operand.tmp 20), type := 26, pos := "law.go:99", after := #[{ on := 4, ground := Go.Ground.guard }], guard := some (4, false) }) (v := ?vt56) rfl (by kernel_rfl) (by kernel_rfl) (by kernel_rfl) (fun _ _ _ h => h) (Or.inl ⟨by rfl, ?hyt56⟩) hHeld ?_
          case hyt56 => (intro w hSw; (try dsimp only at hSw); go_simp; first | done | with_reducible rfl)
          try simp only [Act.put, List.setIfInBounds_toArray, List.set_cons_zero, List.set_cons_succ]
          refine wpAnyH_take (i := 7) (oi := { dst := some 201, op := Go.Op.binOp Go.BinOp.neq 26 (Go.Operand.tmp 199) (Go.Operand.tmp 200) 26, type := 4, pos := "law.go:99", after := #[{ on := 5, ground := Go.Ground.data }, { on := 6, ground := Go.Ground.data }, { on := 4, ground := Go.Ground.guard }], guard := some (4, false) }) (v := ?vt57) rfl (by kernel_rfl) (by kernel_rfl) (by kernel_rfl) (fun _ _ _ h => h) (Or.inl ⟨by rfl, ?hyt57⟩) hHeld ?_
          case hyt57 => (intro w hSw; (try dsimp only at hSw); go_simp; first | done | with_reducible rfl)
          try simp only [Act.put, List.setIfInBounds_toArray, List.set_cons_zero, List.set_cons_succ]
          refine wpAnyH_take (i := 8) (oi := { dst := some 202, op := Go.Op.pick (Go.Operand.tmp 198) (Go.Operand.const (Go.Value.bool true)) (Go.Operand.tmp 201), type := 4, pos := "law.go:99", after := #[{ on := 4, ground := Go.Ground.data }, { on := 7, ground := Go.Ground.data }], guard := none }) (v := ?vt58) rfl (by kernel_rfl) (by kernel_rfl) (by kernel_rfl) (fun _ _ _ h => h) (Or.inl ⟨by rfl, ?hyt58⟩) hHeld ?_
          case hyt58 => (intro w hSw; (try dsimp only at hSw); go_simp; first | done | with_reducible rfl)
          try simp only [Act.put, List.setIfInBounds_toArray, List.set_cons_zero, List.set_cons_succ]
          refine wpAnyH_take (i := 9) (oi := { dst := some 203, op := Go.Op.move (Go.Operand.tmp 202), type := 4, pos := "law.go:99", after := #[{ on := 8, ground := Go.Ground.data }, { on := 4, ground := Go.Ground.chain }], guard := none }) (v := ?vt59) rfl (by kernel_rfl) (by kernel_rfl) (by kernel_rfl) (fun _ _ _ h => h) (Or.inl ⟨by rfl, ?hyt59⟩) hHeld ?_
          case hyt59 => (intro w hSw; (try dsimp only at hSw); go_simp; first | done | with_reducible rfl)
          try simp only [Act.put, List.setIfInBounds_toArray, List.set_cons_zero, List.set_cons_succ]
          refine wpAnyH_take (i := 10) (oi := { dst := some 204, op := Go.Op.move (Go.Operand.tmp 7), type := 25, pos := "law.go:99", after := #[{ on := 9, ground := Go.Ground.guard }], guard := some (9, false) }) (v := ?vt510) rfl (by kernel_rfl) (by kernel_rfl) (by kernel_rfl) (fun _ _ _ h => h) (Or.inl ⟨by rfl, ?hyt510⟩) hHeld ?_
          case hyt510 => (intro w hSw; (try dsimp only at hSw); go_simp; first | done | with_reducible rfl)
          try simp only [Act.put, List.setIfInBounds_toArray, List.set_cons_zero, List.set_cons_succ]
          refine wpAnyH_take (i := 12) (oi := { dst := some 206, op := Go.Op.move (Go.Operand.tmp 9), type := 30, pos := "law.go:99", after := #[{ on := 9, ground := Go.Ground.guard }], guard := some (9, false) }) (v := ?vt512) rfl (by kernel_rfl) (by kernel_rfl) (by kernel_rfl) (fun _ _ _ h => h) (Or.inl ⟨by rfl, ?hyt512⟩) hHeld ?_
          case hyt512 => (intro w hSw; (try dsimp only at hSw); go_simp; first | done | with_reducible rfl)
          try simp only [Act.put, List.setIfInBounds_toArray, List.set_cons_zero, List.set_cons_succ]
          refine wpAnyH_take (i := 13) (oi := { dst := some 207, op := Go.Op.nilCheck (Go.Operand.tmp 206), type := 0, pos := "law.go:99", after := #[{ on := 12, ground := Go.Ground.data }, { on := 9, ground := Go.Ground.guard }], guard := some (9, false) }) (v := ?vt513) rfl (by kernel_rfl) (by kernel_rfl) (by kernel_rfl) (fun _ _ _ h => h) (Or.inl ⟨by rfl, ?hyt513⟩) hHeld ?_
          case hyt513 => (intro w hSw; (try dsimp only at hSw); go_simp; first | done | with_reducible rfl)
          try simp only [Act.put, List.setIfInBounds_toArray, List.set_cons_zero, List.set_cons_succ]
          refine wpAnyH_take (i := 14) (oi := { dst := some 208, op := Go.Op.fieldAddr 49 (Go.Operand.tmp 207) 3, type := 0, pos := "law.go:99", after := #[{ on := 13, ground := Go.Ground.data }, { on := 9, ground := Go.Ground.guard }], guard := some (9, false) }) (v := ?vt514) rfl (by kernel_rfl) (by kernel_rfl) (by kernel_rfl) (fun _ _ _ h => h) (Or.inl ⟨by rfl, ?hyt514⟩) hHeld ?_
          case hyt514 => (intro w hSw; (try dsimp only at hSw); go_simp; first | done | with_reducible rfl)
          try simp only [Act.put, List.setIfInBounds_toArray, List.set_cons_zero, List.set_cons_succ]
          refine wpAnyH_take (i := 15) (oi := { dst := some 209, op := Go.Op.load 4 (Go.Operand.tmp 208), type := 4, pos := "law.go:99", after := #[{ on := 14, ground := Go.Ground.data }, { on := 9, ground := Go.Ground.guard }], guard := some (9, false) }) (v := ?vt515) rfl (by kernel_rfl) (by kernel_rfl) (by kernel_rfl) (fun _ _ _ h => h) (Or.inl ⟨by rfl, ?hyt515⟩) hHeld ?_
          case hyt515 => (intro w hSw; (try dsimp only at hSw); go_simp; first | done | with_reducible rfl)
          try simp only [Act.put, List.setIfInBounds_toArray, List.set_cons_zero, List.set_cons_succ]
          refine wpAnyH_ready (rs := [11]) (by kernel_rfl) (by simp) ?_
          refine AllReadyH.cons (o := { dst := some 205, op := Go.Op.call { callee := Go.Callee.value (Go.Operand.func 26), args := #[Go.Operand.tmp 204], argTypes := #[25] }, type := 4, pos := "law.go:99", after := #[{ on := 10, ground := Go.Ground.data }, { on := 9, ground := Go.Ground.chain }, { on := 9, ground := Go.Ground.guard }], guard := some (9, false) }) rfl (fun K hK => ?_) AllReadyH.nil
          go_simp
          refine HUP.out.mono ?_
          rintro e w' ⟨rfl, rfl⟩
          go_wp2_with fail
          refine hK.out _ _ (⟨HST.out, HC3.out, HC6.out⟩) (fun hHeld => ?_)
          clear hK K
          try simp only [Act.put, List.setIfInBounds_toArray, List.set_cons_zero, List.set_cons_succ]
          refine wpAnyH_take (i := 16) (oi := { dst := some 210, op := Go.Op.binOp Go.BinOp.neq 4 (Go.Operand.tmp 205) (Go.Operand.tmp 209) 4, type := 4, pos := "law.go:99", after := #[{ on := 11, ground := Go.Ground.data }, { on := 15, ground := Go.Ground.data }, { on := 9, ground := Go.Ground.guard }], guard := some (9, false) }) (v := ?vt516) rfl (by kernel_rfl) (by kernel_rfl) (by kernel_rfl) (fun _ _ _ h => h) (Or.inl ⟨by rfl, ?hyt516⟩) hHeld ?_
          case hyt516 => (intro w hSw; (try dsimp only at hSw); go_simp; first | done | with_reducible rfl)
          try simp only [Act.put, List.setIfInBounds_toArray, List.set_cons_zero, List.set_cons_succ]
          refine wpAnyH_take (i := 17) (oi := { dst := some 211, op := Go.Op.pick (Go.Operand.tmp 203) (Go.Operand.const (Go.Value.bool true)) (Go.Operand.tmp 210), type := 4, pos := "law.go:99", after := #[{ on := 9, ground := Go.Ground.data }, { on := 16, ground := Go.Ground.data }], guard := none }) (v := ?vt517) rfl (by kernel_rfl) (by kernel_rfl) (by kernel_rfl) (fun _ _ _ h => h) (Or.inl ⟨by rfl, ?hyt517⟩) hHeld ?_
          case hyt517 => (intro w hSw; (try dsimp only at hSw); go_simp; first | done | with_reducible rfl)
          try simp only [Act.put, List.setIfInBounds_toArray, List.set_cons_zero, List.set_cons_succ]
          refine wpAnyH_take (i := 18) (oi := { dst := some 212, op := Go.Op.move (Go.Operand.tmp 211), type := 4, pos := "law.go:99", after := #[{ on := 17, ground := Go.Ground.data }, { on := 11, ground := Go.Ground.chain }], guard := none }) (v := ?vt518) rfl (by kernel_rfl) (by kernel_rfl) (by kernel_rfl) (fun _ _ _ h => h) (Or.inl ⟨by rfl, ?hyt518⟩) hHeld ?_
          case hyt518 => (intro w hSw; (try dsimp only at hSw); go_simp; first | done | with_reducible rfl)
          try simp only [Act.put, List.setIfInBounds_toArray, List.set_cons_zero, List.set_cons_succ]
          refine wpAnyH_take (i := 19) (oi := { dst := some 213, op := Go.Op.move (Go.Operand.tmp 7), type := 25, pos := "law.go:99", after := #[{ on := 18, ground := Go.Ground.guard }], guard := some (18, false) }) (v := ?vt519) rfl (by kernel_rfl) (by kernel_rfl) (by kernel_rfl) (fun _ _ _ h => h) (Or.inl ⟨by rfl, ?hyt519⟩) hHeld ?_
          case hyt519 => (intro w hSw; (try dsimp only at hSw); go_simp; first | done | with_reducible rfl)
          try simp only [Act.put, List.setIfInBounds_toArray, List.set_cons_zero, List.set_cons_succ]
          refine wpAnyH_take (i := 21) (oi := { dst := some 215, op := Go.Op.move (Go.Operand.tmp 9), type := 30, pos := "law.go:99", after := #[{ on := 18, ground := Go.Ground.guard }], guard := some (18, false) }) (v := ?vt521) rfl (by kernel_rfl) (by kernel_rfl) (by kernel_rfl) (fun _ _ _ h => h) (Or.inl ⟨by rfl, ?hyt521⟩) hHeld ?_
          case hyt521 => (intro w hSw; (try dsimp only at hSw); go_simp; first | done | with_reducible rfl)
          try simp only [Act.put, List.setIfInBounds_toArray, List.set_cons_zero, List.set_cons_succ]
          refine wpAnyH_take (i := 22) (oi := { dst := some 216, op := Go.Op.nilCheck (Go.Operand.tmp 215), type := 0, pos := "law.go:99", after := #[{ on := 21, ground := Go.Ground.data }, { on := 18, ground := Go.Ground.guard }], guard := some (18, false) }) (v := ?vt522) rfl (by kernel_rfl) (by kernel_rfl) (by kernel_rfl) (fun _ _ _ h => h) (Or.inl ⟨by rfl, ?hyt522⟩) hHeld ?_
          case hyt522 => (intro w hSw; (try dsimp only at hSw); go_simp; first | done | with_reducible rfl)
          try simp only [Act.put, List.setIfInBounds_toArray, List.set_cons_zero, List.set_cons_succ]
          refine wpAnyH_take (i := 23) (oi := { dst := some 217, op := Go.Op.fieldAddr 49 (Go.Operand.tmp 216) 6, type := 0, pos := "law.go:99", after := #[{ on := 22, ground := Go.Ground.data }, { on := 18, ground := Go.Ground.guard }], guard := some (18, false) }) (v := ?vt523) rfl (by kernel_rfl) (by kernel_rfl) (by kernel_rfl) (fun _ _ _ h => h) (Or.inl ⟨by rfl, ?hyt523⟩) hHeld ?_
          case hyt523 => (intro w hSw; (try dsimp only at hSw); go_simp; first | done | with_reducible rfl)
          try simp only [Act.put, List.setIfInBounds_toArray, List.set_cons_zero, List.set_cons_succ]
          refine wpAnyH_take (i := 24) (oi := { dst := some 218, op := Go.Op.load 3 (Go.Operand.tmp 217), type := 3, pos := "law.go:99", after := #[{ on := 23, ground := Go.Ground.data }, { on := 18, ground := Go.Ground.guard }], guard := some (18, false) }) (v := ?vt524) rfl (by kernel_rfl) (by kernel_rfl) (by kernel_rfl) (fun _ _ _ h => h) (Or.inl ⟨by rfl, ?hyt524⟩) hHeld ?_
          case hyt524 => (intro w hSw; (try dsimp only at hSw); go_simp; first | done | with_reducible rfl)
          try simp only [Act.put, List.setIfInBounds_toArray, List.set_cons_zero, List.set_cons_succ]
          refine wpAnyH_ready (rs := [20]) (by kernel_rfl) (by simp) ?_
          refine AllReadyH.cons (o := { dst := some 214, op := Go.Op.call { callee := Go.Callee.value (Go.Operand.func 27), args := #[Go.Operand.tmp 213], argTypes := #[25] }, type := 3, pos := "law.go:99", after := #[{ on := 19, ground := Go.Ground.data }, { on := 18, ground := Go.Ground.chain }, { on := 18, ground := Go.Ground.guard }], guard := some (18, false) }) rfl (fun K hK => ?_) AllReadyH.nil
          go_simp
          refine HDD.out.mono ?_
          rintro e w' ⟨rfl, rfl⟩
          go_wp2_with fail
          refine hK.out _ _ (⟨HST.out, HC3.out, HC6.out⟩) (fun hHeld => ?_)
          clear hK K
          try simp only [Act.put, List.setIfInBounds_toArray, List.set_cons_zero, List.set_cons_succ]
          refine wpAnyH_take (i := 25) (oi := { dst := some 219, op := Go.Op.binOp Go.BinOp.neq 3 (Go.Operand.tmp 214) (Go.Operand.tmp 218) 3, type := 4, pos := "law.go:99", after := #[{ on := 20, ground := Go.Ground.data }, { on := 24, ground := Go.Ground.data }, { on := 18, ground := Go.Ground.guard }], guard := some (18, false) }) (v := ?vt525) rfl (by kernel_rfl) (by kernel_rfl) (by kernel_rfl) (fun _ _ _ h => h) (Or.inl ⟨by rfl, ?hyt525⟩) hHeld ?_
          case hyt525 => (intro w hSw; (try dsimp only at hSw); go_simp; first | done | with_reducible rfl)
          try simp only [Act.put, List.setIfInBounds_toArray, List.set_cons_zero, List.set_cons_succ]
          refine wpAnyH_take (i := 26) (oi := { dst := some 220, op := Go.Op.pick (Go.Operand.tmp 212) (Go.Operand.const (Go.Value.bool true)) (Go.Operand.tmp 219), type := 4, pos := "law.go:99", after := #[{ on := 18, ground := Go.Ground.data }, { on := 25, ground := Go.Ground.data }], guard := none }) (v := ?vt526) rfl (by kernel_rfl) (by kernel_rfl) (by kernel_rfl) (fun _ _ _ h => h) (Or.inl ⟨by rfl, ?hyt526⟩) hHeld ?_
          case hyt526 => (intro w hSw; (try dsimp only at hSw); go_simp; first | done | with_reducible rfl)
          try simp only [Act.put, List.setIfInBounds_toArray, List.set_cons_zero, List.set_cons_succ]
          refine wpAnyH_take (i := 27) (oi := { dst := some 221, op := Go.Op.move (Go.Operand.tmp 220), type := 4, pos := "law.go:99", after := #[{ on := 26, ground := Go.Ground.data }, { on := 20, ground := Go.Ground.chain }], guard := none }) (v := ?vt527) rfl (by kernel_rfl) (by kernel_rfl) (by kernel_rfl) (fun _ _ _ h => h) (Or.inl ⟨by rfl, ?hyt527⟩) hHeld ?_
          case hyt527 => (intro w hSw; (try dsimp only at hSw); go_simp; first | done | with_reducible rfl)
          try simp only [Act.put, List.setIfInBounds_toArray, List.set_cons_zero, List.set_cons_succ]
          refine wpAnyH_take (i := 28) (oi := { dst := some 222, op := Go.Op.move (Go.Operand.tmp 21), type := 3, pos := "law.go:99", after := #[{ on := 27, ground := Go.Ground.guard }], guard := some (27, false) }) (v := ?vt528) rfl (by kernel_rfl) (by kernel_rfl) (by kernel_rfl) (fun _ _ _ h => h) (Or.inl ⟨by rfl, ?hyt528⟩) hHeld ?_
          case hyt528 => (intro w hSw; (try dsimp only at hSw); go_simp; first | done | with_reducible rfl)
          try simp only [Act.put, List.setIfInBounds_toArray, List.set_cons_zero, List.set_cons_succ]
          refine wpAnyH_take (i := 29) (oi := { dst := some 223, op := Go.Op.move (Go.Operand.tmp 0), type := 3, pos := "law.go:99", after := #[{ on := 27, ground := Go.Ground.guard }], guard := some (27, false) }) (v := ?vt529) rfl (by kernel_rfl) (by kernel_rfl) (by kernel_rfl) (fun _ _ _ h => h) (Or.inl ⟨by rfl, ?hyt529⟩) hHeld ?_
          case hyt529 => (intro w hSw; (try dsimp only at hSw); go_simp; first | done | with_reducible rfl)
          try simp only [Act.put, List.setIfInBounds_toArray, List.set_cons_zero, List.set_cons_succ]
          refine wpAnyH_take (i := 30) (oi := { dst := some 224, op := Go.Op.binOp Go.BinOp.neq 3 (Go.Operand.tmp 222) (Go.Operand.tmp 223) 3, type := 4, pos := "law.go:99", after := #[{ on := 28, ground := Go.Ground.data }, { on := 29, ground := Go.Ground.data }, { on := 27, ground := Go.Ground.guard }], guard := some (27, false) }) (v := ?vt530) rfl (by kernel_rfl) (by kernel_rfl) (by kernel_rfl) (fun _ _ _ h => h) (Or.inl ⟨by rfl, ?hyt530⟩) hHeld ?_
          case hyt530 => (intro w hSw; (try dsimp only at hSw); go_simp; first | done | with_reducible rfl)
          try simp only [Act.put, List.setIfInBounds_toArray, List.set_cons_zero, List.set_cons_succ]
          refine wpAnyH_take (i := 31) (oi := { dst := some 225, op := Go.Op.pick (Go.Operand.tmp 221) (Go.Operand.const (Go.Value.bool true)) (Go.Operand.tmp 224), type := 4, pos := "law.go:99", after := #[{ on := 27, ground := Go.Ground.data }, { on := 30, ground := Go.Ground.data }], guard := none }) (v := ?vt531) rfl (by kernel_rfl) (by kernel_rfl) (by kernel_rfl) (fun _ _ _ h => h) (Or.inl ⟨by rfl, ?hyt531⟩) hHeld ?_
          case hyt531 => (intro w hSw; (try dsimp only at hSw); go_simp; first | done | with_reducible rfl)
          try simp only [Act.put, List.setIfInBounds_toArray, List.set_cons_zero, List.set_cons_succ]
          refine wpAnyH_take (i := 32) (oi := { dst := some 226, op := Go.Op.move (Go.Operand.tmp 225), type := 4, pos := "law.go:99", after := #[{ on := 31, ground := Go.Ground.data }, { on := 27, ground := Go.Ground.chain }], guard := none }) (v := ?vt532) rfl (by kernel_rfl) (by kernel_rfl) (by kernel_rfl) (fun _ _ _ h => h) (Or.inl ⟨by rfl, ?hyt532⟩) hHeld ?_
          case hyt532 => (intro w hSw; (try dsimp only at hSw); go_simp; first | done | with_reducible rfl)
          try simp only [Act.put, List.setIfInBounds_toArray, List.set_cons_zero, List.set_cons_succ]
          refine wpAnyH_take (i := 33) (oi := { dst := some 227, op := Go.Op.move (Go.Operand.tmp 22), type := 3, pos := "law.go:99", after := #[{ on := 32, ground := Go.Ground.guard }], guard := some (32, false) }) (v := ?vt533) rfl (by kernel_rfl) (by kernel_rfl) (by kernel_rfl) (fun _ _ _ h => h) (Or.inl ⟨by rfl, ?hyt533⟩) hHeld ?_
          case hyt533 => (intro w hSw; (try dsimp only at hSw); go_simp; first | done | with_reducible rfl)
          try simp only [Act.put, List.setIfInBounds_toArray, List.set_cons_zero, List.set_cons_succ]
          refine wpAnyH_take (i := 34) (oi := { dst := some 228, op := Go.Op.move (Go.Operand.tmp 1), type := 3, pos := "law.go:99", after := #[{ on := 32, ground := Go.Ground.guard }], guard := some (32, false) }) (v := ?vt534) rfl (by kernel_rfl) (by kernel_rfl) (by kernel_rfl) (fun _ _ _ h => h) (Or.inl ⟨by rfl, ?hyt534⟩) hHeld ?_
          case hyt534 => (intro w hSw; (try dsimp only at hSw); go_simp; first | done | with_reducible rfl)
          try simp only [Act.put, List.setIfInBounds_toArray, List.set_cons_zero, List.set_cons_succ]
          refine wpAnyH_take (i := 35) (oi := { dst := some 229, op := Go.Op.binOp Go.BinOp.neq 3 (Go.Operand.tmp 227) (Go.Operand.tmp 228) 3, type := 4, pos := "law.go:99", after := #[{ on := 33, ground := Go.Ground.data }, { on := 34, ground := Go.Ground.data }, { on := 32, ground := Go.Ground.guard }], guard := some (32, false) }) (v := ?vt535) rfl (by kernel_rfl) (by kernel_rfl) (by kernel_rfl) (fun _ _ _ h => h) (Or.inl ⟨by rfl, ?hyt535⟩) hHeld ?_
          case hyt535 => (intro w hSw; (try dsimp only at hSw); go_simp; first | done | with_reducible rfl)
          try simp only [Act.put, List.setIfInBounds_toArray, List.set_cons_zero, List.set_cons_succ]
          refine wpAnyH_take (i := 36) (oi := { dst := some 230, op := Go.Op.pick (Go.Operand.tmp 226) (Go.Operand.const (Go.Value.bool true)) (Go.Operand.tmp 229), type := 4, pos := "law.go:99", after := #[{ on := 32, ground := Go.Ground.data }, { on := 35, ground := Go.Ground.data }], guard := none }) (v := ?vt536) rfl (by kernel_rfl) (by kernel_rfl) (by kernel_rfl) (fun _ _ _ h => h) (Or.inl ⟨by rfl, ?hyt536⟩) hHeld ?_
          case hyt536 => (intro w hSw; (try dsimp only at hSw); go_simp; first | done | with_reducible rfl)
          try simp only [Act.put, List.setIfInBounds_toArray, List.set_cons_zero, List.set_cons_succ]
          refine wpAnyH_done (by kernel_rfl) ?_ _
          go_wp2
          go_loopw [23] (fun i wr => ∃ q : Nat, q ≤ bn ∧ i = .int .i64 q ∧ Fr (fun j => 0 < bn ∧ j = zb) V2 wr ∧ (0 < bn → Row wr zb 5 bn (fun _ => True))) (fun i _ => bn - (intOf i).toNat)
          case atStart => exact ⟨0, Nat.zero_le _, rfl, (Fr.refl _ _).drew, HROW3.out⟩
          case round =>
            obtain ⟨q, hq, rfl, hF, hR⟩ := hrel
            by_cases hqk : q < bn
            · obtain ⟨⟨u, hu, _⟩, hfz⟩ := (hR (by omega)).cell q hqk
              obtain ⟨rfl, _⟩ := HROW2.out (by omega)
              have HF2 := Lib.hid hF
              have HR2 := Lib.hid hR
              clear hF hR
              go_wp2
              go_roundw
              case rel => exact ⟨q + 1, by omega, by go_num, HF2.out.setCell (.inl ⟨by omega, rfl⟩) _, fun h0 => (HR2.out h0).set q _ trivial⟩
              case measure => simp [intOf]; omega
            · have HTN : Hid (Two w wr g r s2 s2 (fun _ => False)) := (HT4.out.frK hF (fun j e => by obtain ⟨_, rfl⟩ := e; exact HZB.out)).less (fun _ h => h.elim)
              clear hF hR
              go_wp2
              go_roundw
              case rel => exact ⟨k + 1, s2, by omega, by go_num, HTN.out, HFI2.out, hde2, HSN2.out, HSB2.out⟩
              case measure => simp [intOf]; omega
      have g0 : (call == 0) = false := by simp; exact q0
      have g2 : (call == 2) = false := by simp; exact q2
      have g3 : (call == 3) = false := by simp; exact q3
      have g4 : (call == 4) = false := by simp; exact q4
      have g5 : (call == 5) = false := by simp; exact q5
      as_aux_lemma =>
        have HT2 : Hid (Two w WB g r s s (fun j => j = zo)) := HT1.out
        have HZ2 := HZ
        have HFI2 := HFI
        have HSN2 := HSN
        have HSB2 := HSB
        have hde2 : s.deeds ≤ k + 1 := by omega
        have tc1 := (op_cells HZ2.out).2.1
        have HZl2 : Hid (zo < WB.heap.size) := (Array.getElem?_eq_some_iff.1 HZ2.out).1
        have HRD := HT2.out.read sec
        obtain ⟨bs2, er2, hrs⟩ : ∃ x y, s.read sec = (x, y) := ⟨_, _, rfl⟩
        have hrl := read_len HT2.out.ok sec
        rw [hrs] at HRD hrl
        have HRL : Hid (bs2.length ≤ 4096) := hrl
        have HRD := Lib.hid HRD
        have HRS := Lib.hid hrs
        clear hrs hrl
        go_wp2_with fail
        refine HRD.out.mono ?_
        rintro e V1 ⟨v, rfl, hv, hb⟩
        obtain ⟨A, bn, rfl, hbn, hrd, hrow⟩ := read_form hv
        obtain ⟨zb, hzb⟩ : ∃ zb, WB.heap.size = zb := ⟨_, rfl⟩
        rw [hzb] at hrow
        have hbn1 : bn ≤ 4096 := by rw [← hbn]; exact HRL.out
        have HT3 : Hid (Two w V1 g r s s (fun j => 0 < bn ∧ j = zb)) := HT2.out.moreK hb (fun j e => .inr (by obtain ⟨e1, rfl⟩ := e; exact ⟨by omega, (hrow e1).2.lt⟩))
        have HZB : Hid (w.heap.size ≤ zb) := by show _ ≤ _; rw [← hzb]; exact HT2.out.bel.size
        have tc2 := (hb.cell (p := ⟨zo, 1, none⟩) HZl2.out).trans tc1
        have HRR := HT3.out.rread (by omega) sec
        rw [HRS.out] at HRR
        have HRR := Lib.hid HRR
        have HSZ := HT3.out.size
        rw [HSN2.out, HSB2.out] at HSZ
        have HSZ := Lib.hid HSZ
        have HRD2 := Lib.hid hrd
        have HROW2 := Lib.hid hrow
        clear b0 b1 b2 b3 b4 c0 c1 c2 c3 c4 hWB hzo
        clear hv hb hbn hrd hrow hzb tc1 HRD HRS HT2 HZ2
        go_wp2_with fail
        refine HRR.out.mono ?_
        rintro e w' ⟨rfl, rfl⟩
        clear tc2 HRR
        go_wp2_with fail
        refine HSZ.out.mono ?_
        rintro e V2 ⟨rfl, kk, hkk⟩
        have hb2 : Below V1.heap.size V1 V2 := by rw [hkk]; exact ⟨rfl, rfl, rfl, Nat.le_refl _, fun _ _ => rfl⟩
        have HT4 := Lib.hid (HT3.out.grow hb2).1
        have HROW3 : Hid (0 < bn → Row V2 zb 5 bn (fun _ => True)) := fun h0 => ((HROW2.out h0).2).keep (hb2.block zb ((HROW2.out h0).2).lt)
        have HST : Hid ((convert 32 9 (.slice A bn bn)).run Try.prog V2.drew = .ok (.string ⟨bs2.toArray⟩) V2.drew) := string_rd V2.drew A bn bn bs2 (HRD2.out.keep hb2).drew
        have HTD := Lib.hid (HT4.out.grow ((Below.refl _ V2).drew)).1
        have HC3 := Lib.hid HTD.out.cells.1
        have HC6 := Lib.hid HTD.out.cells.2
        have HUP := Lib.hid HTD.out.up
        have HDD := Lib.hid HTD.out.deeds
        have hdec := hde2
        obtain ⟨dd, hdd⟩ : ∃ dd, s.deeds = dd := ⟨_, rfl⟩
        obtain ⟨uu, huu⟩ : ∃ uu, s.up = uu := ⟨_, rfl⟩
        rw [hdd] at HC6 HDD
        rw [huu] at HC3 HUP
        clear hb2 hkk HSZ HRD2 hdec hdd huu
        go_wp2_with fail
        refine wp_region_held_drew (S := fun W => (convert 32 9 (.slice A bn bn)).run Try.prog W = .ok (.string ⟨bs2.toArray⟩) W ∧ W.cell? ⟨r, 3, none⟩ = some (.bool uu) ∧ W.cell? ⟨r, 6, none⟩ = some (.int .i64 (dd : Int))) (by kernel_rfl) (⟨HST.out, HC3.out, HC6.out⟩) (fun hHeld => ?_)
        refine wpAnyH_take (i := 0) (oi := { dst := some 194, op := Go.Op.move (Go.Operand.tmp 17), type := 32, pos := "law.go:99", after := #[], guard := none }) (v := ?vto0) rfl (by kernel_rfl) (by kernel_rfl) (by kernel_rfl) (fun _ _ _ h => h) (Or.inl ⟨by rfl, ?hyto0⟩) hHeld ?_
        case hyto0 => (intro w hSw; (try dsimp only at hSw); go_simp; first | done | with_reducible rfl)
        try simp only [Act.put, List.setIfInBounds_toArray, List.set_cons_zero, List.set_cons_succ]
        refine wpAnyH_take (i := 1) (oi := { dst := some 195, op := Go.Op.convert 32 9 (Go.Operand.tmp 194), type := 9, pos := "law.go:99", after := #[{ on := 0, ground := Go.Ground.data }], guard := none }) (v := ?vto1) rfl (by kernel_rfl) (by kernel_rfl) (by kernel_rfl) (fun _ _ _ h => h) (Or.inl ⟨by rfl, ?hyto1⟩) hHeld ?_
        case hyto1 => (intro w hSw; (try dsimp only at hSw); go_simp; first | done | with_reducible rfl)
        try simp only [Act.put, List.setIfInBounds_toArray, List.set_cons_zero, List.set_cons_succ]
        refine wpAnyH_take (i := 2) (oi := { dst := some 196, op := Go.Op.move (Go.Operand.tmp 19), type := 9, pos := "law.go:99", after := #[], guard := none }) (v := ?vto2) rfl (by kernel_rfl) (by kernel_rfl) (by kernel_rfl) (fun _ _ _ h => h) (Or.inl ⟨by rfl, ?hyto2⟩) hHeld ?_
        case hyto2 => (intro w hSw; (try dsimp only at hSw); go_simp; first | done | with_reducible rfl)
        try simp only [Act.put, List.setIfInBounds_toArray, List.set_cons_zero, List.set_cons_succ]
        refine wpAnyH_take (i := 3) (oi := { dst := some 197, op := Go.Op.binOp Go.BinOp.neq 9 (Go.Operand.tmp 195) (Go.Operand.tmp 196) 9, type := 4, pos := "law.go:99", after := #[{ on := 1, ground := Go.Ground.data }, { on := 2, ground := Go.Ground.data }], guard := none }) (v := ?vto3) rfl (by kernel_rfl) (by kernel_rfl) (by kernel_rfl) (fun _ _ _ h => h) (Or.inl ⟨by rfl, ?hyto3⟩) hHeld ?_
        case hyto3 => (intro w hSw; (try dsimp only at hSw); go_simp; first | done | with_reducible rfl)
        try simp only [Act.put, List.setIfInBounds_toArray, List.set_cons_zero, List.set_cons_succ]
        refine wpAnyH_take (i := 4) (oi := { dst := some 198, op := Go.Op.move (Go.Operand.tmp 197), type := 4, pos := "law.go:99", after := #[{ on := 3, ground := Go.Ground.data }], guard := none }) (v := ?vto4) rfl (by kernel_rfl) (by kernel_rfl) (by kernel_rfl) (fun _ _ _ h => h) (Or.inl ⟨by rfl, ?hyto4⟩) hHeld ?_
        case hyto4 => (intro w hSw; (try dsimp only at hSw); go_simp; first | done | with_reducible rfl)
        try simp only [Act.put, List.setIfInBounds_toArray, List.set_cons_zero, List.set_cons_succ]
        refine wpAnyH_take (i := 5) (oi := { dst := some 199, op := Go.Op.move (Go.Operand.tmp 18), type := 26, pos := "law.go:99", after := #[{ on := 4, ground := Go.Ground.guard }], guard := some (4, false) }) (v := ?vto5) rfl (by kernel_rfl) (by kernel_rfl) (by kernel_rfl) (fun _ _ _ h => h) (Or.inl ⟨by rfl, ?hyto5⟩) hHeld ?_
        case hyto5 => (intro w hSw; (try dsimp only at hSw); go_simp; first | done | with_reducible rfl)
        try simp only [Act.put, List.setIfInBounds_toArray, List.set_cons_zero, List.set_cons_succ]
        refine wpAnyH_take (i := 6) (oi := { dst := some 200, op := Go.Op.move (Go.Operand.tmp 20), type := 26, pos := "law.go:99", after := #[{ on := 4, ground := Go.Ground.guard }], guard := some (4, false) }) (v := ?vto6) rfl (by kernel_rfl) (by kernel_rfl) (by kernel_rfl) (fun _ _ _ h => h) (Or.inl ⟨by rfl, ?hyto6⟩) hHeld ?_
        case hyto6 => (intro w hSw; (try dsimp only at hSw); go_simp; first | done | with_reducible rfl)
        try simp only [Act.put, List.setIfInBounds_toArray, List.set_cons_zero, List.set_cons_succ]
        refine wpAnyH_take (i := 7) (oi := { dst := some 201, op := Go.Op.binOp Go.BinOp.neq 26 (Go.Operand.tmp 199) (Go.Operand.tmp 200) 26, type := 4, pos := "law.go:99", after := #[{ on := 5, ground := Go.Ground.data }, { on := 6, ground := Go.Ground.data }, { on := 4, ground := Go.Ground.guard }], guard := some (4, false) }) (v := ?vto7) rfl (by kernel_rfl) (by kernel_rfl) (by kernel_rfl) (fun _ _ _ h => h) (Or.inl ⟨by rfl, ?hyto7⟩) hHeld ?_
        case hyto7 => (intro w hSw; (try dsimp only at hSw); go_simp; first | done | with_reducible rfl)
        try simp only [Act.put, List.setIfInBounds_toArray, List.set_cons_zero, List.set_cons_succ]
        refine wpAnyH_take (i := 8) (oi := { dst := some 202, op := Go.Op.pick (Go.Operand.tmp 198) (Go.Operand.const (Go.Value.bool true)) (Go.Operand.tmp 201), type := 4, pos := "law.go:99", after := #[{ on := 4, ground := Go.Ground.data }, { on := 7, ground := Go.Ground.data }], guard := none }) (v := ?vto8) rfl (by kernel_rfl) (by kernel_rfl) (by kernel_rfl) (fun _ _ _ h => h) (Or.inl ⟨by rfl, ?hyto8⟩) hHeld ?_
        case hyto8 => (intro w hSw; (try dsimp only at hSw); go_simp; first | done | with_reducible rfl)
        try simp only [Act.put, List.setIfInBounds_toArray, List.set_cons_zero, List.set_cons_succ]
        refine wpAnyH_take (i := 9) (oi := { dst := some 203, op := Go.Op.move (Go.Operand.tmp 202), type := 4, pos := "law.go:99", after := #[{ on := 8, ground := Go.Ground.data }, { on := 4, ground := Go.Ground.chain }], guard := none }) (v := ?vto9) rfl (by kernel_rfl) (by kernel_rfl) (by kernel_rfl) (fun _ _ _ h => h) (Or.inl ⟨by rfl, ?hyto9⟩) hHeld ?_
        case hyto9 => (intro w hSw; (try dsimp only at hSw); go_simp; first | done | with_reducible rfl)
        try simp only [Act.put, List.setIfInBounds_toArray, List.set_cons_zero, List.set_cons_succ]
        refine wpAnyH_take (i := 10) (oi := { dst := some 204, op := Go.Op.move (Go.Operand.tmp 7), type := 25, pos := "law.go:99", after := #[{ on := 9, ground := Go.Ground.guard }], guard := some (9, false) }) (v := ?vto10) rfl (by kernel_rfl) (by kernel_rfl) (by kernel_rfl) (fun _ _ _ h => h) (Or.inl ⟨by rfl, ?hyto10⟩) hHeld ?_
        case hyto10 => (intro w hSw; (try dsimp only at hSw); go_simp; first | done | with_reducible rfl)
        try simp only [Act.put, List.setIfInBounds_toArray, List.set_cons_zero, List.set_cons_succ]
        refine wpAnyH_take (i := 12) (oi := { dst := some 206, op := Go.Op.move (Go.Operand.tmp 9), type := 30, pos := "law.go:99", after := #[{ on := 9, ground := Go.Ground.guard }], guard := some (9, false) }) (v := ?vto12) rfl (by kernel_rfl) (by kernel_rfl) (by kernel_rfl) (fun _ _ _ h => h) (Or.inl ⟨by rfl, ?hyto12⟩) hHeld ?_
        case hyto12 => (intro w hSw; (try dsimp only at hSw); go_simp; first | done | with_reducible rfl)
        try simp only [Act.put, List.setIfInBounds_toArray, List.set_cons_zero, List.set_cons_succ]
        refine wpAnyH_take (i := 13) (oi := { dst := some 207, op := Go.Op.nilCheck (Go.Operand.tmp 206), type := 0, pos := "law.go:99", after := #[{ on := 12, ground := Go.Ground.data }, { on := 9, ground := Go.Ground.guard }], guard := some (9, false) }) (v := ?vto13) rfl (by kernel_rfl) (by kernel_rfl) (by kernel_rfl) (fun _ _ _ h => h) (Or.inl ⟨by rfl, ?hyto13⟩) hHeld ?_
        case hyto13 => (intro w hSw; (try dsimp only at hSw); go_simp; first | done | with_reducible rfl)
        try simp only [Act.put, List.setIfInBounds_toArray, List.set_cons_zero, List.set_cons_succ]
        refine wpAnyH_take (i := 14) (oi := { dst := some 208, op := Go.Op.fieldAddr 49 (Go.Operand.tmp 207) 3, type := 0, pos := "law.go:99", after := #[{ on := 13, ground := Go.Ground.data }, { on := 9, ground := Go.Ground.guard }], guard := some (9, false) }) (v := ?vto14) rfl (by kernel_rfl) (by kernel_rfl) (by kernel_rfl) (fun _ _ _ h => h) (Or.inl ⟨by rfl, ?hyto14⟩) hHeld ?_
        case hyto14 => (intro w hSw; (try dsimp only at hSw); go_simp; first | done | with_reducible rfl)
        try simp only [Act.put, List.setIfInBounds_toArray, List.set_cons_zero, List.set_cons_succ]
        refine wpAnyH_take (i := 15) (oi := { dst := some 209, op := Go.Op.load 4 (Go.Operand.tmp 208), type := 4, pos := "law.go:99", after := #[{ on := 14, ground := Go.Ground.data }, { on := 9, ground := Go.Ground.guard }], guard := some (9, false) }) (v := ?vto15) rfl (by kernel_rfl) (by kernel_rfl) (by kernel_rfl) (fun _ _ _ h => h) (Or.inl ⟨by rfl, ?hyto15⟩) hHeld ?_
        case hyto15 => (intro w hSw; (try dsimp only at hSw); go_simp; first | done | with_reducible rfl)
        try simp only [Act.put, List.setIfInBounds_toArray, List.set_cons_zero, List.set_cons_succ]
        refine wpAnyH_ready (rs := [11]) (by kernel_rfl) (by simp) ?_
        refine AllReadyH.cons (o := { dst := some 205, op := Go.Op.call { callee := Go.Callee.value (Go.Operand.func 26), args := #[Go.Operand.tmp 204], argTypes := #[25] }, type := 4, pos := "law.go:99", after := #[{ on := 10, ground := Go.Ground.data }, { on := 9, ground := Go.Ground.chain }, { on := 9, ground := Go.Ground.guard }], guard := some (9, false) }) rfl (fun K hK => ?_) AllReadyH.nil
        go_simp
        refine HUP.out.mono ?_
        rintro e w' ⟨rfl, rfl⟩
        go_wp2_with fail
        refine hK.out _ _ (⟨HST.out, HC3.out, HC6.out⟩) (fun hHeld => ?_)
        clear hK K
        try simp only [Act.put, List.setIfInBounds_toArray, List.set_cons_zero, List.set_cons_succ]
        refine wpAnyH_take (i := 16) (oi := { dst := some 210, op := Go.Op.binOp Go.BinOp.neq 4 (Go.Operand.tmp 205) (Go.Operand.tmp 209) 4, type := 4, pos := "law.go:99", after := #[{ on := 11, ground := Go.Ground.data }, { on := 15, ground := Go.Ground.data }, { on := 9, ground := Go.Ground.guard }], guard := some (9, false) }) (v := ?vto16) rfl (by kernel_rfl) (by kernel_rfl) (by kernel_rfl) (fun _ _ _ h => h) (Or.inl ⟨by rfl, ?hyto16⟩) hHeld ?_
        case hyto16 => (intro w hSw; (try dsimp only at hSw); go_simp; first | done | with_reducible rfl)
        try simp only [Act.put, List.setIfInBounds_toArray, List.set_cons_zero, List.set_cons_succ]
        refine wpAnyH_take (i := 17) (oi := { dst := some 211, op := Go.Op.pick (Go.Operand.tmp 203) (Go.Operand.const (Go.Value.bool true)) (Go.Operand.tmp 210), type := 4, pos := "law.go:99", after := #[{ on := 9, ground := Go.Ground.data }, { on := 16, ground := Go.Ground.data }], guard := none }) (v := ?vto17) rfl (by kernel_rfl) (by kernel_rfl) (by kernel_rfl) (fun _ _ _ h => h) (Or.inl ⟨by rfl, ?hyto17⟩) hHeld ?_
        case hyto17 => (intro w hSw; (try dsimp only at hSw); go_simp; first | done | with_reducible rfl)
        try simp only [Act.put, List.setIfInBounds_toArray, List.set_cons_zero, List.set_cons_succ]
        refine wpAnyH_take (i := 18) (oi := { dst := some 212, op := Go.Op.move (Go.Operand.tmp 211), type := 4, pos := "law.go:99", after := #[{ on := 17, ground := Go.Ground.data }, { on := 11, ground := Go.Ground.chain }], guard := none }) (v := ?vto18) rfl (by kernel_rfl) (by kernel_rfl) (by kernel_rfl) (fun _ _ _ h => h) (Or.inl ⟨by rfl, ?hyto18⟩) hHeld ?_
        case hyto18 => (intro w hSw; (try dsimp only at hSw); go_simp; first | done | with_reducible rfl)
        try simp only [Act.put, List.setIfInBounds_toArray, List.set_cons_zero, List.set_cons_succ]
        refine wpAnyH_take (i := 19) (oi := { dst := some 213, op := Go.Op.move (Go.Operand.tmp 7), type := 25, pos := "law.go:99", after := #[{ on := 18, ground := Go.Ground.guard }], guard := some (18, false) }) (v := ?vto19) rfl (by kernel_rfl) (by kernel_rfl) (by kernel_rfl) (fun _ _ _ h => h) (Or.inl ⟨by rfl, ?hyto19⟩) hHeld ?_
        case hyto19 => (intro w hSw; (try dsimp only at hSw); go_simp; first | done | with_reducible rfl)
        try simp only [Act.put, List.setIfInBounds_toArray, List.set_cons_zero, List.set_cons_succ]
        refine wpAnyH_take (i := 21) (oi := { dst := some 215, op := Go.Op.move (Go.Operand.tmp 9), type := 30, pos := "law.go:99", after := #[{ on := 18, ground := Go.Ground.guard }], guard := some (18, false) }) (v := ?vto21) rfl (by kernel_rfl) (by kernel_rfl) (by kernel_rfl) (fun _ _ _ h => h) (Or.inl ⟨by rfl, ?hyto21⟩) hHeld ?_
        case hyto21 => (intro w hSw; (try dsimp only at hSw); go_simp; first | done | with_reducible rfl)
        try simp only [Act.put, List.setIfInBounds_toArray, List.set_cons_zero, List.set_cons_succ]
        refine wpAnyH_take (i := 22) (oi := { dst := some 216, op := Go.Op.nilCheck (Go.Operand.tmp 215), type := 0, pos := "law.go:99", after := #[{ on := 21, ground := Go.Ground.data }, { on := 18, ground := Go.Ground.guard }], guard := some (18, false) }) (v := ?vto22) rfl (by kernel_rfl) (by kernel_rfl) (by kernel_rfl) (fun _ _ _ h => h) (Or.inl ⟨by rfl, ?hyto22⟩) hHeld ?_
        case hyto22 => (intro w hSw; (try dsimp only at hSw); go_simp; first | done | with_reducible rfl)
        try simp only [Act.put, List.setIfInBounds_toArray, List.set_cons_zero, List.set_cons_succ]
        refine wpAnyH_take (i := 23) (oi := { dst := some 217, op := Go.Op.fieldAddr 49 (Go.Operand.tmp 216) 6, type := 0, pos := "law.go:99", after := #[{ on := 22, ground := Go.Ground.data }, { on := 18, ground := Go.Ground.guard }], guard := some (18, false) }) (v := ?vto23) rfl (by kernel_rfl) (by kernel_rfl) (by kernel_rfl) (fun _ _ _ h => h) (Or.inl ⟨by rfl, ?hyto23⟩) hHeld ?_
        case hyto23 => (intro w hSw; (try dsimp only at hSw); go_simp; first | done | with_reducible rfl)
        try simp only [Act.put, List.setIfInBounds_toArray, List.set_cons_zero, List.set_cons_succ]
        refine wpAnyH_take (i := 24) (oi := { dst := some 218, op := Go.Op.load 3 (Go.Operand.tmp 217), type := 3, pos := "law.go:99", after := #[{ on := 23, ground := Go.Ground.data }, { on := 18, ground := Go.Ground.guard }], guard := some (18, false) }) (v := ?vto24) rfl (by kernel_rfl) (by kernel_rfl) (by kernel_rfl) (fun _ _ _ h => h) (Or.inl ⟨by rfl, ?hyto24⟩) hHeld ?_
        case hyto24 => (intro w hSw; (try dsimp only at hSw); go_simp; first | done | with_reducible rfl)
        try simp only [Act.put, List.setIfInBounds_toArray, List.set_cons_zero, List.set_cons_succ]
        refine wpAnyH_ready (rs := [20]) (by kernel_rfl) (by simp) ?_
        refine AllReadyH.cons (o := { dst := some 214, op := Go.Op.call { callee := Go.Callee.value (Go.Operand.func 27), args := #[Go.Operand.tmp 213], argTypes := #[25] }, type := 3, pos := "law.go:99", after := #[{ on := 19, ground := Go.Ground.data }, { on := 18, ground := Go.Ground.chain }, { on := 18, ground := Go.Ground.guard }], guard := some (18, false) }) rfl (fun K hK => ?_) AllReadyH.nil
        go_simp
        refine HDD.out.mono ?_
        rintro e w' ⟨rfl, rfl⟩
        go_wp2_with fail
        refine hK.out _ _ (⟨HST.out, HC3.out, HC6.out⟩) (fun hHeld => ?_)
        clear hK K
        try simp only [Act.put, List.setIfInBounds_toArray, List.set_cons_zero, List.set_cons_succ]
        refine wpAnyH_take (i := 25) (oi := { dst := some 219, op := Go.Op.binOp Go.BinOp.neq 3 (Go.Operand.tmp 214) (Go.Operand.tmp 218) 3, type := 4, pos := "law.go:99", after := #[{ on := 20, ground := Go.Ground.data }, { on := 24, ground := Go.Ground.data }, { on := 18, ground := Go.Ground.guard }], guard := some (18, false) }) (v := ?vto25) rfl (by kernel_rfl) (by kernel_rfl) (by kernel_rfl) (fun _ _ _ h => h) (Or.inl ⟨by rfl, ?hyto25⟩) hHeld ?_
        case hyto25 => (intro w hSw; (try dsimp only at hSw); go_simp; first | done | with_reducible rfl)
        try simp only [Act.put, List.setIfInBounds_toArray, List.set_cons_zero, List.set_cons_succ]
        refine wpAnyH_take (i := 26) (oi := { dst := some 220, op := Go.Op.pick (Go.Operand.tmp 212) (Go.Operand.const (Go.Value.bool true)) (Go.Operand.tmp 219), type := 4, pos := "law.go:99", after := #[{ on := 18, ground := Go.Ground.data }, { on := 25, ground := Go.Ground.data }], guard := none }) (v := ?vto26) rfl (by kernel_rfl) (by kernel_rfl) (by kernel_rfl) (fun _ _ _ h => h) (Or.inl ⟨by rfl, ?hyto26⟩) hHeld ?_
        case hyto26 => (intro w hSw; (try dsimp only at hSw); go_simp; first | done | with_reducible rfl)
        try simp only [Act.put, List.setIfInBounds_toArray, List.set_cons_zero, List.set_cons_succ]
        refine wpAnyH_take (i := 27) (oi := { dst := some 221, op := Go.Op.move (Go.Operand.tmp 220), type := 4, pos := "law.go:99", after := #[{ on := 26, ground := Go.Ground.data }, { on := 20, ground := Go.Ground.chain }], guard := none }) (v := ?vto27) rfl (by kernel_rfl) (by kernel_rfl) (by kernel_rfl) (fun _ _ _ h => h) (Or.inl ⟨by rfl, ?hyto27⟩) hHeld ?_
        case hyto27 => (intro w hSw; (try dsimp only at hSw); go_simp; first | done | with_reducible rfl)
        try simp only [Act.put, List.setIfInBounds_toArray, List.set_cons_zero, List.set_cons_succ]
        refine wpAnyH_take (i := 28) (oi := { dst := some 222, op := Go.Op.move (Go.Operand.tmp 21), type := 3, pos := "law.go:99", after := #[{ on := 27, ground := Go.Ground.guard }], guard := some (27, false) }) (v := ?vto28) rfl (by kernel_rfl) (by kernel_rfl) (by kernel_rfl) (fun _ _ _ h => h) (Or.inl ⟨by rfl, ?hyto28⟩) hHeld ?_
        case hyto28 => (intro w hSw; (try dsimp only at hSw); go_simp; first | done | with_reducible rfl)
        try simp only [Act.put, List.setIfInBounds_toArray, List.set_cons_zero, List.set_cons_succ]
        refine wpAnyH_take (i := 29) (oi := { dst := some 223, op := Go.Op.move (Go.Operand.tmp 0), type := 3, pos := "law.go:99", after := #[{ on := 27, ground := Go.Ground.guard }], guard := some (27, false) }) (v := ?vto29) rfl (by kernel_rfl) (by kernel_rfl) (by kernel_rfl) (fun _ _ _ h => h) (Or.inl ⟨by rfl, ?hyto29⟩) hHeld ?_
        case hyto29 => (intro w hSw; (try dsimp only at hSw); go_simp; first | done | with_reducible rfl)
        try simp only [Act.put, List.setIfInBounds_toArray, List.set_cons_zero, List.set_cons_succ]
        refine wpAnyH_take (i := 30) (oi := { dst := some 224, op := Go.Op.binOp Go.BinOp.neq 3 (Go.Operand.tmp 222) (Go.Operand.tmp 223) 3, type := 4, pos := "law.go:99", after := #[{ on := 28, ground := Go.Ground.data }, { on := 29, ground := Go.Ground.data }, { on := 27, ground := Go.Ground.guard }], guard := some (27, false) }) (v := ?vto30) rfl (by kernel_rfl) (by kernel_rfl) (by kernel_rfl) (fun _ _ _ h => h) (Or.inl ⟨by rfl, ?hyto30⟩) hHeld ?_
        case hyto30 => (intro w hSw; (try dsimp only at hSw); go_simp; first | done | with_reducible rfl)
        try simp only [Act.put, List.setIfInBounds_toArray, List.set_cons_zero, List.set_cons_succ]
        refine wpAnyH_take (i := 31) (oi := { dst := some 225, op := Go.Op.pick (Go.Operand.tmp 221) (Go.Operand.const (Go.Value.bool true)) (Go.Operand.tmp 224), type := 4, pos := "law.go:99", after := #[{ on := 27, ground := Go.Ground.data }, { on := 30, ground := Go.Ground.data }], guard := none }) (v := ?vto31) rfl (by kernel_rfl) (by kernel_rfl) (by kernel_rfl) (fun _ _ _ h => h) (Or.inl ⟨by rfl, ?hyto31⟩) hHeld ?_
        case hyto31 => (intro w hSw; (try dsimp only at hSw); go_simp; first | done | with_reducible rfl)
        try simp only [Act.put, List.setIfInBounds_toArray, List.set_cons_zero, List.set_cons_succ]
        refine wpAnyH_take (i := 32) (oi := { dst := some 226, op := Go.Op.move (Go.Operand.tmp 225), type := 4, pos := "law.go:99", after := #[{ on := 31, ground := Go.Ground.data }, { on := 27, ground := Go.Ground.chain }], guard := none }) (v := ?vto32) rfl (by kernel_rfl) (by kernel_rfl) (by kernel_rfl) (fun _ _ _ h => h) (Or.inl ⟨by rfl, ?hyto32⟩) hHeld ?_
        case hyto32 => (intro w hSw; (try dsimp only at hSw); go_simp; first | done | with_reducible rfl)
        try simp only [Act.put, List.setIfInBounds_toArray, List.set_cons_zero, List.set_cons_succ]
        refine wpAnyH_take (i := 33) (oi := { dst := some 227, op := Go.Op.move (Go.Operand.tmp 22), type := 3, pos := "law.go:99", after := #[{ on := 32, ground := Go.Ground.guard }], guard := some (32, false) }) (v := ?vto33) rfl (by kernel_rfl) (by kernel_rfl) (by kernel_rfl) (fun _ _ _ h => h) (Or.inl ⟨by rfl, ?hyto33⟩) hHeld ?_
        case hyto33 => (intro w hSw; (try dsimp only at hSw); go_simp; first | done | with_reducible rfl)
        try simp only [Act.put, List.setIfInBounds_toArray, List.set_cons_zero, List.set_cons_succ]
        refine wpAnyH_take (i := 34) (oi := { dst := some 228, op := Go.Op.move (Go.Operand.tmp 1), type := 3, pos := "law.go:99", after := #[{ on := 32, ground := Go.Ground.guard }], guard := some (32, false) }) (v := ?vto34) rfl (by kernel_rfl) (by kernel_rfl) (by kernel_rfl) (fun _ _ _ h => h) (Or.inl ⟨by rfl, ?hyto34⟩) hHeld ?_
        case hyto34 => (intro w hSw; (try dsimp only at hSw); go_simp; first | done | with_reducible rfl)
        try simp only [Act.put, List.setIfInBounds_toArray, List.set_cons_zero, List.set_cons_succ]
        refine wpAnyH_take (i := 35) (oi := { dst := some 229, op := Go.Op.binOp Go.BinOp.neq 3 (Go.Operand.tmp 227) (Go.Operand.tmp 228) 3, type := 4, pos := "law.go:99", after := #[{ on := 33, ground := Go.Ground.data }, { on := 34, ground := Go.Ground.data }, { on := 32, ground := Go.Ground.guard }], guard := some (32, false) }) (v := ?vto35) rfl (by kernel_rfl) (by kernel_rfl) (by kernel_rfl) (fun _ _ _ h => h) (Or.inl ⟨by rfl, ?hyto35⟩) hHeld ?_
        case hyto35 => (intro w hSw; (try dsimp only at hSw); go_simp; first | done | with_reducible rfl)
        try simp only [Act.put, List.setIfInBounds_toArray, List.set_cons_zero, List.set_cons_succ]
        refine wpAnyH_take (i := 36) (oi := { dst := some 230, op := Go.Op.pick (Go.Operand.tmp 226) (Go.Operand.const (Go.Value.bool true)) (Go.Operand.tmp 229), type := 4, pos := "law.go:99", after := #[{ on := 32, ground := Go.Ground.data }, { on := 35, ground := Go.Ground.data }], guard := none }) (v := ?vto36) rfl (by kernel_rfl) (by kernel_rfl) (by kernel_rfl) (fun _ _ _ h => h) (Or.inl ⟨by rfl, ?hyto36⟩) hHeld ?_
        case hyto36 => (intro w hSw; (try dsimp only at hSw); go_simp; first | done | with_reducible rfl)
        try simp only [Act.put, List.setIfInBounds_toArray, List.set_cons_zero, List.set_cons_succ]
        refine wpAnyH_done (by kernel_rfl) ?_ _
        go_wp2
        go_loopw [23] (fun i wr => ∃ q : Nat, q ≤ bn ∧ i = .int .i64 q ∧ Fr (fun j => 0 < bn ∧ j = zb) V2 wr ∧ (0 < bn → Row wr zb 5 bn (fun _ => True))) (fun i _ => bn - (intOf i).toNat)
        case atStart => exact ⟨0, Nat.zero_le _, rfl, (Fr.refl _ _).drew, HROW3.out⟩
        case round =>
          obtain ⟨q, hq, rfl, hF, hR⟩ := hrel
          by_cases hqk : q < bn
          · obtain ⟨⟨u, hu, _⟩, hfz⟩ := (hR (by omega)).cell q hqk
            obtain ⟨rfl, _⟩ := HROW2.out (by omega)
            have HF2 := Lib.hid hF
            have HR2 := Lib.hid hR
            clear hF hR
            go_wp2
            go_roundw
            case rel => exact ⟨q + 1, by omega, by go_num, HF2.out.setCell (.inl ⟨by omega, rfl⟩) _, fun h0 => (HR2.out h0).set q _ trivial⟩
            case measure => simp [intOf]; omega
          · have HTN : Hid (Two w wr g r s s (fun _ => False)) := (HT4.out.frK hF (fun j e => by obtain ⟨_, rfl⟩ := e; exact HZB.out)).less (fun _ h => h.elim)
            clear hF hR
            go_wp2
            go_roundw
            case rel => exact ⟨k + 1, s, by omega, by go_num, HTN.out, HFI2.out, hde2, HSN2.out, HSB2.out⟩
            case measure => simp [intOf]; omega
    · obtain rfl : k = len2 := by omega
      clear HO HFW
      have H1 := Lib.hid HT.out.on
      have HDE : Hid (s.on.deeds < 900000) := by show s.deeds < _; omega
      clear hT hfi hsn hsb hde
      go_wp2_with fail
      refine H1.out.mono ?_
      rintro e W1 ⟨⟨v, rfl⟩, hT1, _⟩
      have H2 := Lib.hid hT1.ron
      clear hT1 H1
      go_wp2_with fail
      refine H2.out.mono ?_
      rintro e W2 ⟨⟨v2, rfl⟩, hT2, _⟩
      have HTE := Lib.hid hT2
      clear hT2 H2
      have HSR : Hid (∀ j : Nat, j < n → ∃ x, s.on.read (j : Int) = (x, 0)) := fun j hj => ⟨_, on_read s j (by rw [HSN.out]; exact hj)⟩
      obtain ⟨s3, hs3⟩ : ∃ s3, s.on = s3 := ⟨_, rfl⟩
      rw [hs3] at HTE HSR HDE
      clear hs3
      go_wp2
      go_loopw [24] (fun i wr => ∃ j : Nat, j ≤ n ∧ i = .int .i64 j ∧ Two w wr g r s3 s3 (fun _ => False)) (fun i _ => n - (intOf i).toNat)
      case atStart => exact ⟨0, Nat.zero_le _, rfl, HTE.out⟩
      case round =>
        obtain ⟨j, hj, rfl, hTj⟩ := hrel
        by_cases hjn : j < n
        · obtain ⟨x, hx⟩ := HSR.out j hjn
          have H1 := hTj.read (j : Int)
          rw [hx] at H1
          have H1 := Lib.hid H1
          have HTj := Lib.hid hTj
          have HX := Lib.hid hx
          clear hTj hx
          go_wp2_with fail
          refine H1.out.mono ?_
          rintro e V1 ⟨v, rfl, hv, hb⟩
          obtain ⟨A, bn, rfl, hbn, hrd, _⟩ := read_form hv
          have HT2 := Lib.hid (HTj.out.grow hb).1
          have H2 := HT2.out.rread HDE.out (j : Int)
          rw [HX.out] at H2
          have H2 := Lib.hid H2
          have hst := string_rd V1 A bn bn x hrd
          clear hv hb hbn hrd
          go_wp2_with fail
          refine H2.out.mono ?_
          rintro e w' ⟨rfl, rfl⟩
          go_wp2
          go_roundw
          case rel => exact ⟨j + 1, by omega, by go_num, HT2.out⟩
          case measure => simp [intOf]; omega
        · have HBE := Lib.hid hTj.bel
          clear hTj
          go_wp2_with fail
          refine (awake_any wr).mono ?_
          rintro e V1 ⟨rfl, hb⟩
          go_wp2
          go_ret
          exact ⟨rfl, HBE.out.trans (hb.mono HBE.out.size)⟩

set_option maxRecDepth 100000 in
set_option maxHeartbeats 4000000 in
theorem walk (a0 : Int) (a1 : Int) (a2 : Option Addr) (len2 cap2 : Nat) (w : World) (w0 : (Lit.int .i64 a0).wf = true) (w1 : (Lit.int .i64 a1).wf = true) (w2 : IsO w a2 len2 cap2) :
    Calls Try.prog 3 #[.int .i64 a0, .int .i64 a1, .slice a2 len2 cap2] w fun e w' => e = .returned (.bool true) ∧ Below w.heap.size w w' := by
  have b0 := bounds_i64 w0
  have b1 := bounds_i64 w1
  have HO := Lib.hid w2
  have HF := Lib.hid (few_any w a2 len2 cap2 w2)
  have HM : Hid (∀ w, _) := fun w => May_any w a0 a1
  clear w2
  cases hmay : may a0 a1
  · rw [hmay] at HM
    have HN := Lib.hid (New_no a0 a1 (fun h => by rw [show may a0 a1 = true from by simp [may]; omega] at hmay; cases hmay) w)
    go_enter Try.func3, Try.ntmps3
    go_wp2_with fail
    refine HF.out.mono ?_
    rintro e w' ⟨rfl | ⟨rfl, hfew⟩, rfl⟩
    · go_wp2
      go_ret
      exact ⟨rfl, Below.refl _ _⟩
    · go_wp2_with fail
      refine (HM.out _).mono ?_
      rintro e w' ⟨rfl, rfl⟩
      go_wp2_with fail
      refine HN.out.mono ?_
      rintro e w' ⟨rfl, rfl⟩
      go_wp2_with fail
      refine (HM.out _).mono ?_
      rintro e w' ⟨rfl, rfl⟩
      go_wp2_with fail
      refine (awake_any w).mono ?_
      rintro e w1 ⟨rfl, hb⟩
      go_wp2
      go_ret
      exact ⟨rfl, hb⟩
  · rw [hmay] at HM
    have hmm : 1 ≤ a0 ∧ a0 ≤ 65536 ∧ 16 ≤ a1 ∧ a1 ≤ 4096 := by
      simp [may] at hmay
      omega
    obtain ⟨n, rfl⟩ := Int.eq_ofNat_of_zero_le (show 0 ≤ a0 by omega)
    obtain ⟨m, rfl⟩ := Int.eq_ofNat_of_zero_le (show 0 ≤ a1 by omega)
    have hn0 : 1 ≤ n := by omega
    have hm0 : 16 ≤ m := by omega
    clear hmay
    by_cases hbig : 30 < n
    · go_enter Try.func3, Try.ntmps3
      go_wp2_with fail
      refine HF.out.mono ?_
      rintro e w' ⟨rfl | ⟨rfl, hfew⟩, rfl⟩
      · go_wp2
        go_ret
        exact ⟨rfl, Below.refl _ _⟩
      · go_wp2_with fail
        refine (HM.out _).mono ?_
        rintro e w' ⟨rfl, rfl⟩
        go_wp2
        go_ret
        exact ⟨rfl, Below.refl _ _⟩
    by_cases hbig2 : 100 < m
    · go_enter Try.func3, Try.ntmps3
      go_wp2_with fail
      refine HF.out.mono ?_
      rintro e w' ⟨rfl | ⟨rfl, hfew⟩, rfl⟩
      · go_wp2
        go_ret
        exact ⟨rfl, Below.refl _ _⟩
      · go_wp2_with fail
        refine (HM.out _).mono ?_
        rintro e w' ⟨rfl, rfl⟩
        go_wp2
        go_ret
        exact ⟨rfl, Below.refl _ _⟩
    exact walkGood n m a2 len2 cap2 w HO.out HF.out HM.out hn0 (by omega) hm0 (by omega)

set_option maxRecDepth 100000 in
theorem lifted (os : Os) (started : os.Started) (H : Type) (enc : TypeId × Value → H) :
    ReturnsInHanded {} Try.checked os 3 .any (Rows.diskDoesSpec.pre6 enc Try.prog Try.f3 Rows.diskDoesRow.domain false) (Rows.diskDoesSpec.post enc Try.prog Try.f3 false true false false) := by
  refine returnsInHanded_of_change (C := Try.checked) own started (by kernel_rfl) Try.func3
    (ChangeSpec.witness6 (enc := enc) (C := Try.checked) false ⟨#[], #[.int .i64 0, .int .i64 0, .slice none 0 0], []⟩ 8 (by kernel_rfl) (by kernel_rfl) (by kernel_rfl) (by kernel_rfl)) ?_
  intro W base args ds gs before hval0 hW hcnd _
  have hval : ∀ (j : Nat) t v, Try.f3.params[j]? = some t → args[j]? = some v → Value.okWide Try.prog W .any base t v := hval0
  have hW' := hW
  obtain ⟨p, q, hA0, hV, rfl, hfz, hnd⟩ := hW
  have hA : DataW.TrodAll enc Try.prog W 0 (fun _ => true) true Try.f3.params.toList args.toList ds p := hA0
  rw [Try.params3] at hA hval
  obtain ⟨v0, vs0, d0, ds0, p0, q0, hargs, rfl, rfl, h0, r0⟩ := trodAll_cons hA
  obtain ⟨v1, vs1, d1, ds1, p1, q1, rfl, rfl, rfl, h1, r1⟩ := trodAll_cons r0
  obtain ⟨v2, vs2, d2, ds2, p2, q2, rfl, rfl, rfl, h2, r2⟩ := trodAll_cons r1
  obtain ⟨rfl, rfl, rfl⟩ := trodAll_nil r2
  obtain rfl : args = #[v0, v1, v2] := by cases args; simp_all
  obtain ⟨rfl, rfl⟩ := trodVars_none hV
  obtain ⟨a0, rfl, rfl, rfl, w0⟩ := open_int Try.underlying3 (hval 0 3 v0 rfl rfl) h0
  obtain ⟨a1, rfl, rfl, rfl, w1⟩ := open_int Try.underlying3 (hval 1 3 v1 rfl rfl) h1
  obtain ⟨a2, len2, cap2, rfl⟩ := okWide_slice Try.underlying22 (hval 2 22 v2 rfl rfl)
  have k2 := h2
  have lt2 : ∀ x ∈ p2, x.block < W.heap.size := by obtain ⟨m, hm⟩ := k2; exact DataW.trod_lt m _ _ _ hm
  have w2 : IsO W a2 len2 cap2 := by
    obtain ⟨fuel, hf⟩ := h2
    exact IsO.of hf
  clear hA0 hval0
  refine (walk a0 a1 a2 len2 cap2 W w0 w1 w2).mono fun e W' ⟨he, bel⟩ => ?_
  subst he
  exact ⟨_, rfl, _, _, _, [], _, [], hW', trodAll_mk1 (shut_bool Try.underlying4 _), (trodAll_cons_mk (shut_int Try.underlying3 w0) (trodAll_cons_mk (shut_int Try.underlying3 w1) (trodAll_cons_mk (Below.trod laidOut (by kernel_rfl) (of_decide_eq_true (by kernel_rfl)) k2 bel lt2) trodAll_mk0))), rfl, bel.frame _, fun h => by cases h⟩

theorem over : Rows.diskDoesRow.holds Try.pinned (OpenSpec.ofChange Rows.diskDoesSpec) :=
  OpenClaim.holds_of_wide 3 Try.f3 rfl rfl rfl rfl rfl rfl rfl ⟨rfl, rfl, rfl, rfl, rfl⟩ rfl rfl rfl rfl rfl (by kernel_rfl) Try.func3 (by kernel_rfl)
    (of_decide_eq_true (by kernel_rfl)) (by unfold Func.isWrapper; first | (rw [if_pos (by decide +kernel)]; kernel_rfl) | (rw [if_neg (by decide +kernel)]; exact ⟨rfl, rfl⟩))
    (fun os started H enc _ => lifted os started H enc)

/-- the statement. -/
theorem proved : Rows.DiskDoesSaid := over
#print axioms proved
end Go.Proofs.Ytikajhfaoccicaa.diskDoes
