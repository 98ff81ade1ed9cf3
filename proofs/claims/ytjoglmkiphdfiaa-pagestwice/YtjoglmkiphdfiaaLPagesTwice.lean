/-
  The statement 'PagesTwice' (chandlerylaw07) holds at every input: the call returns true and leaves its arguments as they were. Conditions: none beyond the row's own.
-/
import Derived.Test.YtjoglmkiphdfiaaRows
import Derived.Test.YtjoglmkiphdfiaaJ33
import Derived.Test.YtjoglmkiphdfiaaJ34
import Derived.WalkKit
import Derived.ProofKit
import Derived.OpenShut
import Derived.ChangeOld
import Derived.Below
namespace Go.Proofs.Ytjoglmkiphdfiaa.pagesTwice
open Go.ChangeShapes Go.WideShapes Go.ChangeAt Go.RowKit Go.Bs Go.Dk Go.Proofs.Ytjoglmkiphdfiaa.Rp
set_option linter.unusedVariables false

theorem own : ownKnob Try.prog.godebug = none := by kernel_rfl
theorem laidOut : laidOutB Try.prog = true := by kernel_rfl

theorem mark_get (p Bz : Nat) (h : 1 ≤ Bz) : (markB Bz p).getD 0 0 = UInt8.ofNat (p % 255 + 1) := by
  unfold markB
  rw [getD_get _ _ (by rw [List.length_set, zeros_length]; omega), List.getElem_set_self]

set_option maxRecDepth 100000 in
set_option maxHeartbeats 4000000 in
theorem walk (a0 : Int) (a1 : Int) (a2 : Option Addr) (len2 cap2 : Nat) (w : World) (w0 : (Lit.int .i64 a0).wf = true) (w1 : (Lit.int .i64 a1).wf = true) (w2 : IsI w a2 len2 cap2) :
    Calls Try.prog 3 #[.int .i64 a0, .int .i64 a1, .slice a2 len2 cap2] w fun e w' => e = .returned (.bool true) ∧ Below w.heap.size w w' := by
  obtain ⟨hmx, zs2, hq2⟩ := w2
  by_cases hsm : 3 ≤ a0 ∧ a0 ≤ 160 ∧ 16 ≤ a1 ∧ a1 ≤ 40
  · obtain ⟨N, rfl⟩ : ∃ N : Nat, a0 = N := ⟨a0.toNat, by omega⟩
    obtain ⟨Bz, rfl⟩ : ∃ Bz : Nat, a1 = Bz := ⟨a1.toNat, by omega⟩
    have hN0 : 3 ≤ N := by omega
    have hN1 : N ≤ 160 := by omega
    have hB0 : 16 ≤ Bz := by omega
    have hB1 : Bz ≤ 40 := by omega
    have HS := Lib.hid (small_yes (N : Int) (Bz : Int) 1 (by omega) (by omega) (by omega) (by omega) (by omega) (by omega) (by omega) w)
    by_cases hl2c : len2 ≤ 200
    · have HN := Lib.hid (New_any (N + 1 + 1) Bz (by omega) (by omega) (by omega) (by omega) w)
      rw [show ((N + 1 + 1 : Nat) : Int) = (N : Int) + 2 by omega] at HN
      have HI := Lib.hid hq2
      clear hq2 hsm w0 w1
      go_enter Try.func3, Try.ntmps3
      go_wp2_with fail
      refine HS.out.mono ?_
      rintro e w1 ⟨rfl, rfl⟩
      go_wp2_with fail
      refine HN.out.mono ?_
      rintro e w1 ⟨g, D, rfl, hdisk, hD, hb1⟩
      have HO := Lib.hid (lopen_new w1 g D N Bz 1 hdisk (by omega) (by omega) (by omega) (by omega) (by omega) (by omega))
      have HD := Lib.hid hD
      have HB1 := Lib.hid hb1
      obtain ⟨s0, hs0⟩ : ∃ s0, S.new (N + 1 + 1) Bz = s0 := ⟨_, rfl⟩
      rw [hs0] at HO
      clear hdisk hD hb1 hs0
      obtain ⟨M, hM⟩ : ∃ M, mapN N Bz = M := ⟨_, rfl⟩
      rw [hM] at HO
      clear hM
      by_cases hMN : M + 2 ≤ N
      · simp only [if_pos hMN] at HO
        go_wp2_with fail
        refine HO.out.mono ?_
        rintro e w2 ⟨⟨pp, q, D2, rfl, hsp, hD2⟩, hf2⟩
        have hsi : SpB w w2 pp q g s0 1 N Bz M (fun _ => zeros Bz) := ⟨D2, hsp, fun k hk => (hD2 k hk).elim (HD.out k) (fun e => by have := HB1.out.size; omega), HB1.out.trans (hf2.below HD.out HB1.out.size)⟩
        have hdm : Dm N Bz M (fun _ => zeros Bz) := by obtain ⟨_, x, _⟩ := hsp; exact x.dL
        have HDM := Lib.hid hdm
        have HFR := Lib.hid (bFree w w2 pp q g s0 1 N Bz M (fun _ => zeros Bz) hsi)
        have hfree : freeN N Bz M (fun _ => zeros Bz) N = N - (M + 1) := free_fst (j := 0) (fun p => (Fst.new hdm).used p)
        rw [hfree] at HFR
        obtain ⟨n, hn⟩ : ∃ n, N - (M + 1) = n := ⟨_, rfl⟩
        rw [hn] at HFR
        have HNN := Lib.hid hn
        clear hsp hD2 hf2 hsi hdm hfree
        go_wp2_with fail
        refine HFR.out.mono ?_
        rintro e w3 ⟨rfl, hsp3⟩
        have HSZ : Hid (Calls Try.prog 11 #[.pointer (some ⟨pp, 0, none⟩)] w3 fun e w' => e = .returned (.tuple #[.int .i64 (n : Int), .int .i64 (Bz : Int)]) ∧ ∃ k, w' = w3.drewN k) := by
          show Calls _ _ _ _ _
          obtain ⟨Dx, x1, _⟩ := hsp3
          have := sSize w3 pp q g s0 1 N Bz M (fun _ => zeros Bz) Dx x1
          rw [show (N : Int) - (M + 1 : Nat) = (n : Int) by omega] at this
          exact this
        have HBG := Lib.hid (fun k => bBegin w (w3.drewN k) pp q g s0 1 N Bz M (fun _ => zeros Bz) (by
          obtain ⟨Dx, x1, x2, x3⟩ := hsp3
          exact ⟨Dx, x1.keep (Nat.le_refl _) (fun _ _ => rfl), x2, below_drewN x3 k⟩))
        clear hsp3
        go_wp2_with fail
        refine HSZ.out.mono ?_
        rintro e w3' ⟨rfl, k3, rfl⟩
        go_wp2_with fail
        refine (HBG.out k3).mono ?_
        rintro e w4 ⟨t, rfl, hy4⟩
        obtain ⟨ub, hub0⟩ : ∃ ub, w4.heap.size = ub := ⟨_, rfl⟩
        have hmkU := make_falseP N (by omega) w4
        obtain ⟨W5, hW5⟩ : ∃ W5, w4.alloc (.cells ((List.range N).map fun _ => Value.bool false).toArray 4 (0, 0)) = W5 := ⟨_, rfl⟩
        rw [hW5, hub0] at hmkU
        have HS4 : Hid (St w W5 pp t q g s0 1 N Bz M (fun _ => zeros Bz) (TX.new fun _ => zeros Bz) (fun _ => false) ub) := by
          show St w W5 pp t q g s0 1 N Bz M (fun _ => zeros Bz) (TX.new fun _ => zeros Bz) (fun _ => false) ub
          obtain ⟨Dx, x1, x2, x3⟩ := hy4
          have hb5 : Below w4.heap.size w4 W5 := by rw [← hW5]; exact (Below.refl _ _).alloc (Nat.le_refl _) _
          have hs := x3.size
          refine ⟨Dx, x1.below hb5, x2, x3.trans (hb5.mono hs), ?_, by omega, fun hd => by have := x1.lt ub hd; omega⟩
          unfold bR
          rw [← hW5, ← hub0]
          exact heap_alloc_new w4 _
        have hnl : n ≤ 160 := by omega
        clear hy4
        go_wp2
        go_loopw [17, 16] (fun i lv wr => ∃ k left : Nat, ∃ T : TX, ∃ U : Nat → Bool, k ≤ n + 1 ∧ left ≤ 200 ∧ i = .int .i64 k ∧ lv = .int .i64 left ∧ Tw N Bz M T U left ∧ St w wr pp t q g s0 1 N Bz M (fun _ => zeros Bz) T U ub) (fun i _ _ => n + 1 - (RowKit.intOf i).toNat)
        case atStart =>
          refine ⟨0, n, _, _, Nat.zero_le _, by omega, rfl, rfl, ?_, HS4.out⟩
          have := Tw.new HDM.out
          rw [HNN.out] at this
          exact this
        case round =>
          obtain ⟨k, left, T, U, hk, hlf, rfl, rfl, htw, hst⟩ := hrel
          have HST := Lib.hid hst
          have HTW := Lib.hid htw
          by_cases hle : k ≤ n
          · have HTK := Lib.hid (uTake w wr pp t q g s0 1 N Bz M (fun _ => zeros Bz) T U ub hst)
            by_cases hl0 : left = 0
            · subst hl0
              have htk := htw.full
              rw [htk] at HTK
              clear hst htw htk
              go_wp2_with fail
              refine HTK.out.mono ?_
              rintro e w5 ⟨rfl, hst5⟩
              have HST := Lib.hid hst5
              obtain ⟨TT, hTT⟩ : ∃ TT, T = TT := ⟨_, rfl⟩
              obtain ⟨UU, hUU⟩ : ∃ UU, U = UU := ⟨_, rfl⟩
              rw [hTT, hUU] at HTW HST
              clear hst5 hTT hUU
              go_wp2
              go_loopw [23] (fun i wr => ∃ k : Nat, k ≤ N ∧ i = .int .i64 k ∧ St w wr pp t q g s0 1 N Bz M (fun _ => zeros Bz) TT UU ub) (fun i _ => N - (RowKit.intOf i).toNat)
              case atStart => exact ⟨0, Nat.zero_le _, rfl, HST.out⟩
              case round =>
                obtain ⟨k, hk, rfl, hst⟩ := hrel
                have HS2 := Lib.hid hst
                by_cases hlt : k < N
                · have HRD := Lib.hid (uRead w wr pp t q g s0 1 N Bz M (fun _ => zeros Bz) TT UU ub hst (k : Int))
                  have hus := HTW.out.us k hlt
                  cases hu : UU k
                  · rw [hu] at hus
                    have hrd : TT.read N Bz M (k : Int) = ([], 1) := by unfold TX.read; rw [← hus]; simp
                    rw [hrd] at HRD
                    have HU := Lib.hid hu
                    clear hst hus hu hrd
                    go_wp2_with fail
                    refine HRD.out.mono ?_
                    rintro e w8 ⟨A8, c8, rfl, hr8, hst8⟩
                    have hcu := (hst8.bel.2.cell k hlt).1
                    rw [HU.out] at hcu
                    have HS8 := Lib.hid hst8
                    clear hst8 hr8
                    go_wp2
                    go_roundw
                    case rel => exact ⟨k + 1, by omega, by go_num, HS8.out⟩
                    case measure => simp [RowKit.intOf]; omega
                  · rw [hu] at hus
                    have hrd : TT.read N Bz M (k : Int) = (markB Bz k, 0) := by
                      unfold TX.read
                      rw [← hus, HTW.out.live]
                      have := HTW.out.by_ k hlt hus.symm
                      show (TT.L ((k : Int)).toNat, (0 : Int)) = _
                      rw [show ((k : Int)).toNat = k by omega, this]
                    rw [hrd] at HRD
                    simp only [markB_len] at HRD
                    have HU := Lib.hid hu
                    clear hst hus hu hrd
                    go_wp2_with fail
                    refine HRD.out.mono ?_
                    rintro e w8 ⟨A8, c8, rfl, hr8, hst8⟩
                    have hcu := (hst8.bel.2.cell k hlt).1
                    rw [HU.out] at hcu
                    have HS8 := Lib.hid hst8
                    obtain ⟨g8, o8, rfl, hg8, hc8⟩ := hr8.cells (by omega)
                    have hb8 := hc8 0 (by omega)
                    rw [mark_get k Bz (by omega), Nat.add_zero] at hb8
                    have hxv : ((UInt8.ofNat (k % 255 + 1)).toNat : Int) = (k : Int) % 255 + 1 := by
                      have : (UInt8.ofNat (k % 255 + 1)).toNat = k % 255 + 1 := by simp; omega
                      rw [this]; omega
                    obtain ⟨x8, hx8⟩ : ∃ x, UInt8.ofNat (k % 255 + 1) = x := ⟨_, rfl⟩
                    rw [hx8] at hb8 hxv
                    have hneq : ((x8.toNat : Int) != (k : Int) % 255 + 1) = false := by rw [hxv]; simp
                    have hwx : IntKind.i64.wrap (x8.toNat : Int) = (x8.toNat : Int) := IntWalk.i64_in _ (by have := x8.toNat_lt; omega)
                    have hi0 : 0 < Bz := by omega
                    clear hst8 hr8 hc8 hx8
                    go_wp2
                    go_roundw
                    case rel => exact ⟨k + 1, by omega, by go_num, HS8.out⟩
                    case measure => simp [RowKit.intOf]; omega
                · have HB9 := Lib.hid hst.bel.1
                  clear hst
                  go_wp2_with fail
                  refine (awake_any wr).mono ?_
                  rintro e w9 ⟨rfl, hb9⟩
                  have HB10 := Lib.hid (HB9.out.trans (hb9.mono HB9.out.size))
                  clear hb9
                  go_wp2
                  go_ret
                  exact ⟨rfl, HB10.out⟩
            · obtain ⟨r, hr1, hrN, hur, htk, hrd, hwr, htw2⟩ := htw.take hl0
              rw [htk] at HTK
              have HRDV := Lib.hid hrd
              have HWRV := Lib.hid hwr
              have HTW2 := Lib.hid htw2
              have hlne : ((left : Int) == 0) = false := by simp; omega
              have HUR := Lib.hid hur
              clear hst htw htk hrd hwr htw2 hur
              go_wp2_with fail
              refine HTK.out.mono ?_
              rintro e w5 ⟨rfl, hst5⟩
              have HRD := Lib.hid (uRead w w5 pp t q g s0 1 N Bz M (fun _ => zeros Bz) _ U ub hst5 (r : Int))
              rw [HRDV.out] at HRD
              simp only [zeros_length] at HRD
              clear hst5
              go_wp2_with fail
              refine HRD.out.mono ?_
              rintro e w6 ⟨A, c, rfl, hr6, hst6⟩
              obtain ⟨zs, hzs⟩ : ∃ zs : ByteArray, (⟨(zeros Bz).toArray⟩ : ByteArray) = zs := ⟨_, rfl⟩
              have hub : w6.drew.cell? ⟨ub, r, none⟩ = some (.bool false) := by
                have := (hst6.bel.2.cell r hrN).1
                rw [HUR.out] at this
                exact this
              have hcv : (convert 38 9 (.slice A Bz c)).run Try.prog w6.drew = .ok (.string zs) w6.drew := by rw [← hzs]; exact string_rd _ _ _ _ _ hr6.drew
              obtain ⟨z6, hz6⟩ : ∃ z6, w6.heap.size = z6 := ⟨_, rfl⟩
              obtain ⟨X, hX⟩ : ∃ X, w6.drew.alloc (rowObj 5 (zeros Bz)) = X := ⟨_, rfl⟩
              have hmk : (Instr.makeSlice 38 (.int .i64 (Bz : Int)) (.int .i64 (Bz : Int))).run Try.prog w6.drew = .ok (.slice (some ⟨z6, 0, none⟩) Bz Bz) X := by
                rw [← hX, ← hz6]; exact make_zeros Bz (by omega) w6.drew
              have hbX : Below w6.heap.size w6 X := by rw [← hX]; exact ((Below.refl _ w6).drew).alloc (Nat.le_refl _) _
              have hXz : X.heap.size = z6 + 1 := by rw [← hX, ← hz6, World.size_alloc]; rfl
              have hblkX : Blk X z6 5 (zeros Bz) := by rw [← hX, ← hz6]; exact Blk.new w6.drew 5 (zeros Bz)
              have hstX := hst6.below hbX
              have hub2 : X.cell? ⟨ub, r, none⟩ = some (.bool false) := by
                have := (hstX.bel.2.cell r hrN).1
                rw [HUR.out] at this
                exact this
              have hfz2 := (hstX.bel.2.cell r hrN).2
              have hcv2 : (convert 38 9 (.slice A Bz c)).run Try.prog X = .ok (.string zs) X := by rw [← hzs]; exact string_rd _ _ _ _ _ (hr6.keep hbX)
              have hcv3 : (convert 38 9 (.slice (some ⟨z6, 0, none⟩) Bz Bz)).run Try.prog X = .ok (.string zs) X := by rw [← hzs]; exact string_rd _ _ _ _ _ (hblkX.all' Bz Bz (zeros_length _) (Nat.le_refl _))
              have hd1 : decide ((r : Int) < 1) = false := by simp; omega
              have hd2 : decide ((N : Int) ≤ (r : Int)) = false := by simp; omega
              have hd3 : decide (N ≤ r) = false := by simp; omega
              have hd4 : decide ((r : Int) ≥ (N : Int)) = false := by simp; omega
              have HSX := Lib.hid (hstX.setU r true)
              obtain ⟨X2, hX2⟩ : ∃ X2, X.setCell ⟨ub, r, none⟩ (.bool true) = X2 := ⟨_, rfl⟩
              rw [hX2] at HSX
              have hX2z : X2.heap.size = z6 + 1 := by rw [← hX2, sc_size]; exact hXz
              obtain ⟨z7, hz7⟩ : ∃ z7, z6 + 1 = z7 := ⟨_, rfl⟩
              rw [hz7] at hX2z
              obtain ⟨X3, hX3⟩ : ∃ X3, X2.alloc (rowObj 5 (zeros Bz)) = X3 := ⟨_, rfl⟩
              have hmk3 : (Instr.makeSlice 38 (.int .i64 (Bz : Int)) (.int .i64 (Bz : Int))).run Try.prog X2 = .ok (.slice (some ⟨z7, 0, none⟩) Bz Bz) X3 := by
                rw [← hX3, ← hX2z]; exact make_zeros Bz (by omega) X2
              have hblk3 : Blk X3 z7 5 (zeros Bz) := by rw [← hX3, ← hX2z]; exact Blk.new X2 5 (zeros Bz)
              have hb3 : Below X2.heap.size X2 X3 := by rw [← hX3]; exact (Below.refl _ _).alloc (Nat.le_refl _) _
              obtain ⟨xm, hxm⟩ : ∃ xm, UInt8.ofNat (r % 255 + 1) = xm := ⟨_, rfl⟩
              have hxw : IntKind.u8.wrap ((r : Int) % 255 + 1) = (xm.toNat : Int) := by
                rw [IntKind.wrap_u8, ← hxm]
                have : (UInt8.ofNat (r % 255 + 1)).toNat = r % 255 + 1 := by simp; omega
                rw [this]; omega
              have q0 := hblk3.cell 0 (by rw [zeros_length]; omega)
              have f0 := hblk3.frozen 0
              have hblk4 := hblk3.set 0 xm
              obtain ⟨X4, hX4⟩ : ∃ X4, X3.setCell ⟨z7, 0, none⟩ (B xm) = X4 := ⟨_, rfl⟩
              rw [hX4] at hblk4
              have hb4 : Below X2.heap.size X2 X4 := by rw [← hX4]; exact hb3.setCell (p := ⟨z7, 0, none⟩) (by rw [hX2z]; exact Nat.le_refl _) _
              have hmkx : (zeros Bz).set 0 xm = markB Bz r := by unfold markB; rw [hxm]
              rw [hmkx] at hblk4
              have HWR := Lib.hid (uWrite w X2 pp t q g s0 1 N Bz M (fun _ => zeros Bz) _ _ ub HSX.out X4 hb4 (markB Bz r) (by rw [hX2z]; exact hblk4) (markB_len _ _) (by omega) (r : Int))
              rw [HWRV.out, hX2z] at HWR
              have hX4' : X3.setCell ⟨z7, 0, none⟩ (.int .u8 (xm.toNat : Int)) = X4 := hX4
              have i0 : 0 < Bz := by omega
              have hrI : (r : Int) < (N : Int) := by omega
              have hll : left ≤ 200 := by omega
              clear hst6 hr6 hzs hbX hXz hblkX hstX hblk3 hb3 hxm hblk4 hX4 hb4 hmkx hz7
              go_wp2_with fail
              refine wp_region_held_drew (S := fun W => W.cell? ⟨ub, r, none⟩ = some (.bool false) ∧ (convert 38 9 (.slice A Bz c)).run Try.prog W = .ok (.string zs) W) (by kernel_rfl) (⟨hub, hcv⟩) (fun hHeld => ?_)
              refine wpAnyH_take (i := 0) (oi := { dst := some 93, op := Go.Op.move (Go.Operand.tmp 19), type := 25, pos := "law.go:259", after := #[], guard := none }) (v := ?v0) rfl (by kernel_rfl) (by kernel_rfl) (by kernel_rfl) (fun _ _ _ h => h) (Or.inl ⟨by rfl, ?hy0⟩) hHeld ?_
              case hy0 => (intro w hSw; (try dsimp only at hSw); go_simp; first | done | with_reducible rfl)
              try simp only [Act.put, List.setIfInBounds_toArray, List.set_cons_zero, List.set_cons_succ]
              refine wpAnyH_take (i := 1) (oi := { dst := some 94, op := Go.Op.binOp Go.BinOp.neq 25 (Go.Operand.tmp 93) (Go.Operand.const (Go.Value.int Go.IntKind.i64 0)) 25, type := 4, pos := "law.go:259", after := #[{ on := 0, ground := Go.Ground.data }], guard := none }) (v := ?v1) rfl (by kernel_rfl) (by kernel_rfl) (by kernel_rfl) (fun _ _ _ h => h) (Or.inl ⟨by rfl, ?hy1⟩) hHeld ?_
              case hy1 => (intro w hSw; (try dsimp only at hSw); go_simp; first | done | with_reducible rfl)
              try simp only [Act.put, List.setIfInBounds_toArray, List.set_cons_zero, List.set_cons_succ]
              refine wpAnyH_take (i := 2) (oi := { dst := some 95, op := Go.Op.move (Go.Operand.tmp 94), type := 4, pos := "law.go:259", after := #[{ on := 1, ground := Go.Ground.data }], guard := none }) (v := ?v2) rfl (by kernel_rfl) (by kernel_rfl) (by kernel_rfl) (fun _ _ _ h => h) (Or.inl ⟨by rfl, ?hy2⟩) hHeld ?_
              case hy2 => (intro w hSw; (try dsimp only at hSw); go_simp; first | done | with_reducible rfl)
              try simp only [Act.put, List.setIfInBounds_toArray, List.set_cons_zero, List.set_cons_succ]
              refine wpAnyH_take (i := 3) (oi := { dst := some 96, op := Go.Op.move (Go.Operand.tmp 18), type := 3, pos := "law.go:259", after := #[{ on := 2, ground := Go.Ground.guard }], guard := some (2, false) }) (v := ?v3) rfl (by kernel_rfl) (by kernel_rfl) (by kernel_rfl) (fun _ _ _ h => h) (Or.inl ⟨by rfl, ?hy3⟩) hHeld ?_
              case hy3 => (intro w hSw; (try dsimp only at hSw); go_simp; first | done | with_reducible rfl)
              try simp only [Act.put, List.setIfInBounds_toArray, List.set_cons_zero, List.set_cons_succ]
              refine wpAnyH_take (i := 4) (oi := { dst := some 97, op := Go.Op.binOp Go.BinOp.lss 3 (Go.Operand.tmp 96) (Go.Operand.const (Go.Value.int Go.IntKind.i64 1)) 3, type := 4, pos := "law.go:259", after := #[{ on := 3, ground := Go.Ground.data }, { on := 2, ground := Go.Ground.guard }], guard := some (2, false) }) (v := ?v4) rfl (by kernel_rfl) (by kernel_rfl) (by kernel_rfl) (fun _ _ _ h => h) (Or.inl ⟨by rfl, ?hy4⟩) hHeld ?_
              case hy4 => (intro w hSw; (try dsimp only at hSw); go_simp; first | done | with_reducible rfl)
              try simp only [Act.put, List.setIfInBounds_toArray, List.set_cons_zero, List.set_cons_succ]
              refine wpAnyH_take (i := 5) (oi := { dst := some 98, op := Go.Op.pick (Go.Operand.tmp 95) (Go.Operand.const (Go.Value.bool true)) (Go.Operand.tmp 97), type := 4, pos := "law.go:259", after := #[{ on := 2, ground := Go.Ground.data }, { on := 4, ground := Go.Ground.data }], guard := none }) (v := ?v5) rfl (by kernel_rfl) (by kernel_rfl) (by kernel_rfl) (fun _ _ _ h => h) (Or.inl ⟨by rfl, ?hy5⟩) hHeld ?_
              case hy5 => (intro w hSw; (try dsimp only at hSw); go_simp; first | done | with_reducible rfl)
              try simp only [Act.put, List.setIfInBounds_toArray, List.set_cons_zero, List.set_cons_succ]
              refine wpAnyH_take (i := 6) (oi := { dst := some 99, op := Go.Op.move (Go.Operand.tmp 98), type := 4, pos := "law.go:259", after := #[{ on := 5, ground := Go.Ground.data }, { on := 2, ground := Go.Ground.chain }], guard := none }) (v := ?v6) rfl (by kernel_rfl) (by kernel_rfl) (by kernel_rfl) (fun _ _ _ h => h) (Or.inl ⟨by rfl, ?hy6⟩) hHeld ?_
              case hy6 => (intro w hSw; (try dsimp only at hSw); go_simp; first | done | with_reducible rfl)
              try simp only [Act.put, List.setIfInBounds_toArray, List.set_cons_zero, List.set_cons_succ]
              refine wpAnyH_take (i := 7) (oi := { dst := some 100, op := Go.Op.move (Go.Operand.tmp 18), type := 3, pos := "law.go:259", after := #[{ on := 6, ground := Go.Ground.guard }], guard := some (6, false) }) (v := ?v7) rfl (by kernel_rfl) (by kernel_rfl) (by kernel_rfl) (fun _ _ _ h => h) (Or.inl ⟨by rfl, ?hy7⟩) hHeld ?_
              case hy7 => (intro w hSw; (try dsimp only at hSw); go_simp; first | done | with_reducible rfl)
              try simp only [Act.put, List.setIfInBounds_toArray, List.set_cons_zero, List.set_cons_succ]
              refine wpAnyH_take (i := 8) (oi := { dst := some 101, op := Go.Op.move (Go.Operand.tmp 0), type := 3, pos := "law.go:259", after := #[{ on := 6, ground := Go.Ground.guard }], guard := some (6, false) }) (v := ?v8) rfl (by kernel_rfl) (by kernel_rfl) (by kernel_rfl) (fun _ _ _ h => h) (Or.inl ⟨by rfl, ?hy8⟩) hHeld ?_
              case hy8 => (intro w hSw; (try dsimp only at hSw); go_simp; first | done | with_reducible rfl)
              try simp only [Act.put, List.setIfInBounds_toArray, List.set_cons_zero, List.set_cons_succ]
              refine wpAnyH_take (i := 9) (oi := { dst := some 102, op := Go.Op.binOp Go.BinOp.geq 3 (Go.Operand.tmp 100) (Go.Operand.tmp 101) 3, type := 4, pos := "law.go:259", after := #[{ on := 7, ground := Go.Ground.data }, { on := 8, ground := Go.Ground.data }, { on := 6, ground := Go.Ground.guard }], guard := some (6, false) }) (v := ?v9) rfl (by kernel_rfl) (by kernel_rfl) (by kernel_rfl) (fun _ _ _ h => h) (Or.inl ⟨by rfl, ?hy9⟩) hHeld ?_
              case hy9 => (intro w hSw; (try dsimp only at hSw); go_simp; first | done | with_reducible rfl)
              try simp only [Act.put, List.setIfInBounds_toArray, List.set_cons_zero, List.set_cons_succ]
              refine wpAnyH_take (i := 10) (oi := { dst := some 103, op := Go.Op.pick (Go.Operand.tmp 99) (Go.Operand.const (Go.Value.bool true)) (Go.Operand.tmp 102), type := 4, pos := "law.go:259", after := #[{ on := 6, ground := Go.Ground.data }, { on := 9, ground := Go.Ground.data }], guard := none }) (v := ?v10) rfl (by kernel_rfl) (by kernel_rfl) (by kernel_rfl) (fun _ _ _ h => h) (Or.inl ⟨by rfl, ?hy10⟩) hHeld ?_
              case hy10 => (intro w hSw; (try dsimp only at hSw); go_simp; first | done | with_reducible rfl)
              try simp only [Act.put, List.setIfInBounds_toArray, List.set_cons_zero, List.set_cons_succ]
              refine wpAnyH_take (i := 11) (oi := { dst := some 104, op := Go.Op.move (Go.Operand.tmp 103), type := 4, pos := "law.go:259", after := #[{ on := 10, ground := Go.Ground.data }, { on := 6, ground := Go.Ground.chain }], guard := none }) (v := ?v11) rfl (by kernel_rfl) (by kernel_rfl) (by kernel_rfl) (fun _ _ _ h => h) (Or.inl ⟨by rfl, ?hy11⟩) hHeld ?_
              case hy11 => (intro w hSw; (try dsimp only at hSw); go_simp; first | done | with_reducible rfl)
              try simp only [Act.put, List.setIfInBounds_toArray, List.set_cons_zero, List.set_cons_succ]
              refine wpAnyH_take (i := 12) (oi := { dst := some 105, op := Go.Op.move (Go.Operand.tmp 15), type := 37, pos := "law.go:259", after := #[{ on := 11, ground := Go.Ground.guard }], guard := some (11, false) }) (v := ?v12) rfl (by kernel_rfl) (by kernel_rfl) (by kernel_rfl) (fun _ _ _ h => h) (Or.inl ⟨by rfl, ?hy12⟩) hHeld ?_
              case hy12 => (intro w hSw; (try dsimp only at hSw); go_simp; first | done | with_reducible rfl)
              try simp only [Act.put, List.setIfInBounds_toArray, List.set_cons_zero, List.set_cons_succ]
              refine wpAnyH_take (i := 13) (oi := { dst := some 106, op := Go.Op.move (Go.Operand.tmp 18), type := 3, pos := "law.go:259", after := #[{ on := 11, ground := Go.Ground.guard }], guard := some (11, false) }) (v := ?v13) rfl (by kernel_rfl) (by kernel_rfl) (by kernel_rfl) (fun _ _ _ h => h) (Or.inl ⟨by rfl, ?hy13⟩) hHeld ?_
              case hy13 => (intro w hSw; (try dsimp only at hSw); go_simp; first | done | with_reducible rfl)
              try simp only [Act.put, List.setIfInBounds_toArray, List.set_cons_zero, List.set_cons_succ]
              refine wpAnyH_take (i := 14) (oi := { dst := some 107, op := Go.Op.indexAddr 37 (Go.Operand.tmp 105) (Go.Operand.tmp 106), type := 0, pos := "law.go:259", after := #[{ on := 12, ground := Go.Ground.data }, { on := 13, ground := Go.Ground.data }, { on := 11, ground := Go.Ground.guard }], guard := some (11, false) }) (v := ?v14) rfl (by kernel_rfl) (by kernel_rfl) (by kernel_rfl) (fun _ _ _ h => h) (Or.inl ⟨by rfl, ?hy14⟩) hHeld ?_
              case hy14 => (intro w hSw; (try dsimp only at hSw); go_simp; first | done | with_reducible rfl)
              try simp only [Act.put, List.setIfInBounds_toArray, List.set_cons_zero, List.set_cons_succ]
              refine wpAnyH_take (i := 15) (oi := { dst := some 108, op := Go.Op.load 4 (Go.Operand.tmp 107), type := 4, pos := "law.go:259", after := #[{ on := 14, ground := Go.Ground.data }, { on := 11, ground := Go.Ground.guard }], guard := some (11, false) }) (v := ?v15) rfl (by kernel_rfl) (by kernel_rfl) (by kernel_rfl) (fun _ _ _ h => h) (Or.inl ⟨by rfl, ?hy15⟩) hHeld ?_
              case hy15 => (intro w hSw; (try dsimp only at hSw); go_simp; first | done | with_reducible rfl)
              try simp only [Act.put, List.setIfInBounds_toArray, List.set_cons_zero, List.set_cons_succ]
              refine wpAnyH_take (i := 16) (oi := { dst := some 109, op := Go.Op.pick (Go.Operand.tmp 104) (Go.Operand.const (Go.Value.bool true)) (Go.Operand.tmp 108), type := 4, pos := "law.go:259", after := #[{ on := 11, ground := Go.Ground.data }, { on := 15, ground := Go.Ground.data }], guard := none }) (v := ?v16) rfl (by kernel_rfl) (by kernel_rfl) (by kernel_rfl) (fun _ _ _ h => h) (Or.inl ⟨by rfl, ?hy16⟩) hHeld ?_
              case hy16 => (intro w hSw; (try dsimp only at hSw); go_simp; first | done | with_reducible rfl)
              try simp only [Act.put, List.setIfInBounds_toArray, List.set_cons_zero, List.set_cons_succ]
              refine wpAnyH_take (i := 17) (oi := { dst := some 110, op := Go.Op.move (Go.Operand.tmp 109), type := 4, pos := "law.go:259", after := #[{ on := 16, ground := Go.Ground.data }, { on := 11, ground := Go.Ground.chain }], guard := none }) (v := ?v17) rfl (by kernel_rfl) (by kernel_rfl) (by kernel_rfl) (fun _ _ _ h => h) (Or.inl ⟨by rfl, ?hy17⟩) hHeld ?_
              case hy17 => (intro w hSw; (try dsimp only at hSw); go_simp; first | done | with_reducible rfl)
              try simp only [Act.put, List.setIfInBounds_toArray, List.set_cons_zero, List.set_cons_succ]
              refine wpAnyH_take (i := 18) (oi := { dst := some 111, op := Go.Op.move (Go.Operand.tmp 21), type := 25, pos := "law.go:259", after := #[{ on := 17, ground := Go.Ground.guard }], guard := some (17, false) }) (v := ?v18) rfl (by kernel_rfl) (by kernel_rfl) (by kernel_rfl) (fun _ _ _ h => h) (Or.inl ⟨by rfl, ?hy18⟩) hHeld ?_
              case hy18 => (intro w hSw; (try dsimp only at hSw); go_simp; first | done | with_reducible rfl)
              try simp only [Act.put, List.setIfInBounds_toArray, List.set_cons_zero, List.set_cons_succ]
              refine wpAnyH_take (i := 19) (oi := { dst := some 112, op := Go.Op.binOp Go.BinOp.neq 25 (Go.Operand.tmp 111) (Go.Operand.const (Go.Value.int Go.IntKind.i64 0)) 25, type := 4, pos := "law.go:259", after := #[{ on := 18, ground := Go.Ground.data }, { on := 17, ground := Go.Ground.guard }], guard := some (17, false) }) (v := ?v19) rfl (by kernel_rfl) (by kernel_rfl) (by kernel_rfl) (fun _ _ _ h => h) (Or.inl ⟨by rfl, ?hy19⟩) hHeld ?_
              case hy19 => (intro w hSw; (try dsimp only at hSw); go_simp; first | done | with_reducible rfl)
              try simp only [Act.put, List.setIfInBounds_toArray, List.set_cons_zero, List.set_cons_succ]
              refine wpAnyH_take (i := 20) (oi := { dst := some 113, op := Go.Op.pick (Go.Operand.tmp 110) (Go.Operand.const (Go.Value.bool true)) (Go.Operand.tmp 112), type := 4, pos := "law.go:259", after := #[{ on := 17, ground := Go.Ground.data }, { on := 19, ground := Go.Ground.data }], guard := none }) (v := ?v20) rfl (by kernel_rfl) (by kernel_rfl) (by kernel_rfl) (fun _ _ _ h => h) (Or.inl ⟨by rfl, ?hy20⟩) hHeld ?_
              case hy20 => (intro w hSw; (try dsimp only at hSw); go_simp; first | done | with_reducible rfl)
              try simp only [Act.put, List.setIfInBounds_toArray, List.set_cons_zero, List.set_cons_succ]
              refine wpAnyH_take (i := 21) (oi := { dst := some 114, op := Go.Op.move (Go.Operand.tmp 113), type := 4, pos := "law.go:259", after := #[{ on := 20, ground := Go.Ground.data }, { on := 17, ground := Go.Ground.chain }], guard := none }) (v := ?v21) rfl (by kernel_rfl) (by kernel_rfl) (by kernel_rfl) (fun _ _ _ h => h) (Or.inl ⟨by rfl, ?hy21⟩) hHeld ?_
              case hy21 => (intro w hSw; (try dsimp only at hSw); go_simp; first | done | with_reducible rfl)
              try simp only [Act.put, List.setIfInBounds_toArray, List.set_cons_zero, List.set_cons_succ]
              refine wpAnyH_take (i := 22) (oi := { dst := some 115, op := Go.Op.move (Go.Operand.tmp 20), type := 38, pos := "law.go:259", after := #[{ on := 21, ground := Go.Ground.guard }], guard := some (21, false) }) (v := ?v22) rfl (by kernel_rfl) (by kernel_rfl) (by kernel_rfl) (fun _ _ _ h => h) (Or.inl ⟨by rfl, ?hy22⟩) hHeld ?_
              case hy22 => (intro w hSw; (try dsimp only at hSw); go_simp; first | done | with_reducible rfl)
              try simp only [Act.put, List.setIfInBounds_toArray, List.set_cons_zero, List.set_cons_succ]
              refine wpAnyH_take (i := 23) (oi := { dst := some 116, op := Go.Op.convert 38 9 (Go.Operand.tmp 115), type := 9, pos := "law.go:259", after := #[{ on := 22, ground := Go.Ground.data }, { on := 21, ground := Go.Ground.guard }], guard := some (21, false) }) (v := ?v23) rfl (by kernel_rfl) (by kernel_rfl) (by kernel_rfl) (fun _ _ _ h => h) (Or.inl ⟨by rfl, ?hy23⟩) hHeld ?_
              case hy23 => (intro w hSw; (try dsimp only at hSw); go_simp; first | done | with_reducible rfl)
              try simp only [Act.put, List.setIfInBounds_toArray, List.set_cons_zero, List.set_cons_succ]
              refine wpAnyH_take (i := 24) (oi := { dst := some 117, op := Go.Op.move (Go.Operand.tmp 1), type := 3, pos := "law.go:259", after := #[{ on := 21, ground := Go.Ground.guard }], guard := some (21, false) }) (v := ?v24) rfl (by kernel_rfl) (by kernel_rfl) (by kernel_rfl) (fun _ _ _ h => h) (Or.inl ⟨by rfl, ?hy24⟩) hHeld ?_
              case hy24 => (intro w hSw; (try dsimp only at hSw); go_simp; first | done | with_reducible rfl)
              try simp only [Act.put, List.setIfInBounds_toArray, List.set_cons_zero, List.set_cons_succ]
              refine wpAnyH_ready (rs := [25]) (by kernel_rfl) (by simp) ?_
              refine AllReadyH.cons (o := { dst := some 118, op := Go.Op.makeSlice 38 (Go.Operand.tmp 117) (Go.Operand.tmp 117), type := 38, pos := "law.go:259", after := #[{ on := 24, ground := Go.Ground.data }, { on := 24, ground := Go.Ground.data }, { on := 21, ground := Go.Ground.guard }], guard := some (21, false) }) rfl (fun K hK => ?_) AllReadyH.nil
              go_simp
              refine hK.out _ _ (⟨hub2, hcv2⟩) (fun hHeld => ?_)
              clear hK K
              try simp only [Act.put, List.setIfInBounds_toArray, List.set_cons_zero, List.set_cons_succ]
              refine wpAnyH_ready (rs := [26]) (by kernel_rfl) (by simp) ?_
              refine AllReadyH.cons (o := { dst := some 119, op := Go.Op.convert 38 9 (Go.Operand.tmp 118), type := 9, pos := "law.go:259", after := #[{ on := 25, ground := Go.Ground.data }, { on := 21, ground := Go.Ground.guard }], guard := some (21, false) }) rfl (fun K hK => ?_) AllReadyH.nil
              go_simp
              refine hK.out _ _ (⟨hub2, hcv2⟩) (fun hHeld => ?_)
              clear hK K
              try simp only [Act.put, List.setIfInBounds_toArray, List.set_cons_zero, List.set_cons_succ]
              refine wpAnyH_take (i := 27) (oi := { dst := some 120, op := Go.Op.binOp Go.BinOp.neq 9 (Go.Operand.tmp 116) (Go.Operand.tmp 119) 9, type := 4, pos := "law.go:259", after := #[{ on := 23, ground := Go.Ground.data }, { on := 26, ground := Go.Ground.data }, { on := 21, ground := Go.Ground.guard }], guard := some (21, false) }) (v := ?v27) rfl (by kernel_rfl) (by kernel_rfl) (by kernel_rfl) (fun _ _ _ h => h) (Or.inl ⟨by rfl, ?hy27⟩) hHeld ?_
              case hy27 => (intro w hSw; (try dsimp only at hSw); go_simp; first | done | with_reducible rfl)
              try simp only [Act.put, List.setIfInBounds_toArray, List.set_cons_zero, List.set_cons_succ]
              refine wpAnyH_take (i := 28) (oi := { dst := some 121, op := Go.Op.pick (Go.Operand.tmp 114) (Go.Operand.const (Go.Value.bool true)) (Go.Operand.tmp 120), type := 4, pos := "law.go:259", after := #[{ on := 21, ground := Go.Ground.data }, { on := 27, ground := Go.Ground.data }], guard := none }) (v := ?v28) rfl (by kernel_rfl) (by kernel_rfl) (by kernel_rfl) (fun _ _ _ h => h) (Or.inl ⟨by rfl, ?hy28⟩) hHeld ?_
              case hy28 => (intro w hSw; (try dsimp only at hSw); go_simp; first | done | with_reducible rfl)
              try simp only [Act.put, List.setIfInBounds_toArray, List.set_cons_zero, List.set_cons_succ]
              refine wpAnyH_done (by kernel_rfl) ?_ _
              go_wp2_with fail
              refine HWR.out.mono ?_
              rintro e w7 ⟨rfl, hst7⟩
              have HS7 := Lib.hid hst7
              clear hst7 q0 f0 hmk hmk3 hcv hcv2 hcv3 hub hub2 hfz2 hHeld
              by_cases hl2 : k < len2
              · obtain ⟨g2, o2, rfl, hg2, hc2⟩ := HI.out.cells (by omega)
                have hcz := (HS7.out.bel.1.cell (p := ⟨g2, o2 + k, none⟩) hg2).trans (hc2 k hl2)
                obtain ⟨zv, hzv⟩ : ∃ zv, zs2.getD k 0 = zv := ⟨_, rfl⟩
                rw [hzv] at hcz
                have HCZ0 := Lib.hid (hc2 k hl2)
                clear hc2
                rw [hzv] at HCZ0
                clear hzv
                by_cases hz0 : 0 ≤ zv
                · by_cases hzN : zv < (N : Int)
                  · obtain ⟨zn, rfl⟩ : ∃ zn : Nat, zv = zn := ⟨zv.toNat, by omega⟩
                    have hznN : zn < N := by omega
                    have hcu := (HS7.out.bel.2.cell zn hznN).1
                    cases hu : upd U r true zn
                    · rw [hu] at hcu
                      clear hu
                      go_wp2
                      go_roundw
                      case rel => exact ⟨k + 1, left - 1, _, _, by omega, by omega, by go_num, by go_num, HTW2.out, HS7.out⟩
                      case measure => simp [RowKit.intOf]; omega
                    · rw [hu] at hcu
                      obtain ⟨hg1, hg2', hg3⟩ := HTW2.out.give zn hznN hu
                      have HG1 := Lib.hid (uGive w w7 pp t q g s0 1 N Bz M (fun _ => zeros Bz) _ _ ub HS7.out (zn : Int))
                      rw [hg1] at HG1
                      have HTW3 := Lib.hid hg2'
                      obtain ⟨T3, hT3⟩ : ∃ T3, (TX.give N Bz M ((T.take N Bz M).1.write N Bz M (r : Int) (markB Bz r)).1 (zn : Int)).1 = T3 := ⟨_, rfl⟩
                      rw [hT3] at hg3 HG1 HTW3
                      have HG3 := Lib.hid hg3
                      have hcz7 := hcz
                      clear hu hg1 hg2' hg3 hT3
                      go_wp2_with fail
                      refine HG1.out.mono ?_
                      rintro e w8 ⟨rfl, hst8⟩
                      have hcz8 := (hst8.bel.1.cell (p := ⟨g2, o2 + k, none⟩) hg2).trans HCZ0.out
                      have HG2 := Lib.hid (uGive w w8 pp t q g s0 1 N Bz M (fun _ => zeros Bz) T3 _ ub hst8 (zn : Int))
                      rw [HG3.out] at HG2
                      clear hst8
                      go_wp2_with fail
                      refine HG2.out.mono ?_
                      rintro e w9 ⟨rfl, hst9⟩
                      have hcz9 := (hst9.bel.1.cell (p := ⟨g2, o2 + k, none⟩) hg2).trans HCZ0.out
                      obtain ⟨hcu9, hfz9⟩ := hst9.bel.2.cell zn hznN
                      have HS9 := Lib.hid (hst9.setU zn false)
                      clear hst9
                      go_wp2
                      go_roundw
                      case rel => exact ⟨k + 1, left - 1 + 1, T3, _, by omega, by omega, by go_num, by go_num, HTW3.out, HS9.out⟩
                      case measure => simp [RowKit.intOf]; omega
                  · go_wp2
                    go_roundw
                    case rel => exact ⟨k + 1, left - 1, _, _, by omega, by omega, by go_num, by go_num, HTW2.out, HS7.out⟩
                    case measure => simp [RowKit.intOf]; omega
                · go_wp2
                  go_roundw
                  case rel => exact ⟨k + 1, left - 1, _, _, by omega, by omega, by go_num, by go_num, HTW2.out, HS7.out⟩
                  case measure => simp [RowKit.intOf]; omega
              · go_wp2
                go_roundw
                case rel => exact ⟨k + 1, left - 1, _, _, by omega, by omega, by go_num, by go_num, HTW2.out, HS7.out⟩
                case measure => simp [RowKit.intOf]; omega
          · obtain ⟨TT, hTT⟩ : ∃ TT, T = TT := ⟨_, rfl⟩
            obtain ⟨UU, hUU⟩ : ∃ UU, U = UU := ⟨_, rfl⟩
            rw [hTT, hUU] at HTW HST
            clear hst htw hTT hUU
            go_wp2
            go_loopw [23] (fun i wr => ∃ k : Nat, k ≤ N ∧ i = .int .i64 k ∧ St w wr pp t q g s0 1 N Bz M (fun _ => zeros Bz) TT UU ub) (fun i _ => N - (RowKit.intOf i).toNat)
            case atStart => exact ⟨0, Nat.zero_le _, rfl, HST.out⟩
            case round =>
              obtain ⟨k, hk, rfl, hst⟩ := hrel
              have HS2 := Lib.hid hst
              by_cases hlt : k < N
              · have HRD := Lib.hid (uRead w wr pp t q g s0 1 N Bz M (fun _ => zeros Bz) TT UU ub hst (k : Int))
                have hus := HTW.out.us k hlt
                cases hu : UU k
                · rw [hu] at hus
                  have hrd : TT.read N Bz M (k : Int) = ([], 1) := by unfold TX.read; rw [← hus]; simp
                  rw [hrd] at HRD
                  have HU := Lib.hid hu
                  clear hst hus hu hrd
                  go_wp2_with fail
                  refine HRD.out.mono ?_
                  rintro e w8 ⟨A8, c8, rfl, hr8, hst8⟩
                  have hcu := (hst8.bel.2.cell k hlt).1
                  rw [HU.out] at hcu
                  have HS8 := Lib.hid hst8
                  clear hst8 hr8
                  go_wp2
                  go_roundw
                  case rel => exact ⟨k + 1, by omega, by go_num, HS8.out⟩
                  case measure => simp [RowKit.intOf]; omega
                · rw [hu] at hus
                  have hrd : TT.read N Bz M (k : Int) = (markB Bz k, 0) := by
                    unfold TX.read
                    rw [← hus, HTW.out.live]
                    have := HTW.out.by_ k hlt hus.symm
                    show (TT.L ((k : Int)).toNat, (0 : Int)) = _
                    rw [show ((k : Int)).toNat = k by omega, this]
                  rw [hrd] at HRD
                  simp only [markB_len] at HRD
                  have HU := Lib.hid hu
                  clear hst hus hu hrd
                  go_wp2_with fail
                  refine HRD.out.mono ?_
                  rintro e w8 ⟨A8, c8, rfl, hr8, hst8⟩
                  have hcu := (hst8.bel.2.cell k hlt).1
                  rw [HU.out] at hcu
                  have HS8 := Lib.hid hst8
                  obtain ⟨g8, o8, rfl, hg8, hc8⟩ := hr8.cells (by omega)
                  have hb8 := hc8 0 (by omega)
                  rw [mark_get k Bz (by omega), Nat.add_zero] at hb8
                  have hxv : ((UInt8.ofNat (k % 255 + 1)).toNat : Int) = (k : Int) % 255 + 1 := by
                    have : (UInt8.ofNat (k % 255 + 1)).toNat = k % 255 + 1 := by simp; omega
                    rw [this]; omega
                  obtain ⟨x8, hx8⟩ : ∃ x, UInt8.ofNat (k % 255 + 1) = x := ⟨_, rfl⟩
                  rw [hx8] at hb8 hxv
                  have hneq : ((x8.toNat : Int) != (k : Int) % 255 + 1) = false := by rw [hxv]; simp
                  have hwx : IntKind.i64.wrap (x8.toNat : Int) = (x8.toNat : Int) := IntWalk.i64_in _ (by have := x8.toNat_lt; omega)
                  have hi0 : 0 < Bz := by omega
                  clear hst8 hr8 hc8 hx8
                  go_wp2
                  go_roundw
                  case rel => exact ⟨k + 1, by omega, by go_num, HS8.out⟩
                  case measure => simp [RowKit.intOf]; omega
              · have HB9 := Lib.hid hst.bel.1
                clear hst
                go_wp2_with fail
                refine (awake_any wr).mono ?_
                rintro e w9 ⟨rfl, hb9⟩
                have HB10 := Lib.hid (HB9.out.trans (hb9.mono HB9.out.size))
                clear hb9
                go_wp2
                go_ret
                exact ⟨rfl, HB10.out⟩
      · simp only [if_neg hMN] at HO
        go_wp2_with fail
        refine HO.out.mono ?_
        rintro e w2 ⟨rfl, hf2⟩
        have HB2 := Lib.hid (HB1.out.trans (hf2.below HD.out HB1.out.size))
        clear hf2
        go_wp2_with fail
        refine (awake_any w2).mono ?_
        rintro e w5 ⟨rfl, hb5⟩
        have HB5 := Lib.hid (HB2.out.trans (hb5.mono HB2.out.size))
        clear hb5
        go_wp2
        go_ret
        exact ⟨rfl, HB5.out⟩
    · clear hq2 hsm w0 w1
      go_enter Try.func3, Try.ntmps3
      go_wp2_with fail
      refine HS.out.mono ?_
      rintro e w1 ⟨rfl, rfl⟩
      go_wp2
      go_ret
      exact ⟨rfl, Below.refl _ _⟩
  · have HS := Lib.hid (fun c => small_no a0 a1 c hsm w)
    clear hq2 hsm w0 w1
    go_enter Try.func3, Try.ntmps3
    go_wp2_with fail
    refine (HS.out _).mono ?_
    rintro e w1 ⟨rfl, rfl⟩
    go_wp2
    go_ret
    exact ⟨rfl, Below.refl _ _⟩

set_option maxRecDepth 100000 in
theorem lifted (os : Os) (started : os.Started) (H : Type) (enc : TypeId × Value → H) :
    ReturnsInHanded {} Try.checked os 3 .any (Rows.pagesTwiceSpec.pre6 enc Try.prog Try.f3 Rows.pagesTwiceRow.domain false) (Rows.pagesTwiceSpec.post enc Try.prog Try.f3 false true false false) := by
  refine returnsInHanded_of_change (C := Try.checked) own started (by kernel_rfl) Try.func3
    (ChangeSpec.witness6 (enc := enc) (C := Try.checked) false ⟨#[], #[.int .i64 0, .int .i64 0, .slice none 0 0], []⟩ 8 (by kernel_rfl) (by kernel_rfl) (by kernel_rfl) (by kernel_rfl)) ?_
  intro W base args ds gs before hval0 hW hcnd _
  have hval : ∀ (j : Nat) t v, Try.f3.params[j]? = some t → args[j]? = some v → Value.okWide Try.prog W .any base t v := hval0
  have hW' := hW
  obtain ⟨p, q, hA0, hV, rfl, hfz, hnd⟩ := hW
  have hA : DataW.TrodAll enc Try.prog W 0 (fun _ => true) true Try.f3.params.toList args.toList ds p := hA0
  rw [Try.params3] at hA hval
  obtain ⟨v0, vs0, d0, ds0, p0, q0, hargs, rfl, rfl, h0, r0⟩ := trodAll_cons hA
  obtain ⟨v1, vs1, d1, ds1, p1, q1, rfl, rfl, rfl, h1, r1⟩ := trodAll_cons r0
  obtain ⟨v2, vs2, d2, ds2, p2, q2, rfl, rfl, rfl, h2, r2⟩ := trodAll_cons r1
  obtain ⟨rfl, rfl, rfl⟩ := trodAll_nil r2
  obtain rfl : args = #[v0, v1, v2] := by cases args; simp_all
  obtain ⟨rfl, rfl⟩ := trodVars_none hV
  obtain ⟨a0, rfl, rfl, rfl, w0⟩ := open_int Try.underlying3 (hval 0 3 v0 rfl rfl) h0
  obtain ⟨a1, rfl, rfl, rfl, w1⟩ := open_int Try.underlying3 (hval 1 3 v1 rfl rfl) h1
  obtain ⟨a2, len2, cap2, rfl⟩ := okWide_slice Try.underlying22 (hval 2 22 v2 rfl rfl)
  have k2 := h2
  have lt2 : ∀ x ∈ p2, x.block < W.heap.size := by obtain ⟨m, hm⟩ := k2; exact DataW.trod_lt m _ _ _ hm
  have w2 : IsI W a2 len2 cap2 := by
    obtain ⟨fuel, hf⟩ := h2
    exact IsI.of hf
  clear hA0 hval0
  refine (walk a0 a1 a2 len2 cap2 W w0 w1 w2).mono fun e W' ⟨he, bel⟩ => ?_
  subst he
  exact ⟨_, rfl, _, _, _, [], _, [], hW', trodAll_mk1 (shut_bool Try.underlying4 _), (trodAll_cons_mk (shut_int Try.underlying3 w0) (trodAll_cons_mk (shut_int Try.underlying3 w1) (trodAll_cons_mk (Below.trod laidOut (by kernel_rfl) (of_decide_eq_true (by kernel_rfl)) k2 bel lt2) trodAll_mk0))), rfl, bel.frame _, fun h => by cases h⟩

theorem over : Rows.pagesTwiceRow.holds Try.pinned (OpenSpec.ofChange Rows.pagesTwiceSpec) :=
  OpenClaim.holds_of_wide 3 Try.f3 rfl rfl rfl rfl rfl rfl rfl ⟨rfl, rfl, rfl, rfl, rfl⟩ rfl rfl rfl rfl rfl (by kernel_rfl) Try.func3 (by kernel_rfl)
    (of_decide_eq_true (by kernel_rfl)) (by unfold Func.isWrapper; first | (rw [if_pos (by decide +kernel)]; kernel_rfl) | (rw [if_neg (by decide +kernel)]; exact ⟨rfl, rfl⟩))
    (fun os started H enc _ => lifted os started H enc)

/-- the statement. -/
theorem proved : Rows.PagesTwiceSaid := over
#print axioms proved
end Go.Proofs.Ytjoglmkiphdfiaa.pagesTwice
