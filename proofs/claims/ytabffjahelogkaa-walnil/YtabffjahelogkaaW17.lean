/- The document's example of a wal. Conditions: none. -/
import Derived.Test.YtabffjahelogkaaW16
namespace Go.Proofs.Ytabffjahelogkaa
open Go.RowKit Go.Bs Go.Dk

set_option maxHeartbeats 4000000 in
theorem awake_any (w : World) : Calls Try.prog 9 #[] w fun e w' => e = .returned (.bool true) ∧ Below w.heap.size w w' := by
  have hN := Lib.hid (New_any 8 16 (by omega) (by omega) (by omega) (by omega) w)
  go_enter Try.func9, Try.ntmps9
  go_wp2_with fail
  refine hN.out.mono ?_
  rintro e w1 ⟨g, D1, rfl, hd1, hk1, hb1⟩
  have HO := Lib.hid (Open_yes w1 g w0 D1 hd1 2 rfl (w0, 0) (fun W p h => redo_un W p g w0 2 false D1 h rfl (by decide)))
  have HD1 := Lib.hid hd1
  have HK1 := Lib.hid hk1
  have HB1 := Lib.hid hb1
  clear hd1 hk1 hb1 hN
  go_wp2_with fail
  refine HO.out.mono ?_
  rintro e w2 ⟨v, rfl, ⟨_, p, D2, rfl, hp2, hw2, hD2, hf2⟩ | ⟨hno, _⟩⟩
  rotate_left
  · exact absurd rfl hno
  have H2 : Hid (WF w w2 p g w0 2 false []) := ⟨D2, hw2, fun k hk => (hD2 k hk).elim (HK1.out k) (fun h => Nat.le_trans HB1.out.size h), Nat.le_trans HB1.out.size hp2, HB1.out.trans (hf2.below HK1.out HB1.out.size), fun t ht => by cases ht⟩
  clear hw2 hD2 hf2 hp2 HO HD1 HK1 HB1
  go_wp2_with fail
  refine (bytes_any 1 w2).mono ?_
  rintro e w3 ⟨rfl, hka, hba⟩
  have HKA := Lib.hid hka
  have HBA := Lib.hid hba
  clear hka hba
  go_wp2_with fail
  refine (bytes_any 2 w3).mono ?_
  rintro e w4 ⟨rfl, hkb, hbb⟩
  have HKB := Lib.hid hkb
  have HBB := Lib.hid hbb
  clear hkb hbb
  obtain ⟨za, hza⟩ : ∃ z, w2.heap.size = z := ⟨_, rfl⟩
  obtain ⟨zb, hzb⟩ : ∃ z, w3.heap.size = z := ⟨_, rfl⟩
  obtain ⟨zc, hzc⟩ : ∃ z, w4.heap.size = z := ⟨_, rfl⟩
  obtain ⟨w5, hw5⟩ : ∃ w5, w4.alloc (.cells #[.int .i64 0, .slice (some ⟨za, 0, none⟩) 16 16, .int .i64 4, .slice (some ⟨zb, 0, none⟩) 16 16] 59) = w5 := ⟨_, rfl⟩
  have HC5 := Lib.hid (commit_at H2.out HBA.out HBB.out HKA.out HKB.out hza hzb hzc hw5)
  rw [hza, hzb]
  go_wp2_with fail
  refine HC5.out.mono ?_
  rintro e w6 ⟨rfl, h6⟩
  have HR := Lib.hid (Read_wf h6 0 _ _ r0_eq (by decide))
  clear h6 hw5 hza hzb hzc HC5 HKA HKB HBA HBB H2
  go_wp2_with fail
  refine HR.out.mono ?_
  rintro e w7 ⟨qa, rfl, h7⟩
  have HR4 := Lib.hid (Read_wf h7 4 _ _ r4_eq (by decide))
  clear h7 HR
  go_wp2_with fail
  refine HR4.out.mono ?_
  rintro e w8 ⟨qb, rfl, h8⟩
  have H8 : Hid (WF w w8 p g w1S 2 false [(qb, by16 2), (qa, by16 1)]) := h8
  clear h8 HR4
  go_wp2_with fail
  refine (bytes_any 1 w8).mono ?_
  rintro e w9 ⟨rfl, hka, hba⟩
  have HKA := Lib.hid hka
  have HBA := Lib.hid hba
  clear hka hba
  go_wp2_with fail
  refine (bytes_any 1 w9).mono ?_
  rintro e w10 ⟨rfl, hkb, hbb⟩
  have HKB := Lib.hid hkb
  have HBB := Lib.hid hbb
  clear hkb hbb
  go_wp2_with fail
  refine (bytes_any 1 w10).mono ?_
  rintro e w11 ⟨rfl, hkc, hbc⟩
  have HKC := Lib.hid hkc
  have HBC := Lib.hid hbc
  clear hkc hbc
  obtain ⟨za, hza⟩ : ∃ z, w8.heap.size = z := ⟨_, rfl⟩
  obtain ⟨zb, hzb⟩ : ∃ z, w9.heap.size = z := ⟨_, rfl⟩
  obtain ⟨zc, hzc⟩ : ∃ z, w10.heap.size = z := ⟨_, rfl⟩
  obtain ⟨zd, hzd⟩ : ∃ z, w11.heap.size = z := ⟨_, rfl⟩
  obtain ⟨w12, hw12⟩ : ∃ w12, w11.alloc (.cells #[.int .i64 0, .slice (some ⟨za, 0, none⟩) 16 16, .int .i64 1, .slice (some ⟨zb, 0, none⟩) 16 16, .int .i64 2, .slice (some ⟨zc, 0, none⟩) 16 16] 59) = w12 := ⟨_, rfl⟩
  have HC := Lib.hid (commit_at3 H8.out HBA.out HBB.out HBC.out HKA.out HKB.out HKC.out hza hzb hzc hzd hw12)
  rw [hza, hzb, hzc]
  go_wp2_with fail
  refine HC.out.mono ?_
  rintro e wd ⟨rfl, hwd⟩
  have HD : Hid (WF w wd p g w1S 2 false [(qb, by16 2), (qa, by16 1)]) := hwd
  clear hwd hw12 hza hzb hzc hzd HC HKA HKB HKC HBA HBB HBC H8
  go_wp2_with fail
  refine (bytes_any 1 wd).mono ?_
  rintro e we ⟨rfl, hka, hba⟩
  have HKA := Lib.hid hka
  have HBA := Lib.hid hba
  clear hka hba
  obtain ⟨za, hza⟩ : ∃ z, wd.heap.size = z := ⟨_, rfl⟩
  obtain ⟨zb, hzb⟩ : ∃ z, we.heap.size = z := ⟨_, rfl⟩
  obtain ⟨wf, hwf⟩ : ∃ wf, we.alloc (.cells #[.int .i64 5, .slice (some ⟨za, 0, none⟩) 16 16] 59) = wf := ⟨_, rfl⟩
  have HC := Lib.hid (commit_at1 HD.out HBA.out HKA.out hza hzb hwf)
  rw [hza]
  go_wp2_with fail
  refine HC.out.mono ?_
  rintro e wg ⟨rfl, hwg⟩
  have HG : Hid (WF w wg p g w1S 2 false [(qb, by16 2), (qa, by16 1)]) := hwg
  have HSZ := Lib.hid (Size_wf HG.out)
  clear hwg hwf hza hzb HC HKA HBA HD
  go_wp2_with fail
  refine HSZ.out.mono ?_
  rintro e wh ⟨rfl, hbh⟩
  have H13 := Lib.hid (HG.out.below hbh)
  clear hbh HSZ HG
  have hva := (H13.out.blk (qa, by16 1) (by simp)).all' 16 16 rfl (Nat.le_refl _)
  have hvb := (H13.out.blk (qb, by16 2) (by simp)).all' 16 16 rfl (Nat.le_refl _)
  have e16 : (by16 1).length = 16 := rfl
  have e16' : (by16 2).length = 16 := rfl
  rw [e16, e16']
  obtain ⟨va, hvae⟩ : ∃ v, Value.slice (some ⟨qa, 0, none⟩) 16 16 = v := ⟨_, rfl⟩
  obtain ⟨vb, hvbe⟩ : ∃ v, Value.slice (some ⟨qb, 0, none⟩) 16 16 = v := ⟨_, rfl⟩
  have HCA : Hid (∀ W, Below wh.heap.size wh W → (convert 24 9 va).run Try.prog W = .ok (.string ⟨(by16 1).toArray⟩) W) := fun W hb => by rw [← hvae]; exact string_rd W _ _ _ _ (hva.keep hb)
  have HCB : Hid (∀ W, Below wh.heap.size wh W → (convert 24 9 vb).run Try.prog W = .ok (.string ⟨(by16 2).toArray⟩) W) := fun W hb => by rw [← hvbe]; exact string_rd W _ _ _ _ (hvb.keep hb)
  rw [hvae, hvbe]
  clear hva hvb hvae hvbe e16 e16'
  have hnb : (nbl w1S 2 : Int) = 5 := rfl
  have hnm : (w1S.bytes : Int) = 16 := rfl
  rw [hnb, hnm]
  clear hnb hnm
  go_wp2_with fail
  have hd1 : Below wh.heap.size wh wh.drew := (Below.refl _ _).drew
  refine wp_region_held_drew (S := fun W => (convert 24 9 va).run Try.prog W = .ok (.string ⟨(by16 1).toArray⟩) W ∧ (convert 24 9 vb).run Try.prog W = .ok (.string ⟨(by16 2).toArray⟩) W) (by kernel_rfl) (⟨HCA.out _ hd1, HCB.out _ hd1⟩) (fun hHeld => ?_)
  refine wpAnyH_take (i := 0) (oi := { dst := some 65, op := Go.Op.move (Go.Operand.tmp 5), type := 25, pos := "law.go:39", after := #[], guard := none }) (v := ?v0) rfl (by kernel_rfl) (by kernel_rfl) (by kernel_rfl) (fun _ _ _ h => h) (Or.inl ⟨by rfl, ?hy0⟩) hHeld ?_
  case hy0 => (intro w hSw; (try dsimp only at hSw); go_simp; first | done | with_reducible rfl)
  try simp only [Act.put, List.setIfInBounds_toArray, List.set_cons_zero, List.set_cons_succ]
  refine wpAnyH_take (i := 1) (oi := { dst := some 66, op := Go.Op.binOp Go.BinOp.eql 25 (Go.Operand.tmp 65) (Go.Operand.const (Go.Value.int Go.IntKind.i64 0)) 25, type := 4, pos := "law.go:39", after := #[{ on := 0, ground := Go.Ground.data }], guard := none }) (v := ?v1) rfl (by kernel_rfl) (by kernel_rfl) (by kernel_rfl) (fun _ _ _ h => h) (Or.inl ⟨by rfl, ?hy1⟩) hHeld ?_
  case hy1 => (intro w hSw; (try dsimp only at hSw); go_simp; first | done | with_reducible rfl)
  try simp only [Act.put, List.setIfInBounds_toArray, List.set_cons_zero, List.set_cons_succ]
  refine wpAnyH_take (i := 2) (oi := { dst := some 67, op := Go.Op.move (Go.Operand.tmp 66), type := 4, pos := "law.go:39", after := #[{ on := 1, ground := Go.Ground.data }], guard := none }) (v := ?v2) rfl (by kernel_rfl) (by kernel_rfl) (by kernel_rfl) (fun _ _ _ h => h) (Or.inl ⟨by rfl, ?hy2⟩) hHeld ?_
  case hy2 => (intro w hSw; (try dsimp only at hSw); go_simp; first | done | with_reducible rfl)
  try simp only [Act.put, List.setIfInBounds_toArray, List.set_cons_zero, List.set_cons_succ]
  refine wpAnyH_take (i := 3) (oi := { dst := some 68, op := Go.Op.move (Go.Operand.tmp 6), type := 24, pos := "law.go:39", after := #[{ on := 2, ground := Go.Ground.guard }], guard := some (2, true) }) (v := ?v3) rfl (by kernel_rfl) (by kernel_rfl) (by kernel_rfl) (fun _ _ _ h => h) (Or.inl ⟨by rfl, ?hy3⟩) hHeld ?_
  case hy3 => (intro w hSw; (try dsimp only at hSw); go_simp; first | done | with_reducible rfl)
  try simp only [Act.put, List.setIfInBounds_toArray, List.set_cons_zero, List.set_cons_succ]
  refine wpAnyH_take (i := 4) (oi := { dst := some 69, op := Go.Op.convert 24 9 (Go.Operand.tmp 68), type := 9, pos := "law.go:39", after := #[{ on := 3, ground := Go.Ground.data }, { on := 2, ground := Go.Ground.guard }], guard := some (2, true) }) (v := ?v4) rfl (by kernel_rfl) (by kernel_rfl) (by kernel_rfl) (fun _ _ _ h => h) (Or.inl ⟨by rfl, ?hy4⟩) hHeld ?_
  case hy4 => (intro w hSw; (try dsimp only at hSw); go_simp; first | done | with_reducible rfl)
  try simp only [Act.put, List.setIfInBounds_toArray, List.set_cons_zero, List.set_cons_succ]
  refine wpAnyH_ready (rs := [5]) (by kernel_rfl) (by simp) ?_
  refine AllReadyH.cons (o := { dst := some 70, op := Go.Op.call { callee := Go.Callee.value (Go.Operand.func 23), args := #[Go.Operand.const (Go.Value.int Go.IntKind.u8 1)], argTypes := #[5] }, type := 24, pos := "law.go:39", after := #[{ on := 2, ground := Go.Ground.chain }, { on := 2, ground := Go.Ground.guard }], guard := some (2, true) }) rfl (fun K hK => ?_) AllReadyH.nil
  go_simp
  refine (bytes_any 1 _).mono ?_
  rintro e wA ⟨rfl, hkA, hbA⟩
  have hd2 := bstep hd1 hbA
  have e3 := string_rd wA _ _ _ _ (hkA.all' 16 16 rfl (Nat.le_refl _))
  generalize Value.slice _ 16 16 = vA at e3 ⊢
  clear hkA hbA
  go_wp2_with fail
  refine hK.out _ _ (⟨HCA.out _ hd2, HCB.out _ hd2⟩) (fun hHeld => ?_)
  clear hK K
  try simp only [Act.put, List.setIfInBounds_toArray, List.set_cons_zero, List.set_cons_succ]
  refine wpAnyH_ready (rs := [6]) (by kernel_rfl) (by simp) ?_
  refine AllReadyH.cons (o := { dst := some 71, op := Go.Op.convert 24 9 (Go.Operand.tmp 70), type := 9, pos := "law.go:39", after := #[{ on := 5, ground := Go.Ground.data }, { on := 2, ground := Go.Ground.guard }], guard := some (2, true) }) rfl (fun K hK => ?_) AllReadyH.nil
  go_simp
  refine hK.out _ _ (hHeld) (fun hHeld => ?_)
  clear hK K
  try simp only [Act.put, List.setIfInBounds_toArray, List.set_cons_zero, List.set_cons_succ]
  refine wpAnyH_take (i := 7) (oi := { dst := some 72, op := Go.Op.binOp Go.BinOp.eql 9 (Go.Operand.tmp 69) (Go.Operand.tmp 71) 9, type := 4, pos := "law.go:39", after := #[{ on := 4, ground := Go.Ground.data }, { on := 6, ground := Go.Ground.data }, { on := 2, ground := Go.Ground.guard }], guard := some (2, true) }) (v := ?v7) rfl (by kernel_rfl) (by kernel_rfl) (by kernel_rfl) (fun _ _ _ h => h) (Or.inl ⟨by rfl, ?hy7⟩) hHeld ?_
  case hy7 => (intro w hSw; (try dsimp only at hSw); go_simp; first | done | with_reducible rfl)
  try simp only [Act.put, List.setIfInBounds_toArray, List.set_cons_zero, List.set_cons_succ]
  refine wpAnyH_take (i := 8) (oi := { dst := some 73, op := Go.Op.pick (Go.Operand.tmp 67) (Go.Operand.tmp 72) (Go.Operand.const (Go.Value.bool false)), type := 4, pos := "law.go:39", after := #[{ on := 2, ground := Go.Ground.data }, { on := 7, ground := Go.Ground.data }], guard := none }) (v := ?v8) rfl (by kernel_rfl) (by kernel_rfl) (by kernel_rfl) (fun _ _ _ h => h) (Or.inl ⟨by rfl, ?hy8⟩) hHeld ?_
  case hy8 => (intro w hSw; (try dsimp only at hSw); go_simp; first | done | with_reducible rfl)
  try simp only [Act.put, List.setIfInBounds_toArray, List.set_cons_zero, List.set_cons_succ]
  refine wpAnyH_take (i := 9) (oi := { dst := some 74, op := Go.Op.move (Go.Operand.tmp 73), type := 4, pos := "law.go:39", after := #[{ on := 8, ground := Go.Ground.data }, { on := 5, ground := Go.Ground.chain }], guard := none }) (v := ?v9) rfl (by kernel_rfl) (by kernel_rfl) (by kernel_rfl) (fun _ _ _ h => h) (Or.inl ⟨by rfl, ?hy9⟩) hHeld ?_
  case hy9 => (intro w hSw; (try dsimp only at hSw); go_simp; first | done | with_reducible rfl)
  try simp only [Act.put, List.setIfInBounds_toArray, List.set_cons_zero, List.set_cons_succ]
  refine wpAnyH_take (i := 10) (oi := { dst := some 75, op := Go.Op.move (Go.Operand.tmp 8), type := 24, pos := "law.go:39", after := #[{ on := 9, ground := Go.Ground.guard }], guard := some (9, true) }) (v := ?v10) rfl (by kernel_rfl) (by kernel_rfl) (by kernel_rfl) (fun _ _ _ h => h) (Or.inl ⟨by rfl, ?hy10⟩) hHeld ?_
  case hy10 => (intro w hSw; (try dsimp only at hSw); go_simp; first | done | with_reducible rfl)
  try simp only [Act.put, List.setIfInBounds_toArray, List.set_cons_zero, List.set_cons_succ]
  refine wpAnyH_take (i := 11) (oi := { dst := some 76, op := Go.Op.convert 24 9 (Go.Operand.tmp 75), type := 9, pos := "law.go:39", after := #[{ on := 10, ground := Go.Ground.data }, { on := 9, ground := Go.Ground.guard }], guard := some (9, true) }) (v := ?v11) rfl (by kernel_rfl) (by kernel_rfl) (by kernel_rfl) (fun _ _ _ h => h) (Or.inl ⟨by rfl, ?hy11⟩) hHeld ?_
  case hy11 => (intro w hSw; (try dsimp only at hSw); go_simp; first | done | with_reducible rfl)
  try simp only [Act.put, List.setIfInBounds_toArray, List.set_cons_zero, List.set_cons_succ]
  refine wpAnyH_ready (rs := [12]) (by kernel_rfl) (by simp) ?_
  refine AllReadyH.cons (o := { dst := some 77, op := Go.Op.call { callee := Go.Callee.value (Go.Operand.func 23), args := #[Go.Operand.const (Go.Value.int Go.IntKind.u8 2)], argTypes := #[5] }, type := 24, pos := "law.go:39", after := #[{ on := 9, ground := Go.Ground.chain }, { on := 9, ground := Go.Ground.guard }], guard := some (9, true) }) rfl (fun K hK => ?_) AllReadyH.nil
  go_simp
  refine (bytes_any 2 _).mono ?_
  rintro e wB ⟨rfl, hkB, hbB⟩
  have hd3 := bstep hd2 hbB
  have e4 := string_rd wB _ _ _ _ (hkB.all' 16 16 rfl (Nat.le_refl _))
  generalize Value.slice _ 16 16 = vB at e4 ⊢
  clear hkB hbB e3
  go_wp2_with fail
  refine hK.out _ _ (⟨HCA.out _ hd3, HCB.out _ hd3⟩) (fun hHeld => ?_)
  clear hK K
  try simp only [Act.put, List.setIfInBounds_toArray, List.set_cons_zero, List.set_cons_succ]
  refine wpAnyH_ready (rs := [13]) (by kernel_rfl) (by simp) ?_
  refine AllReadyH.cons (o := { dst := some 78, op := Go.Op.convert 24 9 (Go.Operand.tmp 77), type := 9, pos := "law.go:39", after := #[{ on := 12, ground := Go.Ground.data }, { on := 9, ground := Go.Ground.guard }], guard := some (9, true) }) rfl (fun K hK => ?_) AllReadyH.nil
  go_simp
  refine hK.out _ _ (hHeld) (fun hHeld => ?_)
  clear hK K
  try simp only [Act.put, List.setIfInBounds_toArray, List.set_cons_zero, List.set_cons_succ]
  refine wpAnyH_take (i := 14) (oi := { dst := some 79, op := Go.Op.binOp Go.BinOp.eql 9 (Go.Operand.tmp 76) (Go.Operand.tmp 78) 9, type := 4, pos := "law.go:39", after := #[{ on := 11, ground := Go.Ground.data }, { on := 13, ground := Go.Ground.data }, { on := 9, ground := Go.Ground.guard }], guard := some (9, true) }) (v := ?v14) rfl (by kernel_rfl) (by kernel_rfl) (by kernel_rfl) (fun _ _ _ h => h) (Or.inl ⟨by rfl, ?hy14⟩) hHeld ?_
  case hy14 => (intro w hSw; (try dsimp only at hSw); go_simp; first | done | with_reducible rfl)
  try simp only [Act.put, List.setIfInBounds_toArray, List.set_cons_zero, List.set_cons_succ]
  refine wpAnyH_take (i := 15) (oi := { dst := some 80, op := Go.Op.pick (Go.Operand.tmp 74) (Go.Operand.tmp 79) (Go.Operand.const (Go.Value.bool false)), type := 4, pos := "law.go:39", after := #[{ on := 9, ground := Go.Ground.data }, { on := 14, ground := Go.Ground.data }], guard := none }) (v := ?v15) rfl (by kernel_rfl) (by kernel_rfl) (by kernel_rfl) (fun _ _ _ h => h) (Or.inl ⟨by rfl, ?hy15⟩) hHeld ?_
  case hy15 => (intro w hSw; (try dsimp only at hSw); go_simp; first | done | with_reducible rfl)
  try simp only [Act.put, List.setIfInBounds_toArray, List.set_cons_zero, List.set_cons_succ]
  refine wpAnyH_take (i := 16) (oi := { dst := some 81, op := Go.Op.move (Go.Operand.tmp 80), type := 4, pos := "law.go:39", after := #[{ on := 15, ground := Go.Ground.data }, { on := 12, ground := Go.Ground.chain }], guard := none }) (v := ?v16) rfl (by kernel_rfl) (by kernel_rfl) (by kernel_rfl) (fun _ _ _ h => h) (Or.inl ⟨by rfl, ?hy16⟩) hHeld ?_
  case hy16 => (intro w hSw; (try dsimp only at hSw); go_simp; first | done | with_reducible rfl)
  try simp only [Act.put, List.setIfInBounds_toArray, List.set_cons_zero, List.set_cons_succ]
  refine wpAnyH_take (i := 17) (oi := { dst := some 82, op := Go.Op.move (Go.Operand.tmp 9), type := 25, pos := "law.go:39", after := #[{ on := 16, ground := Go.Ground.guard }], guard := some (16, true) }) (v := ?v17) rfl (by kernel_rfl) (by kernel_rfl) (by kernel_rfl) (fun _ _ _ h => h) (Or.inl ⟨by rfl, ?hy17⟩) hHeld ?_
  case hy17 => (intro w hSw; (try dsimp only at hSw); go_simp; first | done | with_reducible rfl)
  try simp only [Act.put, List.setIfInBounds_toArray, List.set_cons_zero, List.set_cons_succ]
  refine wpAnyH_take (i := 18) (oi := { dst := some 83, op := Go.Op.binOp Go.BinOp.eql 25 (Go.Operand.tmp 82) (Go.Operand.const (Go.Value.int Go.IntKind.i64 0)) 25, type := 4, pos := "law.go:39", after := #[{ on := 17, ground := Go.Ground.data }, { on := 16, ground := Go.Ground.guard }], guard := some (16, true) }) (v := ?v18) rfl (by kernel_rfl) (by kernel_rfl) (by kernel_rfl) (fun _ _ _ h => h) (Or.inl ⟨by rfl, ?hy18⟩) hHeld ?_
  case hy18 => (intro w hSw; (try dsimp only at hSw); go_simp; first | done | with_reducible rfl)
  try simp only [Act.put, List.setIfInBounds_toArray, List.set_cons_zero, List.set_cons_succ]
  refine wpAnyH_take (i := 19) (oi := { dst := some 84, op := Go.Op.pick (Go.Operand.tmp 81) (Go.Operand.tmp 83) (Go.Operand.const (Go.Value.bool false)), type := 4, pos := "law.go:39", after := #[{ on := 16, ground := Go.Ground.data }, { on := 18, ground := Go.Ground.data }], guard := none }) (v := ?v19) rfl (by kernel_rfl) (by kernel_rfl) (by kernel_rfl) (fun _ _ _ h => h) (Or.inl ⟨by rfl, ?hy19⟩) hHeld ?_
  case hy19 => (intro w hSw; (try dsimp only at hSw); go_simp; first | done | with_reducible rfl)
  try simp only [Act.put, List.setIfInBounds_toArray, List.set_cons_zero, List.set_cons_succ]
  refine wpAnyH_take (i := 20) (oi := { dst := some 85, op := Go.Op.move (Go.Operand.tmp 84), type := 4, pos := "law.go:39", after := #[{ on := 19, ground := Go.Ground.data }, { on := 16, ground := Go.Ground.chain }], guard := none }) (v := ?v20) rfl (by kernel_rfl) (by kernel_rfl) (by kernel_rfl) (fun _ _ _ h => h) (Or.inl ⟨by rfl, ?hy20⟩) hHeld ?_
  case hy20 => (intro w hSw; (try dsimp only at hSw); go_simp; first | done | with_reducible rfl)
  try simp only [Act.put, List.setIfInBounds_toArray, List.set_cons_zero, List.set_cons_succ]
  refine wpAnyH_take (i := 21) (oi := { dst := some 86, op := Go.Op.move (Go.Operand.tmp 10), type := 25, pos := "law.go:39", after := #[{ on := 20, ground := Go.Ground.guard }], guard := some (20, true) }) (v := ?v21) rfl (by kernel_rfl) (by kernel_rfl) (by kernel_rfl) (fun _ _ _ h => h) (Or.inl ⟨by rfl, ?hy21⟩) hHeld ?_
  case hy21 => (intro w hSw; (try dsimp only at hSw); go_simp; first | done | with_reducible rfl)
  try simp only [Act.put, List.setIfInBounds_toArray, List.set_cons_zero, List.set_cons_succ]
  refine wpAnyH_take (i := 22) (oi := { dst := some 87, op := Go.Op.binOp Go.BinOp.eql 25 (Go.Operand.tmp 86) (Go.Operand.const (Go.Value.int Go.IntKind.i64 8)) 25, type := 4, pos := "law.go:39", after := #[{ on := 21, ground := Go.Ground.data }, { on := 20, ground := Go.Ground.guard }], guard := some (20, true) }) (v := ?v22) rfl (by kernel_rfl) (by kernel_rfl) (by kernel_rfl) (fun _ _ _ h => h) (Or.inl ⟨by rfl, ?hy22⟩) hHeld ?_
  case hy22 => (intro w hSw; (try dsimp only at hSw); go_simp; first | done | with_reducible rfl)
  try simp only [Act.put, List.setIfInBounds_toArray, List.set_cons_zero, List.set_cons_succ]
  refine wpAnyH_take (i := 23) (oi := { dst := some 88, op := Go.Op.pick (Go.Operand.tmp 85) (Go.Operand.tmp 87) (Go.Operand.const (Go.Value.bool false)), type := 4, pos := "law.go:39", after := #[{ on := 20, ground := Go.Ground.data }, { on := 22, ground := Go.Ground.data }], guard := none }) (v := ?v23) rfl (by kernel_rfl) (by kernel_rfl) (by kernel_rfl) (fun _ _ _ h => h) (Or.inl ⟨by rfl, ?hy23⟩) hHeld ?_
  case hy23 => (intro w hSw; (try dsimp only at hSw); go_simp; first | done | with_reducible rfl)
  try simp only [Act.put, List.setIfInBounds_toArray, List.set_cons_zero, List.set_cons_succ]
  refine wpAnyH_take (i := 24) (oi := { dst := some 89, op := Go.Op.move (Go.Operand.tmp 88), type := 4, pos := "law.go:39", after := #[{ on := 23, ground := Go.Ground.data }, { on := 20, ground := Go.Ground.chain }], guard := none }) (v := ?v24) rfl (by kernel_rfl) (by kernel_rfl) (by kernel_rfl) (fun _ _ _ h => h) (Or.inl ⟨by rfl, ?hy24⟩) hHeld ?_
  case hy24 => (intro w hSw; (try dsimp only at hSw); go_simp; first | done | with_reducible rfl)
  try simp only [Act.put, List.setIfInBounds_toArray, List.set_cons_zero, List.set_cons_succ]
  refine wpAnyH_take (i := 25) (oi := { dst := some 90, op := Go.Op.move (Go.Operand.tmp 11), type := 25, pos := "law.go:39", after := #[{ on := 24, ground := Go.Ground.guard }], guard := some (24, true) }) (v := ?v25) rfl (by kernel_rfl) (by kernel_rfl) (by kernel_rfl) (fun _ _ _ h => h) (Or.inl ⟨by rfl, ?hy25⟩) hHeld ?_
  case hy25 => (intro w hSw; (try dsimp only at hSw); go_simp; first | done | with_reducible rfl)
  try simp only [Act.put, List.setIfInBounds_toArray, List.set_cons_zero, List.set_cons_succ]
  refine wpAnyH_take (i := 26) (oi := { dst := some 91, op := Go.Op.binOp Go.BinOp.eql 25 (Go.Operand.tmp 90) (Go.Operand.const (Go.Value.int Go.IntKind.i64 1)) 25, type := 4, pos := "law.go:39", after := #[{ on := 25, ground := Go.Ground.data }, { on := 24, ground := Go.Ground.guard }], guard := some (24, true) }) (v := ?v26) rfl (by kernel_rfl) (by kernel_rfl) (by kernel_rfl) (fun _ _ _ h => h) (Or.inl ⟨by rfl, ?hy26⟩) hHeld ?_
  case hy26 => (intro w hSw; (try dsimp only at hSw); go_simp; first | done | with_reducible rfl)
  try simp only [Act.put, List.setIfInBounds_toArray, List.set_cons_zero, List.set_cons_succ]
  refine wpAnyH_take (i := 27) (oi := { dst := some 92, op := Go.Op.pick (Go.Operand.tmp 89) (Go.Operand.tmp 91) (Go.Operand.const (Go.Value.bool false)), type := 4, pos := "law.go:39", after := #[{ on := 24, ground := Go.Ground.data }, { on := 26, ground := Go.Ground.data }], guard := none }) (v := ?v27) rfl (by kernel_rfl) (by kernel_rfl) (by kernel_rfl) (fun _ _ _ h => h) (Or.inl ⟨by rfl, ?hy27⟩) hHeld ?_
  case hy27 => (intro w hSw; (try dsimp only at hSw); go_simp; first | done | with_reducible rfl)
  try simp only [Act.put, List.setIfInBounds_toArray, List.set_cons_zero, List.set_cons_succ]
  refine wpAnyH_take (i := 28) (oi := { dst := some 93, op := Go.Op.move (Go.Operand.tmp 92), type := 4, pos := "law.go:39", after := #[{ on := 27, ground := Go.Ground.data }, { on := 24, ground := Go.Ground.chain }], guard := none }) (v := ?v28) rfl (by kernel_rfl) (by kernel_rfl) (by kernel_rfl) (fun _ _ _ h => h) (Or.inl ⟨by rfl, ?hy28⟩) hHeld ?_
  case hy28 => (intro w hSw; (try dsimp only at hSw); go_simp; first | done | with_reducible rfl)
  try simp only [Act.put, List.setIfInBounds_toArray, List.set_cons_zero, List.set_cons_succ]
  refine wpAnyH_take (i := 29) (oi := { dst := some 94, op := Go.Op.move (Go.Operand.tmp 12), type := 3, pos := "law.go:39", after := #[{ on := 28, ground := Go.Ground.guard }], guard := some (28, true) }) (v := ?v29) rfl (by kernel_rfl) (by kernel_rfl) (by kernel_rfl) (fun _ _ _ h => h) (Or.inl ⟨by rfl, ?hy29⟩) hHeld ?_
  case hy29 => (intro w hSw; (try dsimp only at hSw); go_simp; first | done | with_reducible rfl)
  try simp only [Act.put, List.setIfInBounds_toArray, List.set_cons_zero, List.set_cons_succ]
  refine wpAnyH_take (i := 30) (oi := { dst := some 95, op := Go.Op.binOp Go.BinOp.eql 3 (Go.Operand.tmp 94) (Go.Operand.const (Go.Value.int Go.IntKind.i64 5)) 3, type := 4, pos := "law.go:39", after := #[{ on := 29, ground := Go.Ground.data }, { on := 28, ground := Go.Ground.guard }], guard := some (28, true) }) (v := ?v30) rfl (by kernel_rfl) (by kernel_rfl) (by kernel_rfl) (fun _ _ _ h => h) (Or.inl ⟨by rfl, ?hy30⟩) hHeld ?_
  case hy30 => (intro w hSw; (try dsimp only at hSw); go_simp; first | done | with_reducible rfl)
  try simp only [Act.put, List.setIfInBounds_toArray, List.set_cons_zero, List.set_cons_succ]
  refine wpAnyH_take (i := 31) (oi := { dst := some 96, op := Go.Op.pick (Go.Operand.tmp 93) (Go.Operand.tmp 95) (Go.Operand.const (Go.Value.bool false)), type := 4, pos := "law.go:39", after := #[{ on := 28, ground := Go.Ground.data }, { on := 30, ground := Go.Ground.data }], guard := none }) (v := ?v31) rfl (by kernel_rfl) (by kernel_rfl) (by kernel_rfl) (fun _ _ _ h => h) (Or.inl ⟨by rfl, ?hy31⟩) hHeld ?_
  case hy31 => (intro w hSw; (try dsimp only at hSw); go_simp; first | done | with_reducible rfl)
  try simp only [Act.put, List.setIfInBounds_toArray, List.set_cons_zero, List.set_cons_succ]
  refine wpAnyH_take (i := 32) (oi := { dst := some 97, op := Go.Op.move (Go.Operand.tmp 96), type := 4, pos := "law.go:39", after := #[{ on := 31, ground := Go.Ground.data }, { on := 28, ground := Go.Ground.chain }], guard := none }) (v := ?v32) rfl (by kernel_rfl) (by kernel_rfl) (by kernel_rfl) (fun _ _ _ h => h) (Or.inl ⟨by rfl, ?hy32⟩) hHeld ?_
  case hy32 => (intro w hSw; (try dsimp only at hSw); go_simp; first | done | with_reducible rfl)
  try simp only [Act.put, List.setIfInBounds_toArray, List.set_cons_zero, List.set_cons_succ]
  refine wpAnyH_take (i := 33) (oi := { dst := some 98, op := Go.Op.move (Go.Operand.tmp 13), type := 3, pos := "law.go:39", after := #[{ on := 32, ground := Go.Ground.guard }], guard := some (32, true) }) (v := ?v33) rfl (by kernel_rfl) (by kernel_rfl) (by kernel_rfl) (fun _ _ _ h => h) (Or.inl ⟨by rfl, ?hy33⟩) hHeld ?_
  case hy33 => (intro w hSw; (try dsimp only at hSw); go_simp; first | done | with_reducible rfl)
  try simp only [Act.put, List.setIfInBounds_toArray, List.set_cons_zero, List.set_cons_succ]
  refine wpAnyH_take (i := 34) (oi := { dst := some 99, op := Go.Op.binOp Go.BinOp.eql 3 (Go.Operand.tmp 98) (Go.Operand.const (Go.Value.int Go.IntKind.i64 16)) 3, type := 4, pos := "law.go:39", after := #[{ on := 33, ground := Go.Ground.data }, { on := 32, ground := Go.Ground.guard }], guard := some (32, true) }) (v := ?v34) rfl (by kernel_rfl) (by kernel_rfl) (by kernel_rfl) (fun _ _ _ h => h) (Or.inl ⟨by rfl, ?hy34⟩) hHeld ?_
  case hy34 => (intro w hSw; (try dsimp only at hSw); go_simp; first | done | with_reducible rfl)
  try simp only [Act.put, List.setIfInBounds_toArray, List.set_cons_zero, List.set_cons_succ]
  refine wpAnyH_take (i := 35) (oi := { dst := some 100, op := Go.Op.pick (Go.Operand.tmp 97) (Go.Operand.tmp 99) (Go.Operand.const (Go.Value.bool false)), type := 4, pos := "law.go:39", after := #[{ on := 32, ground := Go.Ground.data }, { on := 34, ground := Go.Ground.data }], guard := none }) (v := ?v35) rfl (by kernel_rfl) (by kernel_rfl) (by kernel_rfl) (fun _ _ _ h => h) (Or.inl ⟨by rfl, ?hy35⟩) hHeld ?_
  case hy35 => (intro w hSw; (try dsimp only at hSw); go_simp; first | done | with_reducible rfl)
  try simp only [Act.put, List.setIfInBounds_toArray, List.set_cons_zero, List.set_cons_succ]
  refine wpAnyH_take (i := 36) (oi := { dst := some 101, op := Go.Op.move (Go.Operand.tmp 100), type := 4, pos := "law.go:39", after := #[{ on := 35, ground := Go.Ground.data }, { on := 32, ground := Go.Ground.chain }], guard := none }) (v := ?v36) rfl (by kernel_rfl) (by kernel_rfl) (by kernel_rfl) (fun _ _ _ h => h) (Or.inl ⟨by rfl, ?hy36⟩) hHeld ?_
  case hy36 => (intro w hSw; (try dsimp only at hSw); go_simp; first | done | with_reducible rfl)
  try simp only [Act.put, List.setIfInBounds_toArray, List.set_cons_zero, List.set_cons_succ]
  refine wpAnyH_take (i := 37) (oi := { dst := some 102, op := Go.Op.move (Go.Operand.tmp 3), type := 23, pos := "law.go:39", after := #[{ on := 36, ground := Go.Ground.guard }], guard := some (36, true) }) (v := ?v37) rfl (by kernel_rfl) (by kernel_rfl) (by kernel_rfl) (fun _ _ _ h => h) (Or.inl ⟨by rfl, ?hy37⟩) hHeld ?_
  case hy37 => (intro w hSw; (try dsimp only at hSw); go_simp; first | done | with_reducible rfl)
  try simp only [Act.put, List.setIfInBounds_toArray, List.set_cons_zero, List.set_cons_succ]
  refine wpAnyH_ready (rs := [38]) (by kernel_rfl) (by simp) ?_
  refine AllReadyH.cons (o := { dst := some 103, op := Go.Op.call { callee := Go.Callee.value (Go.Operand.func 10), args := #[Go.Operand.tmp 102], argTypes := #[23] }, type := 3, pos := "law.go:39", after := #[{ on := 37, ground := Go.Ground.data }, { on := 36, ground := Go.Ground.chain }, { on := 36, ground := Go.Ground.guard }], guard := some (36, true) }) rfl (fun K hK => ?_) AllReadyH.nil
  go_simp
  refine (wLog_any wB p g 2 false (H13.out.below hd3).row).mono ?_
  rintro e wC ⟨rfl, rfl⟩
  go_wp2_with fail
  refine hK.out _ _ (⟨HCA.out _ hd3, HCB.out _ hd3⟩) (fun hHeld => ?_)
  clear hK K
  try simp only [Act.put, List.setIfInBounds_toArray, List.set_cons_zero, List.set_cons_succ]
  refine wpAnyH_take (i := 39) (oi := { dst := some 104, op := Go.Op.binOp Go.BinOp.eql 3 (Go.Operand.tmp 103) (Go.Operand.const (Go.Value.int Go.IntKind.i64 2)) 3, type := 4, pos := "law.go:39", after := #[{ on := 38, ground := Go.Ground.data }, { on := 36, ground := Go.Ground.guard }], guard := some (36, true) }) (v := ?v39) rfl (by kernel_rfl) (by kernel_rfl) (by kernel_rfl) (fun _ _ _ h => h) (Or.inl ⟨by rfl, ?hy39⟩) hHeld ?_
  case hy39 => (intro w hSw; (try dsimp only at hSw); go_simp; first | done | with_reducible rfl)
  try simp only [Act.put, List.setIfInBounds_toArray, List.set_cons_zero, List.set_cons_succ]
  refine wpAnyH_take (i := 40) (oi := { dst := some 105, op := Go.Op.pick (Go.Operand.tmp 101) (Go.Operand.tmp 104) (Go.Operand.const (Go.Value.bool false)), type := 4, pos := "law.go:39", after := #[{ on := 36, ground := Go.Ground.data }, { on := 39, ground := Go.Ground.data }], guard := none }) (v := ?v40) rfl (by kernel_rfl) (by kernel_rfl) (by kernel_rfl) (fun _ _ _ h => h) (Or.inl ⟨by rfl, ?hy40⟩) hHeld ?_
  case hy40 => (intro w hSw; (try dsimp only at hSw); go_simp; first | done | with_reducible rfl)
  try simp only [Act.put, List.setIfInBounds_toArray, List.set_cons_zero, List.set_cons_succ]
  refine wpAnyH_take (i := 41) (oi := { dst := some 0, op := Go.Op.assign (Go.Operand.tmp 105), type := 4, pos := "law.go:39", after := #[{ on := 40, ground := Go.Ground.data }, { on := 38, ground := Go.Ground.chain }, { on := 0, ground := Go.Ground.phase }, { on := 1, ground := Go.Ground.phase }, { on := 2, ground := Go.Ground.phase }, { on := 3, ground := Go.Ground.phase }, { on := 4, ground := Go.Ground.phase }, { on := 5, ground := Go.Ground.phase }, { on := 6, ground := Go.Ground.phase }, { on := 7, ground := Go.Ground.phase }, { on := 8, ground := Go.Ground.phase }, { on := 9, ground := Go.Ground.phase }, { on := 10, ground := Go.Ground.phase }, { on := 11, ground := Go.Ground.phase }, { on := 12, ground := Go.Ground.phase }, { on := 13, ground := Go.Ground.phase }, { on := 14, ground := Go.Ground.phase }, { on := 15, ground := Go.Ground.phase }, { on := 16, ground := Go.Ground.phase }, { on := 17, ground := Go.Ground.phase }, { on := 18, ground := Go.Ground.phase }, { on := 19, ground := Go.Ground.phase }, { on := 20, ground := Go.Ground.phase }, { on := 21, ground := Go.Ground.phase }, { on := 22, ground := Go.Ground.phase }, { on := 23, ground := Go.Ground.phase }, { on := 24, ground := Go.Ground.phase }, { on := 25, ground := Go.Ground.phase }, { on := 26, ground := Go.Ground.phase }, { on := 27, ground := Go.Ground.phase }, { on := 28, ground := Go.Ground.phase }, { on := 29, ground := Go.Ground.phase }, { on := 30, ground := Go.Ground.phase }, { on := 31, ground := Go.Ground.phase }, { on := 32, ground := Go.Ground.phase }, { on := 33, ground := Go.Ground.phase }, { on := 34, ground := Go.Ground.phase }, { on := 35, ground := Go.Ground.phase }, { on := 36, ground := Go.Ground.phase }, { on := 37, ground := Go.Ground.phase }, { on := 38, ground := Go.Ground.phase }, { on := 39, ground := Go.Ground.phase }, { on := 40, ground := Go.Ground.phase }], guard := none }) (v := ?v41) rfl (by kernel_rfl) (by kernel_rfl) (by kernel_rfl) (fun _ _ _ h => h) (Or.inl ⟨by rfl, ?hy41⟩) hHeld ?_
  case hy41 => (intro w hSw; (try dsimp only at hSw); go_simp; first | done | with_reducible rfl)
  try simp only [Act.put, List.setIfInBounds_toArray, List.set_cons_zero, List.set_cons_succ]
  refine wpAnyH_done (by kernel_rfl) ?_ _
  go_wp2
  go_ret
  exact ⟨rfl, bstep H13.out.bel hd3⟩
end Go.Proofs.Ytabffjahelogkaa
