/- The closures that read a node's lists. Conditions: none. -/
import Derived.Test.YtedhcohpcdkgnaaNG
import Derived.Deep.RegionHeld3
namespace Go.Proofs.Ytedhcohpcdkgnaa
open Go.RowKit Go.Bs

theorem step_appN {P : Program} {ops : Array Oper} {o : Oper} {a : Act} {w : World} {K : Act → World → Prop} {Q : Exit → Act → World → Prop} {E : Prop} (hgd : o.guard = none) (s x : Operand) (t ty : TypeId)
    (ho : o.op = .call { callee := .builtin .append, args := #[s, x], argTypes := #[t, t] }) (hty : o.type = ty) (v1 v2 v' : Value) (w' : World) (hs : a.eval s = v1) (hx : a.eval x = v2) (hrun : (Builtin.append_ #[t, t] ty #[v1, v2]).run P w = .ok v' w') (h : K (a.put o.dst v') w') :
    if Region.wanted o (yielded ops a.tmps) = true then Oper.wp P o a w K Q else E := by
  have hw : Region.wanted o (yielded ops a.tmps) = true := by simp [Region.wanted, hgd]
  rw [if_pos hw]
  subst hty
  unfold Oper.wp execOp
  simp only [ho, resolve, invoke, builtin, Sem.run_bind, Sem.run_pure, Result.andThen_ok, List.map_toArray, List.map_cons, List.map_nil, hs, hx, hrun]
  exact h
/-- how long a slice in a node's block is. -/
def lenAt (w : World) (h i : Nat) : Nat := match w.cell? ⟨h, i, none⟩ with | some (.slice _ n _) => n | _ => 0
theorem lenAt_of {w : World} {h i n c : Nat} {A : Option Addr} (H : w.cell? ⟨h, i, none⟩ = some (.slice A n c)) : lenAt w h i = n := by simp [lenAt, H]
theorem _root_.Go.Bs.Cu.flag {w : World} {z lim : Nat} {s : St} (h : Cu w z lim s) : w.cell? ⟨z, 1, none⟩ = some (.bool s.2) := by
  obtain ⟨A, n, c, h1, _⟩ := h
  exact h1.cells.2.1

set_option maxHeartbeats 8000000 in
theorem leafRd_any (w : World) (z lim bx count : Nat) (s : St) (HC : Cu w z lim s) (hlim : lim ≤ w.heap.size) (hbox : w.cell? ⟨bx, 0, none⟩ = some (.pointer (some ⟨z, 0, none⟩))) (hbz : bx ≠ z) (hcount : count ≤ 65535) :
    Calls Try.prog 41 #[.int .i64 (count : Int), .pointer (some ⟨bx, 0, none⟩)] w fun e w' => (∃ hd, e = .returned (nv hd true) ∧ NdAt w' hd ⟨true, (prs count s).1, [], []⟩) ∧ Cu w' z lim (prs count s).2 ∧ Fr (· = z) w w' := by
  obtain ⟨g, hg⟩ : ∃ g, w.heap.size = g := ⟨_, rfl⟩
  have HG := Lib.hid hg
  have HCU := Lib.hid HC
  have hzg : z < g := by rw [← hg]; exact HC.lt
  have hbg : bx < g := by rw [← hg]; exact blt_of_cell hbox
  rw [hg] at hlim
  obtain ⟨W0, hW0⟩ : ∃ W0, (w.alloc (.cells #[.bool false, .slice none 0 0, .slice none 0 0, .slice none 0 0] 26)).alloc (.cells #[.bool true, .slice none 0 0, .slice none 0 0, .slice none 0 0] 26) = W0 := ⟨_, rfl⟩
  have hb0 : Below w.heap.size w W0 := by rw [← hW0]; exact ((Below.refl _ _).alloc (Nat.le_refl _) _).alloc (by simp) _
  have hs0 : W0.heap.size = g + 2 := by rw [← hW0]; simp [hg]
  have HMK0 : Hid (Mk W0 z bx g (g + 1) (g + 2) true (.slice none 0 0) (.slice none 0 0) (.slice none 0 0) ⟨true, [], [], []⟩) := by
    refine ⟨?_, ?_, (cell_of_blk (hb0.block bx (by omega))).trans hbox, own_nil _ _ _ _, own_nil _ _ _ _, own_nil _ _ _ _, fun i h => by simp [Value.ownBlock] at h, fun i h => by simp [Value.ownBlock] at h, fun i h => by simp [Value.ownBlock] at h, by omega, by omega, hbg, hzg, hbz, by omega⟩
    · rw [← hW0, ← hg]
      have := heap_alloc_new (w.alloc (.cells #[.bool false, .slice none 0 0, .slice none 0 0, .slice none 0 0] 26)) (.cells #[.bool true, .slice none 0 0, .slice none 0 0, .slice none 0 0] 26)
      simpa using this
    · rw [← hW0, ← hg, heap_alloc_old _ _ (by simp)]
      exact heap_alloc_new _ _
  have HFR0 : Hid (Fr (· = z) w W0) := Fr.of hb0
  have HCU0 : Hid (Cu W0 z lim s) := HC.keep hb0
  have HW0 := Lib.hid hW0
  clear HC hb0 hbox hs0 hW0
  go_enter Try.func41, Try.ntmps41
  go_wp2
  rw [HW0.out]
  go_loopw [5] (fun _ wr => ∃ (j : Nat) (pv : Value) (PS : List Pr) (s1 : St), prs j s = (PS, s1) ∧ j ≤ count ∧ PS.length = j ∧ Mk wr z bx g (g + 1) (g + 2) true pv (.slice none 0 0) (.slice none 0 0) ⟨true, PS, [], []⟩ ∧ Cu wr z lim s1 ∧ Fr (· = z) w wr) (fun _ wr => count - lenAt wr (g + 1) 1)
  case atStart => exact ⟨0, _, [], s, rfl, Nat.zero_le _, rfl, HMK0.out, HCU0.out, HFR0.out⟩
  case round =>
    obtain ⟨j, pv, PS, s1, hp, hj, hlen, hmk, hcu, hfr⟩ := hrel
    have hpsz : ∀ p ∈ PS, p.1.size ≤ 255 ∧ p.2.size ≤ 255 := by have := prs_size s j; rw [hp] at this; exact this
    obtain ⟨A, c, hpv, hrd⟩ := rdP_own hmk.p (fun p hp => ⟨Nat.le_trans (hpsz p hp).1 (by omega), Nat.le_trans (hpsz p hp).2 (by omega)⟩)
    simp only at hpv hrd
    rw [hlen] at hpv hrd
    subst hpv
    have HP := Lib.hid hp
    have HLEN := Lib.hid hlen
    have HMK := Lib.hid hmk
    have HCUR := Lib.hid hcu
    have HFR := Lib.hid hfr
    have HPSZ := Lib.hid hpsz
    have HRD := Lib.hid hrd
    have b0 := hmk.box
    obtain ⟨d0, d1, d2, d3, df⟩ := hmk.cells
    clear df
    have fl := hcu.flag
    have z0 : wr.cell? ⟨g, 0, none⟩ = some (.bool false) := by rw [cell_of_row wr g _ _ 26 (0, 0) hmk.zero]; rfl
    have z1 : wr.cell? ⟨g, 1, none⟩ = some (.slice none 0 0) := by rw [cell_of_row wr g _ _ 26 (0, 0) hmk.zero]; rfl
    have z2 : wr.cell? ⟨g, 2, none⟩ = some (.slice none 0 0) := by rw [cell_of_row wr g _ _ 26 (0, 0) hmk.zero]; rfl
    have z3 : wr.cell? ⟨g, 3, none⟩ = some (.slice none 0 0) := by rw [cell_of_row wr g _ _ 26 (0, 0) hmk.zero]; rfl
    have hrow : (((((wr.setCell ⟨g, 0, none⟩ (.bool true)).setCell ⟨g, 1, none⟩ (.slice A j c)).setCell ⟨g, 2, none⟩ (.slice none 0 0)).setCell ⟨g, 3, none⟩ (.slice none 0 0)).heap[g]? = some (.cells #[.bool true, .slice A j c, .slice none 0 0, .slice none 0 0] 26 (0, 0))) := by
      have r3 := row_set (i := 3) (row_set (i := 2) (row_set (i := 1) (row_set (i := 0) hmk.zero (.bool true)) (.slice A j c)) (.slice none 0 0)) (.slice none 0 0)
      simpa using r3
    have HROW := Lib.hid hrow
    clear hrow
    have zf : ∀ i, wr.frozen? ⟨g, i, none⟩ = false := fun i => by simp [World.frozen?, hmk.zero]
    have zf0 := zf 0
    have zf1 := zf 1
    have zf2 := zf 2
    have zf3 := zf 3
    obtain ⟨l1, sh⟩ := s1
    simp only at fl
    clear hp hlen hmk hcu hfr hpsz hrd zf
    have HEND : Hid (prs count s = (PS, (l1, sh)) → Cu wr z lim (l1, sh) → (∃ hd, Ending.returned (Value.agg #[.bool true, .slice A j c, .slice none 0 0, .slice none 0 0]) = .returned (nv hd true) ∧ NdAt ((((wr.setCell ⟨g, 0, none⟩ (.bool true)).setCell ⟨g, 1, none⟩ (.slice A j c)).setCell ⟨g, 2, none⟩ (.slice none 0 0)).setCell ⟨g, 3, none⟩ (.slice none 0 0)) hd ⟨true, (prs count s).1, [], []⟩) ∧ Cu ((((wr.setCell ⟨g, 0, none⟩ (.bool true)).setCell ⟨g, 1, none⟩ (.slice A j c)).setCell ⟨g, 2, none⟩ (.slice none 0 0)).setCell ⟨g, 3, none⟩ (.slice none 0 0)) z lim (prs count s).2 ∧ Fr (· = z) w ((((wr.setCell ⟨g, 0, none⟩ (.bool true)).setCell ⟨g, 1, none⟩ (.slice A j c)).setCell ⟨g, 2, none⟩ (.slice none 0 0)).setCell ⟨g, 3, none⟩ (.slice none 0 0))) := fun he hcu => by
      rw [he]
      have hfs : Fr (· = g) wr ((((wr.setCell ⟨g, 0, none⟩ (.bool true)).setCell ⟨g, 1, none⟩ (.slice A j c)).setCell ⟨g, 2, none⟩ (.slice none 0 0)).setCell ⟨g, 3, none⟩ (.slice none 0 0)) := ((((Fr.refl (· = g) wr).setCell (.inl rfl) _).setCell (.inl rfl) _).setCell (.inl rfl) _).setCell (.inl rfl) _
      have hown := own_keepB HMK.out.p (w' := ((((wr.setCell ⟨g, 0, none⟩ (.bool true)).setCell ⟨g, 1, none⟩ (.slice A j c)).setCell ⟨g, 2, none⟩ (.slice none 0 0)).setCell ⟨g, 3, none⟩ (.slice none 0 0))) (fun k hk => hfs.block k (own_lt HMK.out.p k hk).2 (by have := (own_lt HMK.out.p k hk).1; show ¬ k = g; omega))
      obtain ⟨A2, c2, e2, hrd2⟩ := rdP_own hown (fun p hp => ⟨Nat.le_trans (HPSZ.out p hp).1 (by omega), Nat.le_trans (HPSZ.out p hp).2 (by omega)⟩)
      cases e2
      simp only at hrd2
      refine ⟨⟨⟨A, _, c, none, 0, 0, none, 0, 0⟩, rfl, ⟨hrd2, RdS.nil _ _ _, RdI.nil _ _ _⟩⟩, hcu.fr hfs (by show ¬ z = g; omega) (fun k hk => by have : k = g := hk; omega), HFR.out.step hfs (fun i hi => .inr (by have : i = g := hi; rw [HG.out]; omega))⟩
    by_cases hlt : j < count
    · cases sh with
      | true =>
        have he : prs count s = (PS, (l1, true)) := by
          have h2 := prs_stop j s (by rw [HP.out]) (count - j)
          rw [show j + (count - j) = count by omega, HP.out] at h2
          exact h2
        have HE := Lib.hid (HEND.out he HCUR.out)
        clear HEND he
        go_wp2
        refine bodyPost_ret (results_cell_row (P := Try.prog) (fn := Try.f41) rfl _ _ g 26 _ (0, 0) _ rfl HROW.out Try.underlying26 rfl (by kernel_rfl)) rfl HE.out
      | false =>
        clear HEND
        have HTX := Lib.hid (text_any wr z _ lim HCUR.out)
        obtain ⟨x, hx⟩ : ∃ x, (stTxt (l1, false)).1 = x := ⟨_, rfl⟩
        obtain ⟨s2, hs2⟩ : ∃ s2, (stTxt (l1, false)).2 = s2 := ⟨_, rfl⟩
        rw [hx, hs2] at HTX
        have HX := Lib.hid hx
        have HS2 := Lib.hid hs2
        clear hx hs2
        go_wp2_with fail
        refine HTX.out.mono ?_
        rintro e w2 ⟨rfl, hc2, hf2⟩
        have MKd : Hid (Mk w2.drew z bx g (g + 1) (g + 2) true (.slice A j c) (.slice none 0 0) (.slice none 0 0) ⟨true, PS, [], []⟩) := (HMK.out.fr hf2).keep (Below.refl _ _).drew
        have FRd : Hid (Fr (· = z) w w2.drew) := (HFR.out.trans hf2).drew
        have HTY := Lib.hid (text_any w2.drew z _ lim (hc2.keep (Below.refl _ _).drew))
        obtain ⟨y, hy⟩ : ∃ y, (stTxt s2).1 = y := ⟨_, rfl⟩
        obtain ⟨s3, hs3⟩ : ∃ s3, (stTxt s2).2 = s3 := ⟨_, rfl⟩
        rw [hy, hs3] at HTY
        have HNEW : Hid (prs (j + 1) s = (PS ++ [(x, y)], s3)) := by
          show prs (j + 1) s = _
          rw [prs_step j s (by rw [HP.out]), HP.out, HX.out, HS2.out, hy, hs3]
        have hszx : x.size ≤ 255 := by rw [← HX.out]; exact stTxt_size _
        have hszy : y.size ≤ 255 := by rw [← hy]; exact stTxt_size _
        have HPSZ2 : Hid (∀ p ∈ PS ++ [(x, y)], p.1.size ≤ 140737488351232 ∧ p.2.size ≤ 140737488351232) := fun p hp => by
          rcases List.mem_append.1 hp with h | h
          · exact ⟨Nat.le_trans (HPSZ.out p h).1 (by omega), Nat.le_trans (HPSZ.out p h).2 (by omega)⟩
          · obtain rfl := List.mem_singleton.1 h
            exact ⟨by show x.size ≤ _; omega, by show y.size ≤ _; omega⟩
        have HLR := Lib.hid (lenAt_of HMK.out.cells.2.1)
        have bd := MKd.out.box
        have ld := MKd.out.cells.2.1
        have hl100 : PS.length ≤ 100000 := by rw [HLEN.out]; omega
        clear hy hs3 hc2 hf2 d0 d1 d2 d3 b0 fl HTX z0 z1 z2 z3 zf0 zf1 zf2 zf3
        go_wp2_with fail
        refine wp_region_held_drew (S := fun W => W.cell? ⟨bx, 0, none⟩ = some (.pointer (some ⟨z, 0, none⟩))) (by kernel_rfl) (bd) (fun hHeld => ?_)
        refine wpAnyH_take (i := 0) (oi := { dst := some 21, op := Go.Op.fieldAddr 26 (Go.Operand.tmp 4) 1, type := 0, pos := "node.go:171", after := #[], guard := none }) (v := ?vqt0) rfl (by kernel_rfl) (by kernel_rfl) (by kernel_rfl) (fun _ _ _ h => h) (Or.inl ⟨by rfl, ?hyqt0⟩) hHeld ?_
        case hyqt0 => (intro w hSw; (try dsimp only at hSw); go_simp; first | done | with_reducible rfl)
        try simp only [Act.put, List.setIfInBounds_toArray, List.set_cons_zero, List.set_cons_succ]
        refine wpAnyH_take (i := 2) (oi := { dst := some 23, op := Go.Op.move (Go.Operand.tmp 5), type := 9, pos := "node.go:171", after := #[], guard := none }) (v := ?vqt2) rfl (by kernel_rfl) (by kernel_rfl) (by kernel_rfl) (fun _ _ _ h => h) (Or.inl ⟨by rfl, ?hyqt2⟩) hHeld ?_
        case hyqt2 => (intro w hSw; (try dsimp only at hSw); go_simp; first | done | with_reducible rfl)
        try simp only [Act.put, List.setIfInBounds_toArray, List.set_cons_zero, List.set_cons_succ]
        refine wpAnyH_take (i := 3) (oi := { dst := some 24, op := Go.Op.load 56 (Go.Operand.tmp 1), type := 56, pos := "node.go:171", after := #[], guard := none }) (v := ?vqt3) rfl (by kernel_rfl) (by kernel_rfl) (by kernel_rfl) (fun _ _ _ h => h) (Or.inl ⟨by rfl, ?hyqt3⟩) hHeld ?_
        case hyqt3 => (intro w hSw; (try dsimp only at hSw); go_simp; first | done | with_reducible rfl)
        try simp only [Act.put, List.setIfInBounds_toArray, List.set_cons_zero, List.set_cons_succ]
        refine wpAnyH_ready (rs := [1, 4]) (by kernel_rfl) (by simp) ?_
        refine AllReadyH.cons (o := { dst := some 22, op := Go.Op.load 22 (Go.Operand.tmp 21), type := 22, pos := "node.go:171", after := #[{ on := 0, ground := Go.Ground.data }], guard := none }) rfl (fun K hK => ?_) (AllReadyH.cons (o := { dst := some 25, op := Go.Op.call { callee := Go.Callee.value (Go.Operand.func 42), args := #[Go.Operand.tmp 24], argTypes := #[56] }, type := 9, pos := "node.go:171", after := #[{ on := 3, ground := Go.Ground.data }], guard := none }) rfl (fun K hK => ?_) AllReadyH.nil)
        · go_simp
          refine hK.out _ _ (bd) (fun hHeld => ?_)
          clear hK K
          try simp only [Act.put, List.setIfInBounds_toArray, List.set_cons_zero, List.set_cons_succ]
          refine wpAnyH_ready (rs := [4]) (by kernel_rfl) (by simp) ?_
          refine AllReadyH.cons (o := { dst := some 25, op := Go.Op.call { callee := Go.Callee.value (Go.Operand.func 42), args := #[Go.Operand.tmp 24], argTypes := #[56] }, type := 9, pos := "node.go:171", after := #[{ on := 3, ground := Go.Ground.data }], guard := none }) rfl (fun K hK => ?_) AllReadyH.nil
          go_simp
          refine HTY.out.mono ?_
          rintro e w4 ⟨rfl, hc4, hf4⟩
          have MK4 := MKd.out.fr hf4
          have FR4 : Fr (· = z) w w4 := FRd.out.trans hf4
          obtain ⟨v', w7, hrun, b7, c7, f7, b8, MK8, FR8⟩ := Mk.appP MK4 (by show _ ≤ 100000; omega) x y
          have b4 := MK4.box
          have bX := (MK4.keep ((Below.refl w4.heap.size w4).alloc (Nat.le_refl _) (.cells #[.string x, .string y] 49))).box
          have l4 := MK4.cells.2.1
          have lX := (MK4.keep ((Below.refl w4.heap.size w4).alloc (Nat.le_refl _) (.cells #[.string x, .string y] 49))).cells.2.1
          obtain ⟨X, hX⟩ : ∃ X, w4.alloc (.cells #[.string x, .string y] 49) = X := ⟨_, rfl⟩
          rw [hX] at hrun bX lX
          obtain ⟨A', c', hv', _⟩ := rdP_own MK8.p HPSZ2.out
          subst hv'
          obtain ⟨m', hm'⟩ : ∃ m', (PS ++ [(x, y)]).length = m' := ⟨_, rfl⟩
          have HRUN : Hid _ := hrun
          have HMK8 : Hid _ := MK8
          have HFR8 : Hid (Fr (· = z) w _) := FR4.step FR8 (fun i hi => .inr (by omega))
          have HCU8 : Hid (Cu _ z lim _) := hc4.fr FR8 (by omega) (fun k hk => by omega)
          rw [hm'] at HRUN b8 HMK8 HFR8 HCU8
          have HM' := Lib.hid hm'
          clear hc4 hf4 MK4 FR4 MK8 FR8 hrun hm'
          go_wp2_with fail
          refine hK.out _ _ (b4) (fun hHeld => ?_)
          clear hK K
          try simp only [Act.put, List.setIfInBounds_toArray, List.set_cons_zero, List.set_cons_succ]
          refine wpAnyH_take (i := 5) (oi := { dst := some 26, op := Go.Op.build 49 #[(0, Go.Operand.tmp 23), (1, Go.Operand.tmp 25)], type := 49, pos := "node.go:171", after := #[{ on := 2, ground := Go.Ground.data }, { on := 4, ground := Go.Ground.data }], guard := none }) (v := ?vqa5) rfl (by kernel_rfl) (by kernel_rfl) (by kernel_rfl) (fun _ _ _ h => h) (Or.inl ⟨by rfl, ?hyqa5⟩) hHeld ?_
          case hyqa5 => (intro w hSw; (try dsimp only at hSw); go_simp; first | done | with_reducible rfl)
          try simp only [Act.put, List.setIfInBounds_toArray, List.set_cons_zero, List.set_cons_succ]
          refine wpAnyH_ready (rs := [6]) (by kernel_rfl) (by simp) ?_
          refine AllReadyH.cons (o := { dst := some 27, op := Go.Op.buildSlice 22 1 #[(0, Go.Operand.tmp 26)], type := 22, pos := "node.go:171", after := #[{ on := 5, ground := Go.Ground.data }], guard := none }) rfl (fun K hK => ?_) AllReadyH.nil
          go_simp
          refine hK.out _ _ (bX) (fun hHeld => ?_)
          clear hK K
          try simp only [Act.put, List.setIfInBounds_toArray, List.set_cons_zero, List.set_cons_succ]
          refine wpAnyH_ready (rs := [7]) (by kernel_rfl) (by simp) ?_
          refine AllReadyH.cons (o := { dst := some 28, op := Go.Op.call { callee := Go.Callee.builtin Go.Builtin.append, args := #[Go.Operand.tmp 22, Go.Operand.tmp 27], argTypes := #[22, 22] }, type := 22, pos := "node.go:171", after := #[{ on := 1, ground := Go.Ground.data }, { on := 6, ground := Go.Ground.data }, { on := 4, ground := Go.Ground.chain }], guard := none }) rfl (fun K hK => ?_) AllReadyH.nil
          refine step_appN rfl (.tmp 22) (.tmp 27) 22 22 rfl rfl _ _ _ _ (by simp [Act.eval, Act.put]) (by simp [Act.eval, Act.put]) HRUN.out ?_
          refine hK.out _ _ (b7) (fun hHeld => ?_)
          clear hK K
          try simp only [Act.put, List.setIfInBounds_toArray, List.set_cons_zero, List.set_cons_succ]
          refine wpAnyH_take (i := 8) (oi := { dst := some 29, op := Go.Op.fieldAddr 26 (Go.Operand.tmp 4) 1, type := 0, pos := "node.go:171", after := #[{ on := 0, ground := Go.Ground.phase }, { on := 1, ground := Go.Ground.phase }, { on := 2, ground := Go.Ground.phase }, { on := 3, ground := Go.Ground.phase }, { on := 4, ground := Go.Ground.phase }, { on := 5, ground := Go.Ground.phase }, { on := 6, ground := Go.Ground.phase }, { on := 7, ground := Go.Ground.phase }], guard := none }) (v := ?vqa8) rfl (by kernel_rfl) (by kernel_rfl) (by kernel_rfl) (fun _ _ _ h => h) (Or.inl ⟨by rfl, ?hyqa8⟩) hHeld ?_
          case hyqa8 => (intro w hSw; (try dsimp only at hSw); go_simp; first | done | with_reducible rfl)
          try simp only [Act.put, List.setIfInBounds_toArray, List.set_cons_zero, List.set_cons_succ]
          refine wpAnyH_ready (rs := [9]) (by kernel_rfl) (by simp) ?_
          refine AllReadyH.cons (o := { dst := none, op := Go.Op.store 22 (Go.Operand.tmp 29) (Go.Operand.tmp 28), type := 0, pos := "node.go:171", after := #[{ on := 8, ground := Go.Ground.data }, { on := 7, ground := Go.Ground.data }, { on := 7, ground := Go.Ground.chain }, { on := 0, ground := Go.Ground.phase }, { on := 1, ground := Go.Ground.phase }, { on := 2, ground := Go.Ground.phase }, { on := 3, ground := Go.Ground.phase }, { on := 4, ground := Go.Ground.phase }, { on := 5, ground := Go.Ground.phase }, { on := 6, ground := Go.Ground.phase }, { on := 7, ground := Go.Ground.phase }], guard := none }) rfl (fun K hK => ?_) AllReadyH.nil
          go_simp
          refine hK.out _ _ (b8) (fun hHeld => ?_)
          clear hK K
          try simp only [Act.put, List.setIfInBounds_toArray, List.set_cons_zero, List.set_cons_succ]
          refine wpAnyH_done (by kernel_rfl) ?_ _
          clear hHeld
          have hl8 := lenAt_of HMK8.out.cells.2.1
          go_wp2
          go_roundw
          case rel => exact ⟨j + 1, _, PS ++ [(x, y)], s3, HNEW.out, by omega, by rw [List.length_append, HLEN.out]; rfl, HMK8.out, HCU8.out, HFR8.out⟩
          case measure => rw [hl8, HLR.out]; have := HM'.out; rw [List.length_append, HLEN.out] at this; simp at this; omega
        · go_simp
          refine HTY.out.mono ?_
          rintro e w4 ⟨rfl, hc4, hf4⟩
          have MK4 := MKd.out.fr hf4
          have FR4 : Fr (· = z) w w4 := FRd.out.trans hf4
          obtain ⟨v', w7, hrun, b7, c7, f7, b8, MK8, FR8⟩ := Mk.appP MK4 (by show _ ≤ 100000; omega) x y
          have b4 := MK4.box
          have bX := (MK4.keep ((Below.refl w4.heap.size w4).alloc (Nat.le_refl _) (.cells #[.string x, .string y] 49))).box
          have l4 := MK4.cells.2.1
          have lX := (MK4.keep ((Below.refl w4.heap.size w4).alloc (Nat.le_refl _) (.cells #[.string x, .string y] 49))).cells.2.1
          obtain ⟨X, hX⟩ : ∃ X, w4.alloc (.cells #[.string x, .string y] 49) = X := ⟨_, rfl⟩
          rw [hX] at hrun bX lX
          obtain ⟨A', c', hv', _⟩ := rdP_own MK8.p HPSZ2.out
          subst hv'
          obtain ⟨m', hm'⟩ : ∃ m', (PS ++ [(x, y)]).length = m' := ⟨_, rfl⟩
          have HRUN : Hid _ := hrun
          have HMK8 : Hid _ := MK8
          have HFR8 : Hid (Fr (· = z) w _) := FR4.step FR8 (fun i hi => .inr (by omega))
          have HCU8 : Hid (Cu _ z lim _) := hc4.fr FR8 (by omega) (fun k hk => by omega)
          rw [hm'] at HRUN b8 HMK8 HFR8 HCU8
          have HM' := Lib.hid hm'
          clear hc4 hf4 MK4 FR4 MK8 FR8 hrun hm'
          go_wp2_with fail
          refine hK.out _ _ (b4) (fun hHeld => ?_)
          clear hK K
          try simp only [Act.put, List.setIfInBounds_toArray, List.set_cons_zero, List.set_cons_succ]
          refine wpAnyH_take (i := 5) (oi := { dst := some 26, op := Go.Op.build 49 #[(0, Go.Operand.tmp 23), (1, Go.Operand.tmp 25)], type := 49, pos := "node.go:171", after := #[{ on := 2, ground := Go.Ground.data }, { on := 4, ground := Go.Ground.data }], guard := none }) (v := ?vqb5) rfl (by kernel_rfl) (by kernel_rfl) (by kernel_rfl) (fun _ _ _ h => h) (Or.inl ⟨by rfl, ?hyqb5⟩) hHeld ?_
          case hyqb5 => (intro w hSw; (try dsimp only at hSw); go_simp; first | done | with_reducible rfl)
          try simp only [Act.put, List.setIfInBounds_toArray, List.set_cons_zero, List.set_cons_succ]
          refine wpAnyH_ready (rs := [1, 6]) (by kernel_rfl) (by simp) ?_
          refine AllReadyH.cons (o := { dst := some 22, op := Go.Op.load 22 (Go.Operand.tmp 21), type := 22, pos := "node.go:171", after := #[{ on := 0, ground := Go.Ground.data }], guard := none }) rfl (fun K hK => ?_) (AllReadyH.cons (o := { dst := some 27, op := Go.Op.buildSlice 22 1 #[(0, Go.Operand.tmp 26)], type := 22, pos := "node.go:171", after := #[{ on := 5, ground := Go.Ground.data }], guard := none }) rfl (fun K hK => ?_) AllReadyH.nil)
          · go_simp
            refine hK.out _ _ (b4) (fun hHeld => ?_)
            clear hK K
            try simp only [Act.put, List.setIfInBounds_toArray, List.set_cons_zero, List.set_cons_succ]
            refine wpAnyH_ready (rs := [6]) (by kernel_rfl) (by simp) ?_
            refine AllReadyH.cons (o := { dst := some 27, op := Go.Op.buildSlice 22 1 #[(0, Go.Operand.tmp 26)], type := 22, pos := "node.go:171", after := #[{ on := 5, ground := Go.Ground.data }], guard := none }) rfl (fun K hK => ?_) AllReadyH.nil
            go_simp
            refine hK.out _ _ (bX) (fun hHeld => ?_)
            clear hK K
            try simp only [Act.put, List.setIfInBounds_toArray, List.set_cons_zero, List.set_cons_succ]
            refine wpAnyH_ready (rs := [7]) (by kernel_rfl) (by simp) ?_
            refine AllReadyH.cons (o := { dst := some 28, op := Go.Op.call { callee := Go.Callee.builtin Go.Builtin.append, args := #[Go.Operand.tmp 22, Go.Operand.tmp 27], argTypes := #[22, 22] }, type := 22, pos := "node.go:171", after := #[{ on := 1, ground := Go.Ground.data }, { on := 6, ground := Go.Ground.data }, { on := 4, ground := Go.Ground.chain }], guard := none }) rfl (fun K hK => ?_) AllReadyH.nil
            refine step_appN rfl (.tmp 22) (.tmp 27) 22 22 rfl rfl _ _ _ _ (by simp [Act.eval, Act.put]) (by simp [Act.eval, Act.put]) HRUN.out ?_
            refine hK.out _ _ (b7) (fun hHeld => ?_)
            clear hK K
            try simp only [Act.put, List.setIfInBounds_toArray, List.set_cons_zero, List.set_cons_succ]
            refine wpAnyH_take (i := 8) (oi := { dst := some 29, op := Go.Op.fieldAddr 26 (Go.Operand.tmp 4) 1, type := 0, pos := "node.go:171", after := #[{ on := 0, ground := Go.Ground.phase }, { on := 1, ground := Go.Ground.phase }, { on := 2, ground := Go.Ground.phase }, { on := 3, ground := Go.Ground.phase }, { on := 4, ground := Go.Ground.phase }, { on := 5, ground := Go.Ground.phase }, { on := 6, ground := Go.Ground.phase }, { on := 7, ground := Go.Ground.phase }], guard := none }) (v := ?vqb18) rfl (by kernel_rfl) (by kernel_rfl) (by kernel_rfl) (fun _ _ _ h => h) (Or.inl ⟨by rfl, ?hyqb18⟩) hHeld ?_
            case hyqb18 => (intro w hSw; (try dsimp only at hSw); go_simp; first | done | with_reducible rfl)
            try simp only [Act.put, List.setIfInBounds_toArray, List.set_cons_zero, List.set_cons_succ]
            refine wpAnyH_ready (rs := [9]) (by kernel_rfl) (by simp) ?_
            refine AllReadyH.cons (o := { dst := none, op := Go.Op.store 22 (Go.Operand.tmp 29) (Go.Operand.tmp 28), type := 0, pos := "node.go:171", after := #[{ on := 8, ground := Go.Ground.data }, { on := 7, ground := Go.Ground.data }, { on := 7, ground := Go.Ground.chain }, { on := 0, ground := Go.Ground.phase }, { on := 1, ground := Go.Ground.phase }, { on := 2, ground := Go.Ground.phase }, { on := 3, ground := Go.Ground.phase }, { on := 4, ground := Go.Ground.phase }, { on := 5, ground := Go.Ground.phase }, { on := 6, ground := Go.Ground.phase }, { on := 7, ground := Go.Ground.phase }], guard := none }) rfl (fun K hK => ?_) AllReadyH.nil
            go_simp
            refine hK.out _ _ (b8) (fun hHeld => ?_)
            clear hK K
            try simp only [Act.put, List.setIfInBounds_toArray, List.set_cons_zero, List.set_cons_succ]
            refine wpAnyH_done (by kernel_rfl) ?_ _
            clear hHeld
            have hl8 := lenAt_of HMK8.out.cells.2.1
            go_wp2
            go_roundw
            case rel => exact ⟨j + 1, _, PS ++ [(x, y)], s3, HNEW.out, by omega, by rw [List.length_append, HLEN.out]; rfl, HMK8.out, HCU8.out, HFR8.out⟩
            case measure => rw [hl8, HLR.out]; have := HM'.out; rw [List.length_append, HLEN.out] at this; simp at this; omega
          · go_simp
            refine hK.out _ _ (bX) (fun hHeld => ?_)
            clear hK K
            try simp only [Act.put, List.setIfInBounds_toArray, List.set_cons_zero, List.set_cons_succ]
            refine wpAnyH_ready (rs := [1]) (by kernel_rfl) (by simp) ?_
            refine AllReadyH.cons (o := { dst := some 22, op := Go.Op.load 22 (Go.Operand.tmp 21), type := 22, pos := "node.go:171", after := #[{ on := 0, ground := Go.Ground.data }], guard := none }) rfl (fun K hK => ?_) AllReadyH.nil
            go_simp
            refine hK.out _ _ (bX) (fun hHeld => ?_)
            clear hK K
            try simp only [Act.put, List.setIfInBounds_toArray, List.set_cons_zero, List.set_cons_succ]
            refine wpAnyH_ready (rs := [7]) (by kernel_rfl) (by simp) ?_
            refine AllReadyH.cons (o := { dst := some 28, op := Go.Op.call { callee := Go.Callee.builtin Go.Builtin.append, args := #[Go.Operand.tmp 22, Go.Operand.tmp 27], argTypes := #[22, 22] }, type := 22, pos := "node.go:171", after := #[{ on := 1, ground := Go.Ground.data }, { on := 6, ground := Go.Ground.data }, { on := 4, ground := Go.Ground.chain }], guard := none }) rfl (fun K hK => ?_) AllReadyH.nil
            refine step_appN rfl (.tmp 22) (.tmp 27) 22 22 rfl rfl _ _ _ _ (by simp [Act.eval, Act.put]) (by simp [Act.eval, Act.put]) HRUN.out ?_
            refine hK.out _ _ (b7) (fun hHeld => ?_)
            clear hK K
            try simp only [Act.put, List.setIfInBounds_toArray, List.set_cons_zero, List.set_cons_succ]
            refine wpAnyH_take (i := 8) (oi := { dst := some 29, op := Go.Op.fieldAddr 26 (Go.Operand.tmp 4) 1, type := 0, pos := "node.go:171", after := #[{ on := 0, ground := Go.Ground.phase }, { on := 1, ground := Go.Ground.phase }, { on := 2, ground := Go.Ground.phase }, { on := 3, ground := Go.Ground.phase }, { on := 4, ground := Go.Ground.phase }, { on := 5, ground := Go.Ground.phase }, { on := 6, ground := Go.Ground.phase }, { on := 7, ground := Go.Ground.phase }], guard := none }) (v := ?vqb28) rfl (by kernel_rfl) (by kernel_rfl) (by kernel_rfl) (fun _ _ _ h => h) (Or.inl ⟨by rfl, ?hyqb28⟩) hHeld ?_
            case hyqb28 => (intro w hSw; (try dsimp only at hSw); go_simp; first | done | with_reducible rfl)
            try simp only [Act.put, List.setIfInBounds_toArray, List.set_cons_zero, List.set_cons_succ]
            refine wpAnyH_ready (rs := [9]) (by kernel_rfl) (by simp) ?_
            refine AllReadyH.cons (o := { dst := none, op := Go.Op.store 22 (Go.Operand.tmp 29) (Go.Operand.tmp 28), type := 0, pos := "node.go:171", after := #[{ on := 8, ground := Go.Ground.data }, { on := 7, ground := Go.Ground.data }, { on := 7, ground := Go.Ground.chain }, { on := 0, ground := Go.Ground.phase }, { on := 1, ground := Go.Ground.phase }, { on := 2, ground := Go.Ground.phase }, { on := 3, ground := Go.Ground.phase }, { on := 4, ground := Go.Ground.phase }, { on := 5, ground := Go.Ground.phase }, { on := 6, ground := Go.Ground.phase }, { on := 7, ground := Go.Ground.phase }], guard := none }) rfl (fun K hK => ?_) AllReadyH.nil
            go_simp
            refine hK.out _ _ (b8) (fun hHeld => ?_)
            clear hK K
            try simp only [Act.put, List.setIfInBounds_toArray, List.set_cons_zero, List.set_cons_succ]
            refine wpAnyH_done (by kernel_rfl) ?_ _
            clear hHeld
            have hl8 := lenAt_of HMK8.out.cells.2.1
            go_wp2
            go_roundw
            case rel => exact ⟨j + 1, _, PS ++ [(x, y)], s3, HNEW.out, by omega, by rw [List.length_append, HLEN.out]; rfl, HMK8.out, HCU8.out, HFR8.out⟩
            case measure => rw [hl8, HLR.out]; have := HM'.out; rw [List.length_append, HLEN.out] at this; simp at this; omega
    · have he : prs count s = (PS, (l1, sh)) := by
        rw [show count = j by omega]
        exact HP.out
      have HE := Lib.hid (HEND.out he HCUR.out)
      clear HEND he
      go_wp2
      refine bodyPost_ret (results_cell_row (P := Try.prog) (fn := Try.f41) rfl _ _ g 26 _ (0, 0) _ rfl HROW.out Try.underlying26 rfl (by kernel_rfl)) rfl HE.out

set_option maxHeartbeats 8000000 in
theorem innerRd_any (w : World) (z lim bx count : Nat) (s : St) (HC : Cu w z lim s) (hlim : lim ≤ w.heap.size) (hbox : w.cell? ⟨bx, 0, none⟩ = some (.pointer (some ⟨z, 0, none⟩))) (hbz : bx ≠ z) (hcount : count ≤ 65535) :
    Calls Try.prog 43 #[.int .i64 (count : Int), .pointer (some ⟨bx, 0, none⟩)] w fun e w' => (∃ hd, e = .returned (nv hd false) ∧ NdAt w' hd ⟨false, [], (kys count (chs (count + 1) s).2).1, (chs (count + 1) s).1⟩) ∧ Cu w' z lim (kys count (chs (count + 1) s).2).2 ∧ Fr (· = z) w w' := by
  obtain ⟨g, hg⟩ : ∃ g, w.heap.size = g := ⟨_, rfl⟩
  have HG := Lib.hid hg
  have hzg : z < g := by rw [← hg]; exact HC.lt
  have hbg : bx < g := by rw [← hg]; exact blt_of_cell hbox
  rw [hg] at hlim
  obtain ⟨W0, hW0⟩ : ∃ W0, (w.alloc (.cells #[.bool false, .slice none 0 0, .slice none 0 0, .slice none 0 0] 26)).alloc (.cells #[.bool false, .slice none 0 0, .slice none 0 0, .slice none 0 0] 26) = W0 := ⟨_, rfl⟩
  have hb0 : Below w.heap.size w W0 := by rw [← hW0]; exact ((Below.refl _ _).alloc (Nat.le_refl _) _).alloc (by simp) _
  have hs0 : W0.heap.size = g + 2 := by rw [← hW0]; simp [hg]
  have HMK0 : Hid (Mk W0 z bx g (g + 1) (g + 2) false (.slice none 0 0) (.slice none 0 0) (.slice none 0 0) ⟨false, [], [], []⟩) := by
    refine ⟨?_, ?_, (cell_of_blk (hb0.block bx (by omega))).trans hbox, own_nil _ _ _ _, own_nil _ _ _ _, own_nil _ _ _ _, fun i h => by simp [Value.ownBlock] at h, fun i h => by simp [Value.ownBlock] at h, fun i h => by simp [Value.ownBlock] at h, by omega, by omega, hbg, hzg, hbz, by omega⟩
    · rw [← hW0, ← hg]
      have := heap_alloc_new (w.alloc (.cells #[.bool false, .slice none 0 0, .slice none 0 0, .slice none 0 0] 26)) (.cells #[.bool false, .slice none 0 0, .slice none 0 0, .slice none 0 0] 26)
      simpa using this
    · rw [← hW0, ← hg, heap_alloc_old _ _ (by simp)]
      exact heap_alloc_new _ _
  have HFR0 : Hid (Fr (· = z) w W0) := Fr.of hb0
  have HCU0 : Hid (Cu W0 z lim s) := HC.keep hb0
  have HW0 := Lib.hid hW0
  clear HC hb0 hbox hs0 hW0
  go_enter Try.func43, Try.ntmps43
  go_wp2
  rw [HW0.out]
  go_loopw [6] (fun _ wr => ∃ (j : Nat) (cv : Value) (CS : List Int) (s1 : St), chs j s = (CS, s1) ∧ j ≤ count + 1 ∧ CS.length = j ∧ Mk wr z bx g (g + 1) (g + 2) false (.slice none 0 0) (.slice none 0 0) cv ⟨false, [], [], CS⟩ ∧ Cu wr z lim s1 ∧ Fr (· = z) w wr) (fun _ wr => count + 1 - lenAt wr (g + 1) 3)
  case atStart => exact ⟨0, _, [], s, rfl, Nat.zero_le _, rfl, HMK0.out, HCU0.out, HFR0.out⟩
  case round =>
    obtain ⟨j, cv, CS, s1, hp, hj, hlen, hmk, hcu, hfr⟩ := hrel
    have hpsz : ∀ p ∈ CS, -9223372036854775808 ≤ p ∧ p ≤ 9223372036854775807 := by
      intro p hq
      have := chs_size s j
      rw [hp] at this
      have := this p hq
      omega
    obtain ⟨A, c, hpv, hrd⟩ := rdI_own hmk.c hpsz
    simp only at hpv hrd
    rw [hlen] at hpv hrd
    subst hpv
    have HP := Lib.hid hp
    have HLEN := Lib.hid hlen
    have HMK := Lib.hid hmk
    have HCUR := Lib.hid hcu
    have HFR := Lib.hid hfr
    have HPSZ := Lib.hid hpsz
    have HRD := Lib.hid hrd
    have b0 := hmk.box
    obtain ⟨d0, d1, d2, d3, df⟩ := hmk.cells
    clear df
    have fl := hcu.flag
    obtain ⟨l1, sh⟩ := s1
    simp only at fl
    clear hp hlen hmk hcu hfr hpsz hrd
    have HSTEP : Hid (chs (count + 1) s = (CS, (l1, sh)) → True) := fun _ => trivial
    by_cases hgo : j < count + 1 ∧ sh = false
    · obtain ⟨hlt, hsh⟩ := hgo
      subst hsh
      have MKd : Hid (Mk wr.drew z bx g (g + 1) (g + 2) false (.slice none 0 0) (.slice none 0 0) (.slice A j c) ⟨false, [], [], CS⟩) := HMK.out.keep (Below.refl _ _).drew
      have FRd : Hid (Fr (· = z) w wr.drew) := HFR.out.drew
      have HTY := Lib.hid (number_any wr.drew z _ lim (HCUR.out.keep (Below.refl _ _).drew) 3 (by omega))
      obtain ⟨x, hx⟩ : ∃ x, (stNum (l1, false) 3).1 = x := ⟨_, rfl⟩
      obtain ⟨s3, hs3⟩ : ∃ s3, (stNum (l1, false) 3).2 = s3 := ⟨_, rfl⟩
      rw [hx, hs3] at HTY
      have HNEW : Hid (chs (j + 1) s = (CS ++ [(x : Int)], s3)) := by
        show chs (j + 1) s = _
        rw [chs_step j s (by rw [HP.out]), HP.out, hx, hs3]
      have hxl : x < 16777216 := by have := stNum_lt (l1, false) 3 (by omega); rw [hx] at this; omega
      have HPSZ2 : Hid (∀ p ∈ CS ++ [(x : Int)], -9223372036854775808 ≤ p ∧ p ≤ 9223372036854775807) := fun p hp => by
        rcases List.mem_append.1 hp with h | h
        · exact HPSZ.out p h
        · obtain rfl := List.mem_singleton.1 h
          omega
      have HLR := Lib.hid (lenAt_of HMK.out.cells.2.2.2.1)
      have bd := MKd.out.box
      have ld := MKd.out.cells.2.2.2.1
      have hl100 : CS.length ≤ 100000 := by rw [HLEN.out]; omega
      have hlt2 : (j : Int) < (count : Int) + 1 := by omega
      clear hx hs3 HSTEP
      go_wp2_with fail
      clear d0 d1 d2 d3 b0 fl hlt2
      refine wp_region_held_drew (S := fun W => W.cell? ⟨bx, 0, none⟩ = some (.pointer (some ⟨z, 0, none⟩))) (by kernel_rfl) (bd) (fun hHeld => ?_)
      refine wpAnyH_take (i := 0) (oi := { dst := some 19, op := Go.Op.fieldAddr 26 (Go.Operand.tmp 4) 3, type := 0, pos := "node.go:178", after := #[], guard := none }) (v := ?vrt0) rfl (by kernel_rfl) (by kernel_rfl) (by kernel_rfl) (fun _ _ _ h => h) (Or.inl ⟨by rfl, ?hyrt0⟩) hHeld ?_
      case hyrt0 => (intro w hSw; (try dsimp only at hSw); go_simp; first | done | with_reducible rfl)
      try simp only [Act.put, List.setIfInBounds_toArray, List.set_cons_zero, List.set_cons_succ]
      refine wpAnyH_take (i := 2) (oi := { dst := some 21, op := Go.Op.load 56 (Go.Operand.tmp 1), type := 56, pos := "node.go:178", after := #[], guard := none }) (v := ?vrt2) rfl (by kernel_rfl) (by kernel_rfl) (by kernel_rfl) (fun _ _ _ h => h) (Or.inl ⟨by rfl, ?hyrt2⟩) hHeld ?_
      case hyrt2 => (intro w hSw; (try dsimp only at hSw); go_simp; first | done | with_reducible rfl)
      try simp only [Act.put, List.setIfInBounds_toArray, List.set_cons_zero, List.set_cons_succ]
      refine wpAnyH_ready (rs := [1, 3]) (by kernel_rfl) (by simp) ?_
      refine AllReadyH.cons (o := { dst := some 20, op := Go.Op.load 24 (Go.Operand.tmp 19), type := 24, pos := "node.go:178", after := #[{ on := 0, ground := Go.Ground.data }], guard := none }) rfl (fun K hK => ?_) (AllReadyH.cons (o := { dst := some 22, op := Go.Op.call { callee := Go.Callee.value (Go.Operand.func 28), args := #[Go.Operand.tmp 21, Go.Operand.const (Go.Value.int Go.IntKind.i64 3)], argTypes := #[56, 3] }, type := 3, pos := "node.go:178", after := #[{ on := 2, ground := Go.Ground.data }], guard := none }) rfl (fun K hK => ?_) AllReadyH.nil)
      · go_simp
        refine hK.out _ _ (bd) (fun hHeld => ?_)
        clear hK K
        try simp only [Act.put, List.setIfInBounds_toArray, List.set_cons_zero, List.set_cons_succ]
        refine wpAnyH_ready (rs := [3]) (by kernel_rfl) (by simp) ?_
        refine AllReadyH.cons (o := { dst := some 22, op := Go.Op.call { callee := Go.Callee.value (Go.Operand.func 28), args := #[Go.Operand.tmp 21, Go.Operand.const (Go.Value.int Go.IntKind.i64 3)], argTypes := #[56, 3] }, type := 3, pos := "node.go:178", after := #[{ on := 2, ground := Go.Ground.data }], guard := none }) rfl (fun K hK => ?_) AllReadyH.nil
        go_simp
        refine HTY.out.mono ?_
        rintro e w4 ⟨rfl, hc4, hf4⟩
        have MK4 := MKd.out.fr hf4
        have FR4 : Fr (· = z) w w4 := FRd.out.trans hf4
        obtain ⟨v', w7, hrun, b7, c7, f7, b8, MK8, FR8⟩ := Mk.appC MK4 (by show _ ≤ 100000; omega) (x : Int)
        have b4 := MK4.box
        have bX := (MK4.keep ((Below.refl w4.heap.size w4).alloc (Nat.le_refl _) (.cells #[.int .i64 (x : Int)] 3))).box
        have l4 := MK4.cells.2.2.2.1
        have lX := (MK4.keep ((Below.refl w4.heap.size w4).alloc (Nat.le_refl _) (.cells #[.int .i64 (x : Int)] 3))).cells.2.2.2.1
        obtain ⟨X, hX⟩ : ∃ X, w4.alloc (.cells #[.int .i64 (x : Int)] 3) = X := ⟨_, rfl⟩
        rw [hX] at hrun bX lX
        obtain ⟨A', c', hv', _⟩ := rdI_own MK8.c HPSZ2.out
        subst hv'
        obtain ⟨m', hm'⟩ : ∃ m', (CS ++ [(x : Int)]).length = m' := ⟨_, rfl⟩
        have HRUN : Hid _ := hrun
        have HMK8 : Hid _ := MK8
        have HFR8 : Hid (Fr (· = z) w _) := FR4.step FR8 (fun i hi => .inr (by omega))
        have HCU8 : Hid (Cu _ z lim _) := hc4.fr FR8 (by omega) (fun k hk => by omega)
        rw [hm'] at HRUN b8 HMK8 HFR8 HCU8
        have HM' := Lib.hid hm'
        clear hc4 hf4 MK4 FR4 MK8 FR8 hrun hm'
        go_wp2_with fail
        refine hK.out _ _ (b4) (fun hHeld => ?_)
        clear hK K
        try simp only [Act.put, List.setIfInBounds_toArray, List.set_cons_zero, List.set_cons_succ]
        refine wpAnyH_ready (rs := [4]) (by kernel_rfl) (by simp) ?_
        refine AllReadyH.cons (o := { dst := some 23, op := Go.Op.buildSlice 24 1 #[(0, Go.Operand.tmp 22)], type := 24, pos := "node.go:178", after := #[{ on := 3, ground := Go.Ground.data }], guard := none }) rfl (fun K hK => ?_) AllReadyH.nil
        go_simp
        refine hK.out _ _ (bX) (fun hHeld => ?_)
        clear hK K
        try simp only [Act.put, List.setIfInBounds_toArray, List.set_cons_zero, List.set_cons_succ]
        refine wpAnyH_ready (rs := [5]) (by kernel_rfl) (by simp) ?_
        refine AllReadyH.cons (o := { dst := some 24, op := Go.Op.call { callee := Go.Callee.builtin Go.Builtin.append, args := #[Go.Operand.tmp 20, Go.Operand.tmp 23], argTypes := #[24, 24] }, type := 24, pos := "node.go:178", after := #[{ on := 1, ground := Go.Ground.data }, { on := 4, ground := Go.Ground.data }, { on := 3, ground := Go.Ground.chain }], guard := none }) rfl (fun K hK => ?_) AllReadyH.nil
        refine step_appN rfl (.tmp 20) (.tmp 23) 24 24 rfl rfl _ _ _ _ (by simp [Act.eval, Act.put]) (by simp [Act.eval, Act.put]) HRUN.out ?_
        refine hK.out _ _ (b7) (fun hHeld => ?_)
        clear hK K
        try simp only [Act.put, List.setIfInBounds_toArray, List.set_cons_zero, List.set_cons_succ]
        refine wpAnyH_take (i := 6) (oi := { dst := some 25, op := Go.Op.fieldAddr 26 (Go.Operand.tmp 4) 3, type := 0, pos := "node.go:178", after := #[{ on := 0, ground := Go.Ground.phase }, { on := 1, ground := Go.Ground.phase }, { on := 2, ground := Go.Ground.phase }, { on := 3, ground := Go.Ground.phase }, { on := 4, ground := Go.Ground.phase }, { on := 5, ground := Go.Ground.phase }], guard := none }) (v := ?vra6) rfl (by kernel_rfl) (by kernel_rfl) (by kernel_rfl) (fun _ _ _ h => h) (Or.inl ⟨by rfl, ?hyra6⟩) hHeld ?_
        case hyra6 => (intro w hSw; (try dsimp only at hSw); go_simp; first | done | with_reducible rfl)
        try simp only [Act.put, List.setIfInBounds_toArray, List.set_cons_zero, List.set_cons_succ]
        refine wpAnyH_ready (rs := [7]) (by kernel_rfl) (by simp) ?_
        refine AllReadyH.cons (o := { dst := none, op := Go.Op.store 24 (Go.Operand.tmp 25) (Go.Operand.tmp 24), type := 0, pos := "node.go:178", after := #[{ on := 6, ground := Go.Ground.data }, { on := 5, ground := Go.Ground.data }, { on := 5, ground := Go.Ground.chain }, { on := 0, ground := Go.Ground.phase }, { on := 1, ground := Go.Ground.phase }, { on := 2, ground := Go.Ground.phase }, { on := 3, ground := Go.Ground.phase }, { on := 4, ground := Go.Ground.phase }, { on := 5, ground := Go.Ground.phase }], guard := none }) rfl (fun K hK => ?_) AllReadyH.nil
        go_simp
        refine hK.out _ _ (b8) (fun hHeld => ?_)
        clear hK K
        try simp only [Act.put, List.setIfInBounds_toArray, List.set_cons_zero, List.set_cons_succ]
        refine wpAnyH_done (by kernel_rfl) ?_ _
        clear hHeld
        have hl8 := lenAt_of HMK8.out.cells.2.2.2.1
        go_wp2
        go_roundw
        case rel => exact ⟨j + 1, _, CS ++ [(x : Int)], s3, HNEW.out, by omega, by rw [List.length_append, HLEN.out]; rfl, HMK8.out, HCU8.out, HFR8.out⟩
        case measure => rw [hl8, HLR.out]; have := HM'.out; rw [List.length_append, HLEN.out] at this; simp at this; omega
      · go_simp
        refine HTY.out.mono ?_
        rintro e w4 ⟨rfl, hc4, hf4⟩
        have MK4 := MKd.out.fr hf4
        have FR4 : Fr (· = z) w w4 := FRd.out.trans hf4
        obtain ⟨v', w7, hrun, b7, c7, f7, b8, MK8, FR8⟩ := Mk.appC MK4 (by show _ ≤ 100000; omega) (x : Int)
        have b4 := MK4.box
        have bX := (MK4.keep ((Below.refl w4.heap.size w4).alloc (Nat.le_refl _) (.cells #[.int .i64 (x : Int)] 3))).box
        have l4 := MK4.cells.2.2.2.1
        have lX := (MK4.keep ((Below.refl w4.heap.size w4).alloc (Nat.le_refl _) (.cells #[.int .i64 (x : Int)] 3))).cells.2.2.2.1
        obtain ⟨X, hX⟩ : ∃ X, w4.alloc (.cells #[.int .i64 (x : Int)] 3) = X := ⟨_, rfl⟩
        rw [hX] at hrun bX lX
        obtain ⟨A', c', hv', _⟩ := rdI_own MK8.c HPSZ2.out
        subst hv'
        obtain ⟨m', hm'⟩ : ∃ m', (CS ++ [(x : Int)]).length = m' := ⟨_, rfl⟩
        have HRUN : Hid _ := hrun
        have HMK8 : Hid _ := MK8
        have HFR8 : Hid (Fr (· = z) w _) := FR4.step FR8 (fun i hi => .inr (by omega))
        have HCU8 : Hid (Cu _ z lim _) := hc4.fr FR8 (by omega) (fun k hk => by omega)
        rw [hm'] at HRUN b8 HMK8 HFR8 HCU8
        have HM' := Lib.hid hm'
        clear hc4 hf4 MK4 FR4 MK8 FR8 hrun hm'
        go_wp2_with fail
        refine hK.out _ _ (b4) (fun hHeld => ?_)
        clear hK K
        try simp only [Act.put, List.setIfInBounds_toArray, List.set_cons_zero, List.set_cons_succ]
        refine wpAnyH_ready (rs := [1, 4]) (by kernel_rfl) (by simp) ?_
        refine AllReadyH.cons (o := { dst := some 20, op := Go.Op.load 24 (Go.Operand.tmp 19), type := 24, pos := "node.go:178", after := #[{ on := 0, ground := Go.Ground.data }], guard := none }) rfl (fun K hK => ?_) (AllReadyH.cons (o := { dst := some 23, op := Go.Op.buildSlice 24 1 #[(0, Go.Operand.tmp 22)], type := 24, pos := "node.go:178", after := #[{ on := 3, ground := Go.Ground.data }], guard := none }) rfl (fun K hK => ?_) AllReadyH.nil)
        · go_simp
          refine hK.out _ _ (b4) (fun hHeld => ?_)
          clear hK K
          try simp only [Act.put, List.setIfInBounds_toArray, List.set_cons_zero, List.set_cons_succ]
          refine wpAnyH_ready (rs := [4]) (by kernel_rfl) (by simp) ?_
          refine AllReadyH.cons (o := { dst := some 23, op := Go.Op.buildSlice 24 1 #[(0, Go.Operand.tmp 22)], type := 24, pos := "node.go:178", after := #[{ on := 3, ground := Go.Ground.data }], guard := none }) rfl (fun K hK => ?_) AllReadyH.nil
          go_simp
          refine hK.out _ _ (bX) (fun hHeld => ?_)
          clear hK K
          try simp only [Act.put, List.setIfInBounds_toArray, List.set_cons_zero, List.set_cons_succ]
          refine wpAnyH_ready (rs := [5]) (by kernel_rfl) (by simp) ?_
          refine AllReadyH.cons (o := { dst := some 24, op := Go.Op.call { callee := Go.Callee.builtin Go.Builtin.append, args := #[Go.Operand.tmp 20, Go.Operand.tmp 23], argTypes := #[24, 24] }, type := 24, pos := "node.go:178", after := #[{ on := 1, ground := Go.Ground.data }, { on := 4, ground := Go.Ground.data }, { on := 3, ground := Go.Ground.chain }], guard := none }) rfl (fun K hK => ?_) AllReadyH.nil
          refine step_appN rfl (.tmp 20) (.tmp 23) 24 24 rfl rfl _ _ _ _ (by simp [Act.eval, Act.put]) (by simp [Act.eval, Act.put]) HRUN.out ?_
          refine hK.out _ _ (b7) (fun hHeld => ?_)
          clear hK K
          try simp only [Act.put, List.setIfInBounds_toArray, List.set_cons_zero, List.set_cons_succ]
          refine wpAnyH_take (i := 6) (oi := { dst := some 25, op := Go.Op.fieldAddr 26 (Go.Operand.tmp 4) 3, type := 0, pos := "node.go:178", after := #[{ on := 0, ground := Go.Ground.phase }, { on := 1, ground := Go.Ground.phase }, { on := 2, ground := Go.Ground.phase }, { on := 3, ground := Go.Ground.phase }, { on := 4, ground := Go.Ground.phase }, { on := 5, ground := Go.Ground.phase }], guard := none }) (v := ?vrb16) rfl (by kernel_rfl) (by kernel_rfl) (by kernel_rfl) (fun _ _ _ h => h) (Or.inl ⟨by rfl, ?hyrb16⟩) hHeld ?_
          case hyrb16 => (intro w hSw; (try dsimp only at hSw); go_simp; first | done | with_reducible rfl)
          try simp only [Act.put, List.setIfInBounds_toArray, List.set_cons_zero, List.set_cons_succ]
          refine wpAnyH_ready (rs := [7]) (by kernel_rfl) (by simp) ?_
          refine AllReadyH.cons (o := { dst := none, op := Go.Op.store 24 (Go.Operand.tmp 25) (Go.Operand.tmp 24), type := 0, pos := "node.go:178", after := #[{ on := 6, ground := Go.Ground.data }, { on := 5, ground := Go.Ground.data }, { on := 5, ground := Go.Ground.chain }, { on := 0, ground := Go.Ground.phase }, { on := 1, ground := Go.Ground.phase }, { on := 2, ground := Go.Ground.phase }, { on := 3, ground := Go.Ground.phase }, { on := 4, ground := Go.Ground.phase }, { on := 5, ground := Go.Ground.phase }], guard := none }) rfl (fun K hK => ?_) AllReadyH.nil
          go_simp
          refine hK.out _ _ (b8) (fun hHeld => ?_)
          clear hK K
          try simp only [Act.put, List.setIfInBounds_toArray, List.set_cons_zero, List.set_cons_succ]
          refine wpAnyH_done (by kernel_rfl) ?_ _
          clear hHeld
          have hl8 := lenAt_of HMK8.out.cells.2.2.2.1
          go_wp2
          go_roundw
          case rel => exact ⟨j + 1, _, CS ++ [(x : Int)], s3, HNEW.out, by omega, by rw [List.length_append, HLEN.out]; rfl, HMK8.out, HCU8.out, HFR8.out⟩
          case measure => rw [hl8, HLR.out]; have := HM'.out; rw [List.length_append, HLEN.out] at this; simp at this; omega
        · go_simp
          refine hK.out _ _ (bX) (fun hHeld => ?_)
          clear hK K
          try simp only [Act.put, List.setIfInBounds_toArray, List.set_cons_zero, List.set_cons_succ]
          refine wpAnyH_ready (rs := [1]) (by kernel_rfl) (by simp) ?_
          refine AllReadyH.cons (o := { dst := some 20, op := Go.Op.load 24 (Go.Operand.tmp 19), type := 24, pos := "node.go:178", after := #[{ on := 0, ground := Go.Ground.data }], guard := none }) rfl (fun K hK => ?_) AllReadyH.nil
          go_simp
          refine hK.out _ _ (bX) (fun hHeld => ?_)
          clear hK K
          try simp only [Act.put, List.setIfInBounds_toArray, List.set_cons_zero, List.set_cons_succ]
          refine wpAnyH_ready (rs := [5]) (by kernel_rfl) (by simp) ?_
          refine AllReadyH.cons (o := { dst := some 24, op := Go.Op.call { callee := Go.Callee.builtin Go.Builtin.append, args := #[Go.Operand.tmp 20, Go.Operand.tmp 23], argTypes := #[24, 24] }, type := 24, pos := "node.go:178", after := #[{ on := 1, ground := Go.Ground.data }, { on := 4, ground := Go.Ground.data }, { on := 3, ground := Go.Ground.chain }], guard := none }) rfl (fun K hK => ?_) AllReadyH.nil
          refine step_appN rfl (.tmp 20) (.tmp 23) 24 24 rfl rfl _ _ _ _ (by simp [Act.eval, Act.put]) (by simp [Act.eval, Act.put]) HRUN.out ?_
          refine hK.out _ _ (b7) (fun hHeld => ?_)
          clear hK K
          try simp only [Act.put, List.setIfInBounds_toArray, List.set_cons_zero, List.set_cons_succ]
          refine wpAnyH_take (i := 6) (oi := { dst := some 25, op := Go.Op.fieldAddr 26 (Go.Operand.tmp 4) 3, type := 0, pos := "node.go:178", after := #[{ on := 0, ground := Go.Ground.phase }, { on := 1, ground := Go.Ground.phase }, { on := 2, ground := Go.Ground.phase }, { on := 3, ground := Go.Ground.phase }, { on := 4, ground := Go.Ground.phase }, { on := 5, ground := Go.Ground.phase }], guard := none }) (v := ?vrb26) rfl (by kernel_rfl) (by kernel_rfl) (by kernel_rfl) (fun _ _ _ h => h) (Or.inl ⟨by rfl, ?hyrb26⟩) hHeld ?_
          case hyrb26 => (intro w hSw; (try dsimp only at hSw); go_simp; first | done | with_reducible rfl)
          try simp only [Act.put, List.setIfInBounds_toArray, List.set_cons_zero, List.set_cons_succ]
          refine wpAnyH_ready (rs := [7]) (by kernel_rfl) (by simp) ?_
          refine AllReadyH.cons (o := { dst := none, op := Go.Op.store 24 (Go.Operand.tmp 25) (Go.Operand.tmp 24), type := 0, pos := "node.go:178", after := #[{ on := 6, ground := Go.Ground.data }, { on := 5, ground := Go.Ground.data }, { on := 5, ground := Go.Ground.chain }, { on := 0, ground := Go.Ground.phase }, { on := 1, ground := Go.Ground.phase }, { on := 2, ground := Go.Ground.phase }, { on := 3, ground := Go.Ground.phase }, { on := 4, ground := Go.Ground.phase }, { on := 5, ground := Go.Ground.phase }], guard := none }) rfl (fun K hK => ?_) AllReadyH.nil
          go_simp
          refine hK.out _ _ (b8) (fun hHeld => ?_)
          clear hK K
          try simp only [Act.put, List.setIfInBounds_toArray, List.set_cons_zero, List.set_cons_succ]
          refine wpAnyH_done (by kernel_rfl) ?_ _
          clear hHeld
          have hl8 := lenAt_of HMK8.out.cells.2.2.2.1
          go_wp2
          go_roundw
          case rel => exact ⟨j + 1, _, CS ++ [(x : Int)], s3, HNEW.out, by omega, by rw [List.length_append, HLEN.out]; rfl, HMK8.out, HCU8.out, HFR8.out⟩
          case measure => rw [hl8, HLR.out]; have := HM'.out; rw [List.length_append, HLEN.out] at this; simp at this; omega
    · have hj2 : chs (count + 1) s = (CS, (l1, sh)) := by
        by_cases hlt : j < count + 1
        · have hsh : sh = true := by
            cases sh
            · exact absurd ⟨hlt, rfl⟩ hgo
            · rfl
          subst hsh
          have h2 := chs_stop j s (by rw [HP.out]) (count + 1 - j)
          rw [show j + (count + 1 - j) = count + 1 by omega, HP.out] at h2
          exact h2
        · rw [show count + 1 = j by omega]
          exact HP.out
      have HJ2 := Lib.hid hj2
      have HGO := Lib.hid hgo
      clear hj2 HSTEP hgo
      by_cases hlt : j < count + 1
      · have hsh : sh = true := by
          cases sh
          · exact absurd ⟨hlt, rfl⟩ HGO.out
          · rfl
        have hlt2 : (j : Int) < (count : Int) + 1 := by omega
        obtain ⟨st1, hst1⟩ : ∃ st1, (l1, sh) = st1 := ⟨_, rfl⟩
        rw [hst1] at HCUR HJ2
        rw [hsh] at fl
        clear hst1 hsh HP HGO
        go_wp2
        clear b0 d0 d1 d2 d3 hlt hlt2
        go_loopw [26] (fun _ wr => ∃ (m : Nat) (kv : Value) (KS : List ByteArray) (s2 : St), kys m st1 = (KS, s2) ∧ m ≤ count ∧ KS.length = m ∧ Mk wr z bx g (g + 1) (g + 2) false (.slice none 0 0) kv (.slice A j c) ⟨false, [], KS, CS⟩ ∧ Cu wr z lim s2 ∧ Fr (· = z) w wr) (fun _ wr => count - lenAt wr (g + 1) 2)
        case atStart => exact ⟨0, _, [], st1, rfl, Nat.zero_le _, rfl, HMK.out, HCUR.out, HFR.out⟩
        case round =>
          have HCS := Lib.hid HPSZ.out
          have HCL := Lib.hid HLEN.out
          clear HMK HCUR HFR HPSZ HRD HLEN
          obtain ⟨m, kv, KS, s2, hp, hm, hlen, hmk, hcu, hfr⟩ := hrel
          have hpsz : ∀ p ∈ KS, p.size ≤ 255 := by have := kys_size st1 m; rw [hp] at this; exact this
          obtain ⟨B, cb, hpv, hrd⟩ := rdS_own hmk.k (fun p hp => Nat.le_trans (hpsz p hp) (by unfold maxLen; omega))
          simp only at hpv hrd
          rw [hlen] at hpv hrd
          subst hpv
          have HP := Lib.hid hp
          have HLEN := Lib.hid hlen
          have HMK := Lib.hid hmk
          have HCUR := Lib.hid hcu
          have HFR := Lib.hid hfr
          have HPSZ := Lib.hid hpsz
          have b0 := hmk.box
          obtain ⟨d0, d1, d2, d3, df⟩ := hmk.cells
          clear df
          have fl := hcu.flag
          have z0 : wr.cell? ⟨g, 0, none⟩ = some (.bool false) := by rw [cell_of_row wr g _ _ 26 (0, 0) hmk.zero]; rfl
          have z1 : wr.cell? ⟨g, 1, none⟩ = some (.slice none 0 0) := by rw [cell_of_row wr g _ _ 26 (0, 0) hmk.zero]; rfl
          have z2 : wr.cell? ⟨g, 2, none⟩ = some (.slice none 0 0) := by rw [cell_of_row wr g _ _ 26 (0, 0) hmk.zero]; rfl
          have z3 : wr.cell? ⟨g, 3, none⟩ = some (.slice none 0 0) := by rw [cell_of_row wr g _ _ 26 (0, 0) hmk.zero]; rfl
          have hrow : (((((wr.setCell ⟨g, 0, none⟩ (.bool false)).setCell ⟨g, 1, none⟩ (.slice none 0 0)).setCell ⟨g, 2, none⟩ (.slice B m cb)).setCell ⟨g, 3, none⟩ (.slice A j c)).heap[g]? = some (.cells #[.bool false, .slice none 0 0, .slice B m cb, .slice A j c] 26 (0, 0))) := by
            have r3 := row_set (i := 3) (row_set (i := 2) (row_set (i := 1) (row_set (i := 0) hmk.zero (.bool false)) (.slice none 0 0)) (.slice B m cb)) (.slice A j c)
            simpa using r3
          have HROW := Lib.hid hrow
          have zf : ∀ i, wr.frozen? ⟨g, i, none⟩ = false := fun i => by simp [World.frozen?, hmk.zero]
          have zf0 := zf 0
          have zf1 := zf 1
          have zf2 := zf 2
          have zf3 := zf 3
          obtain ⟨l2, sh2⟩ := s2
          simp only at fl
          clear hp hlen hmk hcu hfr hpsz hrd zf hrow
          have HEND : Hid (kys count st1 = (KS, (l2, sh2)) → Cu wr z lim (l2, sh2) → (∃ hd, Ending.returned (Value.agg #[.bool false, .slice none 0 0, .slice B m cb, .slice A j c]) = .returned (nv hd false) ∧ NdAt ((((wr.setCell ⟨g, 0, none⟩ (.bool false)).setCell ⟨g, 1, none⟩ (.slice none 0 0)).setCell ⟨g, 2, none⟩ (.slice B m cb)).setCell ⟨g, 3, none⟩ (.slice A j c)) hd ⟨false, [], (kys count (chs (count + 1) s).2).1, (chs (count + 1) s).1⟩) ∧ Cu ((((wr.setCell ⟨g, 0, none⟩ (.bool false)).setCell ⟨g, 1, none⟩ (.slice none 0 0)).setCell ⟨g, 2, none⟩ (.slice B m cb)).setCell ⟨g, 3, none⟩ (.slice A j c)) z lim (kys count (chs (count + 1) s).2).2 ∧ Fr (· = z) w ((((wr.setCell ⟨g, 0, none⟩ (.bool false)).setCell ⟨g, 1, none⟩ (.slice none 0 0)).setCell ⟨g, 2, none⟩ (.slice B m cb)).setCell ⟨g, 3, none⟩ (.slice A j c))) := fun he hcu => by
            rw [HJ2.out]
            simp only
            rw [he]
            have hfs : Fr (· = g) wr ((((wr.setCell ⟨g, 0, none⟩ (.bool false)).setCell ⟨g, 1, none⟩ (.slice none 0 0)).setCell ⟨g, 2, none⟩ (.slice B m cb)).setCell ⟨g, 3, none⟩ (.slice A j c)) := ((((Fr.refl (· = g) wr).setCell (.inl rfl) _).setCell (.inl rfl) _).setCell (.inl rfl) _).setCell (.inl rfl) _
            have hown := own_keepB HMK.out.k (w' := ((((wr.setCell ⟨g, 0, none⟩ (.bool false)).setCell ⟨g, 1, none⟩ (.slice none 0 0)).setCell ⟨g, 2, none⟩ (.slice B m cb)).setCell ⟨g, 3, none⟩ (.slice A j c))) (fun k hk => hfs.block k (own_lt HMK.out.k k hk).2 (by have := (own_lt HMK.out.k k hk).1; show ¬ k = g; omega))
            have hown3 := own_keepB HMK.out.c (w' := ((((wr.setCell ⟨g, 0, none⟩ (.bool false)).setCell ⟨g, 1, none⟩ (.slice none 0 0)).setCell ⟨g, 2, none⟩ (.slice B m cb)).setCell ⟨g, 3, none⟩ (.slice A j c))) (fun k hk => hfs.block k (own_lt HMK.out.c k hk).2 (by have := (own_lt HMK.out.c k hk).1; show ¬ k = g; omega))
            obtain ⟨A2, c2, e2, hrd2⟩ := rdS_own hown (fun p hp => Nat.le_trans (HPSZ.out p hp) (by unfold maxLen; omega))
            obtain ⟨A3, c3, e3, hrd3⟩ := rdI_own hown3 HCS.out
            cases e2
            cases e3
            simp only at hrd2 hrd3
            exact ⟨⟨⟨none, 0, 0, B, _, cb, A, _, c⟩, rfl, ⟨RdP.nil _ _ _, hrd2, hrd3⟩⟩, hcu.fr hfs (by show ¬ z = g; omega) (fun k hk => by have : k = g := hk; omega), HFR.out.step hfs (fun i hi => .inr (by have : i = g := hi; rw [HG.out]; omega))⟩
          by_cases hlt : m < count
          · cases sh2 with
            | true =>
              have he : kys count st1 = (KS, (l2, true)) := by
                have h2 := kys_stop m st1 (by rw [HP.out]) (count - m)
                rw [show m + (count - m) = count by omega, HP.out] at h2
                exact h2
              have HE := Lib.hid (HEND.out he HCUR.out)
              clear HEND he
              go_wp2
              refine bodyPost_ret (results_cell_row (P := Try.prog) (fn := Try.f43) rfl _ _ g 26 _ (0, 0) _ rfl HROW.out Try.underlying26 rfl (by kernel_rfl)) rfl HE.out
            | false =>
              clear HEND
              have MKd : Hid (Mk wr.drew z bx g (g + 1) (g + 2) false (.slice none 0 0) (.slice B m cb) (.slice A j c) ⟨false, [], KS, CS⟩) := HMK.out.keep (Below.refl _ _).drew
              have FRd : Hid (Fr (· = z) w wr.drew) := HFR.out.drew
              have HTY := Lib.hid (text_any wr.drew z _ lim (HCUR.out.keep (Below.refl _ _).drew))
              obtain ⟨x, hx⟩ : ∃ x, (stTxt (l2, false)).1 = x := ⟨_, rfl⟩
              obtain ⟨s3, hs3⟩ : ∃ s3, (stTxt (l2, false)).2 = s3 := ⟨_, rfl⟩
              rw [hx, hs3] at HTY
              have HNEW : Hid (kys (m + 1) st1 = (KS ++ [x], s3)) := by
                show kys (m + 1) st1 = _
                rw [kys_step m st1 (by rw [HP.out]), HP.out, hx, hs3]
              have hszx : x.size ≤ 255 := by rw [← hx]; exact stTxt_size _
              have HPSZ2 : Hid (∀ p ∈ KS ++ [x], p.size ≤ maxLen) := fun p hp => by
                rcases List.mem_append.1 hp with h | h
                · exact Nat.le_trans (HPSZ.out p h) (by unfold maxLen; omega)
                · obtain rfl := List.mem_singleton.1 h
                  unfold maxLen; omega
              have HLR := Lib.hid (lenAt_of HMK.out.cells.2.2.1)
              have bd := MKd.out.box
              have ld := MKd.out.cells.2.2.1
              have hl100 : KS.length ≤ 100000 := by rw [HLEN.out]; omega
              clear hx hs3 z0 z1 z2 z3 zf0 zf1 zf2 zf3
              go_wp2_with fail
              refine wp_region_held_drew (S := fun W => W.cell? ⟨bx, 0, none⟩ = some (.pointer (some ⟨z, 0, none⟩))) (by kernel_rfl) (bd) (fun hHeld => ?_)
              refine wpAnyH_take (i := 0) (oi := { dst := some 38, op := Go.Op.fieldAddr 26 (Go.Operand.tmp 4) 2, type := 0, pos := "node.go:181", after := #[], guard := none }) (v := ?vst0) rfl (by kernel_rfl) (by kernel_rfl) (by kernel_rfl) (fun _ _ _ h => h) (Or.inl ⟨by rfl, ?hyst0⟩) hHeld ?_
              case hyst0 => (intro w hSw; (try dsimp only at hSw); go_simp; first | done | with_reducible rfl)
              try simp only [Act.put, List.setIfInBounds_toArray, List.set_cons_zero, List.set_cons_succ]
              refine wpAnyH_take (i := 2) (oi := { dst := some 40, op := Go.Op.load 56 (Go.Operand.tmp 1), type := 56, pos := "node.go:181", after := #[], guard := none }) (v := ?vst2) rfl (by kernel_rfl) (by kernel_rfl) (by kernel_rfl) (fun _ _ _ h => h) (Or.inl ⟨by rfl, ?hyst2⟩) hHeld ?_
              case hyst2 => (intro w hSw; (try dsimp only at hSw); go_simp; first | done | with_reducible rfl)
              try simp only [Act.put, List.setIfInBounds_toArray, List.set_cons_zero, List.set_cons_succ]
              refine wpAnyH_ready (rs := [1, 3]) (by kernel_rfl) (by simp) ?_
              refine AllReadyH.cons (o := { dst := some 39, op := Go.Op.load 23 (Go.Operand.tmp 38), type := 23, pos := "node.go:181", after := #[{ on := 0, ground := Go.Ground.data }], guard := none }) rfl (fun K hK => ?_) (AllReadyH.cons (o := { dst := some 41, op := Go.Op.call { callee := Go.Callee.value (Go.Operand.func 42), args := #[Go.Operand.tmp 40], argTypes := #[56] }, type := 9, pos := "node.go:181", after := #[{ on := 2, ground := Go.Ground.data }], guard := none }) rfl (fun K hK => ?_) AllReadyH.nil)
              · go_simp
                refine hK.out _ _ (bd) (fun hHeld => ?_)
                clear hK K
                try simp only [Act.put, List.setIfInBounds_toArray, List.set_cons_zero, List.set_cons_succ]
                refine wpAnyH_ready (rs := [3]) (by kernel_rfl) (by simp) ?_
                refine AllReadyH.cons (o := { dst := some 41, op := Go.Op.call { callee := Go.Callee.value (Go.Operand.func 42), args := #[Go.Operand.tmp 40], argTypes := #[56] }, type := 9, pos := "node.go:181", after := #[{ on := 2, ground := Go.Ground.data }], guard := none }) rfl (fun K hK => ?_) AllReadyH.nil
                go_simp
                refine HTY.out.mono ?_
                rintro e w4 ⟨rfl, hc4, hf4⟩
                have MK4 := MKd.out.fr hf4
                have FR4 : Fr (· = z) w w4 := FRd.out.trans hf4
                obtain ⟨v', w7, hrun, b7, c7, f7, b8, MK8, FR8⟩ := Mk.appK MK4 (by show _ ≤ 100000; omega) x
                have b4 := MK4.box
                have bX := (MK4.keep ((Below.refl w4.heap.size w4).alloc (Nat.le_refl _) (.cells #[.string x] 9))).box
                have l4 := MK4.cells.2.2.1
                have lX := (MK4.keep ((Below.refl w4.heap.size w4).alloc (Nat.le_refl _) (.cells #[.string x] 9))).cells.2.2.1
                obtain ⟨X, hX⟩ : ∃ X, w4.alloc (.cells #[.string x] 9) = X := ⟨_, rfl⟩
                rw [hX] at hrun bX lX
                obtain ⟨A', c', hv', _⟩ := rdS_own MK8.k HPSZ2.out
                subst hv'
                obtain ⟨m', hm'⟩ : ∃ m', (KS ++ [x]).length = m' := ⟨_, rfl⟩
                have HRUN : Hid _ := hrun
                have HMK8 : Hid _ := MK8
                have HFR8 : Hid (Fr (· = z) w _) := FR4.step FR8 (fun i hi => .inr (by omega))
                have HCU8 : Hid (Cu _ z lim _) := hc4.fr FR8 (by omega) (fun k hk => by omega)
                rw [hm'] at HRUN b8 HMK8 HFR8 HCU8
                have HM' := Lib.hid hm'
                clear hc4 hf4 MK4 FR4 MK8 FR8 hrun hm'
                go_wp2_with fail
                refine hK.out _ _ (b4) (fun hHeld => ?_)
                clear hK K
                try simp only [Act.put, List.setIfInBounds_toArray, List.set_cons_zero, List.set_cons_succ]
                refine wpAnyH_ready (rs := [4]) (by kernel_rfl) (by simp) ?_
                refine AllReadyH.cons (o := { dst := some 42, op := Go.Op.buildSlice 23 1 #[(0, Go.Operand.tmp 41)], type := 23, pos := "node.go:181", after := #[{ on := 3, ground := Go.Ground.data }], guard := none }) rfl (fun K hK => ?_) AllReadyH.nil
                go_simp
                refine hK.out _ _ (bX) (fun hHeld => ?_)
                clear hK K
                try simp only [Act.put, List.setIfInBounds_toArray, List.set_cons_zero, List.set_cons_succ]
                refine wpAnyH_ready (rs := [5]) (by kernel_rfl) (by simp) ?_
                refine AllReadyH.cons (o := { dst := some 43, op := Go.Op.call { callee := Go.Callee.builtin Go.Builtin.append, args := #[Go.Operand.tmp 39, Go.Operand.tmp 42], argTypes := #[23, 23] }, type := 23, pos := "node.go:181", after := #[{ on := 1, ground := Go.Ground.data }, { on := 4, ground := Go.Ground.data }, { on := 3, ground := Go.Ground.chain }], guard := none }) rfl (fun K hK => ?_) AllReadyH.nil
                refine step_appN rfl (.tmp 39) (.tmp 42) 23 23 rfl rfl _ _ _ _ (by simp [Act.eval, Act.put]) (by simp [Act.eval, Act.put]) HRUN.out ?_
                refine hK.out _ _ (b7) (fun hHeld => ?_)
                clear hK K
                try simp only [Act.put, List.setIfInBounds_toArray, List.set_cons_zero, List.set_cons_succ]
                refine wpAnyH_take (i := 6) (oi := { dst := some 44, op := Go.Op.fieldAddr 26 (Go.Operand.tmp 4) 2, type := 0, pos := "node.go:181", after := #[{ on := 0, ground := Go.Ground.phase }, { on := 1, ground := Go.Ground.phase }, { on := 2, ground := Go.Ground.phase }, { on := 3, ground := Go.Ground.phase }, { on := 4, ground := Go.Ground.phase }, { on := 5, ground := Go.Ground.phase }], guard := none }) (v := ?vsa6) rfl (by kernel_rfl) (by kernel_rfl) (by kernel_rfl) (fun _ _ _ h => h) (Or.inl ⟨by rfl, ?hysa6⟩) hHeld ?_
                case hysa6 => (intro w hSw; (try dsimp only at hSw); go_simp; first | done | with_reducible rfl)
                try simp only [Act.put, List.setIfInBounds_toArray, List.set_cons_zero, List.set_cons_succ]
                refine wpAnyH_ready (rs := [7]) (by kernel_rfl) (by simp) ?_
                refine AllReadyH.cons (o := { dst := none, op := Go.Op.store 23 (Go.Operand.tmp 44) (Go.Operand.tmp 43), type := 0, pos := "node.go:181", after := #[{ on := 6, ground := Go.Ground.data }, { on := 5, ground := Go.Ground.data }, { on := 5, ground := Go.Ground.chain }, { on := 0, ground := Go.Ground.phase }, { on := 1, ground := Go.Ground.phase }, { on := 2, ground := Go.Ground.phase }, { on := 3, ground := Go.Ground.phase }, { on := 4, ground := Go.Ground.phase }, { on := 5, ground := Go.Ground.phase }], guard := none }) rfl (fun K hK => ?_) AllReadyH.nil
                go_simp
                refine hK.out _ _ (b8) (fun hHeld => ?_)
                clear hK K
                try simp only [Act.put, List.setIfInBounds_toArray, List.set_cons_zero, List.set_cons_succ]
                refine wpAnyH_done (by kernel_rfl) ?_ _
                clear hHeld
                have hl8 := lenAt_of HMK8.out.cells.2.2.1
                go_wp2
                go_roundw
                case rel => exact ⟨m + 1, _, KS ++ [x], s3, HNEW.out, by omega, by rw [List.length_append, HLEN.out]; rfl, HMK8.out, HCU8.out, HFR8.out⟩
                case measure => rw [hl8, HLR.out]; have := HM'.out; rw [List.length_append, HLEN.out] at this; simp at this; omega
              · go_simp
                refine HTY.out.mono ?_
                rintro e w4 ⟨rfl, hc4, hf4⟩
                have MK4 := MKd.out.fr hf4
                have FR4 : Fr (· = z) w w4 := FRd.out.trans hf4
                obtain ⟨v', w7, hrun, b7, c7, f7, b8, MK8, FR8⟩ := Mk.appK MK4 (by show _ ≤ 100000; omega) x
                have b4 := MK4.box
                have bX := (MK4.keep ((Below.refl w4.heap.size w4).alloc (Nat.le_refl _) (.cells #[.string x] 9))).box
                have l4 := MK4.cells.2.2.1
                have lX := (MK4.keep ((Below.refl w4.heap.size w4).alloc (Nat.le_refl _) (.cells #[.string x] 9))).cells.2.2.1
                obtain ⟨X, hX⟩ : ∃ X, w4.alloc (.cells #[.string x] 9) = X := ⟨_, rfl⟩
                rw [hX] at hrun bX lX
                obtain ⟨A', c', hv', _⟩ := rdS_own MK8.k HPSZ2.out
                subst hv'
                obtain ⟨m', hm'⟩ : ∃ m', (KS ++ [x]).length = m' := ⟨_, rfl⟩
                have HRUN : Hid _ := hrun
                have HMK8 : Hid _ := MK8
                have HFR8 : Hid (Fr (· = z) w _) := FR4.step FR8 (fun i hi => .inr (by omega))
                have HCU8 : Hid (Cu _ z lim _) := hc4.fr FR8 (by omega) (fun k hk => by omega)
                rw [hm'] at HRUN b8 HMK8 HFR8 HCU8
                have HM' := Lib.hid hm'
                clear hc4 hf4 MK4 FR4 MK8 FR8 hrun hm'
                go_wp2_with fail
                refine hK.out _ _ (b4) (fun hHeld => ?_)
                clear hK K
                try simp only [Act.put, List.setIfInBounds_toArray, List.set_cons_zero, List.set_cons_succ]
                refine wpAnyH_ready (rs := [1, 4]) (by kernel_rfl) (by simp) ?_
                refine AllReadyH.cons (o := { dst := some 39, op := Go.Op.load 23 (Go.Operand.tmp 38), type := 23, pos := "node.go:181", after := #[{ on := 0, ground := Go.Ground.data }], guard := none }) rfl (fun K hK => ?_) (AllReadyH.cons (o := { dst := some 42, op := Go.Op.buildSlice 23 1 #[(0, Go.Operand.tmp 41)], type := 23, pos := "node.go:181", after := #[{ on := 3, ground := Go.Ground.data }], guard := none }) rfl (fun K hK => ?_) AllReadyH.nil)
                · go_simp
                  refine hK.out _ _ (b4) (fun hHeld => ?_)
                  clear hK K
                  try simp only [Act.put, List.setIfInBounds_toArray, List.set_cons_zero, List.set_cons_succ]
                  refine wpAnyH_ready (rs := [4]) (by kernel_rfl) (by simp) ?_
                  refine AllReadyH.cons (o := { dst := some 42, op := Go.Op.buildSlice 23 1 #[(0, Go.Operand.tmp 41)], type := 23, pos := "node.go:181", after := #[{ on := 3, ground := Go.Ground.data }], guard := none }) rfl (fun K hK => ?_) AllReadyH.nil
                  go_simp
                  refine hK.out _ _ (bX) (fun hHeld => ?_)
                  clear hK K
                  try simp only [Act.put, List.setIfInBounds_toArray, List.set_cons_zero, List.set_cons_succ]
                  refine wpAnyH_ready (rs := [5]) (by kernel_rfl) (by simp) ?_
                  refine AllReadyH.cons (o := { dst := some 43, op := Go.Op.call { callee := Go.Callee.builtin Go.Builtin.append, args := #[Go.Operand.tmp 39, Go.Operand.tmp 42], argTypes := #[23, 23] }, type := 23, pos := "node.go:181", after := #[{ on := 1, ground := Go.Ground.data }, { on := 4, ground := Go.Ground.data }, { on := 3, ground := Go.Ground.chain }], guard := none }) rfl (fun K hK => ?_) AllReadyH.nil
                  refine step_appN rfl (.tmp 39) (.tmp 42) 23 23 rfl rfl _ _ _ _ (by simp [Act.eval, Act.put]) (by simp [Act.eval, Act.put]) HRUN.out ?_
                  refine hK.out _ _ (b7) (fun hHeld => ?_)
                  clear hK K
                  try simp only [Act.put, List.setIfInBounds_toArray, List.set_cons_zero, List.set_cons_succ]
                  refine wpAnyH_take (i := 6) (oi := { dst := some 44, op := Go.Op.fieldAddr 26 (Go.Operand.tmp 4) 2, type := 0, pos := "node.go:181", after := #[{ on := 0, ground := Go.Ground.phase }, { on := 1, ground := Go.Ground.phase }, { on := 2, ground := Go.Ground.phase }, { on := 3, ground := Go.Ground.phase }, { on := 4, ground := Go.Ground.phase }, { on := 5, ground := Go.Ground.phase }], guard := none }) (v := ?vsb16) rfl (by kernel_rfl) (by kernel_rfl) (by kernel_rfl) (fun _ _ _ h => h) (Or.inl ⟨by rfl, ?hysb16⟩) hHeld ?_
                  case hysb16 => (intro w hSw; (try dsimp only at hSw); go_simp; first | done | with_reducible rfl)
                  try simp only [Act.put, List.setIfInBounds_toArray, List.set_cons_zero, List.set_cons_succ]
                  refine wpAnyH_ready (rs := [7]) (by kernel_rfl) (by simp) ?_
                  refine AllReadyH.cons (o := { dst := none, op := Go.Op.store 23 (Go.Operand.tmp 44) (Go.Operand.tmp 43), type := 0, pos := "node.go:181", after := #[{ on := 6, ground := Go.Ground.data }, { on := 5, ground := Go.Ground.data }, { on := 5, ground := Go.Ground.chain }, { on := 0, ground := Go.Ground.phase }, { on := 1, ground := Go.Ground.phase }, { on := 2, ground := Go.Ground.phase }, { on := 3, ground := Go.Ground.phase }, { on := 4, ground := Go.Ground.phase }, { on := 5, ground := Go.Ground.phase }], guard := none }) rfl (fun K hK => ?_) AllReadyH.nil
                  go_simp
                  refine hK.out _ _ (b8) (fun hHeld => ?_)
                  clear hK K
                  try simp only [Act.put, List.setIfInBounds_toArray, List.set_cons_zero, List.set_cons_succ]
                  refine wpAnyH_done (by kernel_rfl) ?_ _
                  clear hHeld
                  have hl8 := lenAt_of HMK8.out.cells.2.2.1
                  go_wp2
                  go_roundw
                  case rel => exact ⟨m + 1, _, KS ++ [x], s3, HNEW.out, by omega, by rw [List.length_append, HLEN.out]; rfl, HMK8.out, HCU8.out, HFR8.out⟩
                  case measure => rw [hl8, HLR.out]; have := HM'.out; rw [List.length_append, HLEN.out] at this; simp at this; omega
                · go_simp
                  refine hK.out _ _ (bX) (fun hHeld => ?_)
                  clear hK K
                  try simp only [Act.put, List.setIfInBounds_toArray, List.set_cons_zero, List.set_cons_succ]
                  refine wpAnyH_ready (rs := [1]) (by kernel_rfl) (by simp) ?_
                  refine AllReadyH.cons (o := { dst := some 39, op := Go.Op.load 23 (Go.Operand.tmp 38), type := 23, pos := "node.go:181", after := #[{ on := 0, ground := Go.Ground.data }], guard := none }) rfl (fun K hK => ?_) AllReadyH.nil
                  go_simp
                  refine hK.out _ _ (bX) (fun hHeld => ?_)
                  clear hK K
                  try simp only [Act.put, List.setIfInBounds_toArray, List.set_cons_zero, List.set_cons_succ]
                  refine wpAnyH_ready (rs := [5]) (by kernel_rfl) (by simp) ?_
                  refine AllReadyH.cons (o := { dst := some 43, op := Go.Op.call { callee := Go.Callee.builtin Go.Builtin.append, args := #[Go.Operand.tmp 39, Go.Operand.tmp 42], argTypes := #[23, 23] }, type := 23, pos := "node.go:181", after := #[{ on := 1, ground := Go.Ground.data }, { on := 4, ground := Go.Ground.data }, { on := 3, ground := Go.Ground.chain }], guard := none }) rfl (fun K hK => ?_) AllReadyH.nil
                  refine step_appN rfl (.tmp 39) (.tmp 42) 23 23 rfl rfl _ _ _ _ (by simp [Act.eval, Act.put]) (by simp [Act.eval, Act.put]) HRUN.out ?_
                  refine hK.out _ _ (b7) (fun hHeld => ?_)
                  clear hK K
                  try simp only [Act.put, List.setIfInBounds_toArray, List.set_cons_zero, List.set_cons_succ]
                  refine wpAnyH_take (i := 6) (oi := { dst := some 44, op := Go.Op.fieldAddr 26 (Go.Operand.tmp 4) 2, type := 0, pos := "node.go:181", after := #[{ on := 0, ground := Go.Ground.phase }, { on := 1, ground := Go.Ground.phase }, { on := 2, ground := Go.Ground.phase }, { on := 3, ground := Go.Ground.phase }, { on := 4, ground := Go.Ground.phase }, { on := 5, ground := Go.Ground.phase }], guard := none }) (v := ?vsb26) rfl (by kernel_rfl) (by kernel_rfl) (by kernel_rfl) (fun _ _ _ h => h) (Or.inl ⟨by rfl, ?hysb26⟩) hHeld ?_
                  case hysb26 => (intro w hSw; (try dsimp only at hSw); go_simp; first | done | with_reducible rfl)
                  try simp only [Act.put, List.setIfInBounds_toArray, List.set_cons_zero, List.set_cons_succ]
                  refine wpAnyH_ready (rs := [7]) (by kernel_rfl) (by simp) ?_
                  refine AllReadyH.cons (o := { dst := none, op := Go.Op.store 23 (Go.Operand.tmp 44) (Go.Operand.tmp 43), type := 0, pos := "node.go:181", after := #[{ on := 6, ground := Go.Ground.data }, { on := 5, ground := Go.Ground.data }, { on := 5, ground := Go.Ground.chain }, { on := 0, ground := Go.Ground.phase }, { on := 1, ground := Go.Ground.phase }, { on := 2, ground := Go.Ground.phase }, { on := 3, ground := Go.Ground.phase }, { on := 4, ground := Go.Ground.phase }, { on := 5, ground := Go.Ground.phase }], guard := none }) rfl (fun K hK => ?_) AllReadyH.nil
                  go_simp
                  refine hK.out _ _ (b8) (fun hHeld => ?_)
                  clear hK K
                  try simp only [Act.put, List.setIfInBounds_toArray, List.set_cons_zero, List.set_cons_succ]
                  refine wpAnyH_done (by kernel_rfl) ?_ _
                  clear hHeld
                  have hl8 := lenAt_of HMK8.out.cells.2.2.1
                  go_wp2
                  go_roundw
                  case rel => exact ⟨m + 1, _, KS ++ [x], s3, HNEW.out, by omega, by rw [List.length_append, HLEN.out]; rfl, HMK8.out, HCU8.out, HFR8.out⟩
                  case measure => rw [hl8, HLR.out]; have := HM'.out; rw [List.length_append, HLEN.out] at this; simp at this; omega
          · have he : kys count st1 = (KS, (l2, sh2)) := by
              rw [show count = m by omega]
              exact HP.out
            have HE := Lib.hid (HEND.out he HCUR.out)
            clear HEND he
            go_wp2
            refine bodyPost_ret (results_cell_row (P := Try.prog) (fn := Try.f43) rfl _ _ g 26 _ (0, 0) _ rfl HROW.out Try.underlying26 rfl (by kernel_rfl)) rfl HE.out
      · have hlt2 : ¬ (j : Int) < (count : Int) + 1 := by omega
        obtain ⟨st1, hst1⟩ : ∃ st1, (l1, sh) = st1 := ⟨_, rfl⟩
        rw [hst1] at HCUR HJ2
        clear hst1 fl HP HGO
        go_wp2
        clear b0 d0 d1 d2 d3 hlt hlt2
        go_loopw [26] (fun _ wr => ∃ (m : Nat) (kv : Value) (KS : List ByteArray) (s2 : St), kys m st1 = (KS, s2) ∧ m ≤ count ∧ KS.length = m ∧ Mk wr z bx g (g + 1) (g + 2) false (.slice none 0 0) kv (.slice A j c) ⟨false, [], KS, CS⟩ ∧ Cu wr z lim s2 ∧ Fr (· = z) w wr) (fun _ wr => count - lenAt wr (g + 1) 2)
        case atStart => exact ⟨0, _, [], st1, rfl, Nat.zero_le _, rfl, HMK.out, HCUR.out, HFR.out⟩
        case round =>
          have HCS := Lib.hid HPSZ.out
          have HCL := Lib.hid HLEN.out
          clear HMK HCUR HFR HPSZ HRD HLEN
          obtain ⟨m, kv, KS, s2, hp, hm, hlen, hmk, hcu, hfr⟩ := hrel
          have hpsz : ∀ p ∈ KS, p.size ≤ 255 := by have := kys_size st1 m; rw [hp] at this; exact this
          obtain ⟨B, cb, hpv, hrd⟩ := rdS_own hmk.k (fun p hp => Nat.le_trans (hpsz p hp) (by unfold maxLen; omega))
          simp only at hpv hrd
          rw [hlen] at hpv hrd
          subst hpv
          have HP := Lib.hid hp
          have HLEN := Lib.hid hlen
          have HMK := Lib.hid hmk
          have HCUR := Lib.hid hcu
          have HFR := Lib.hid hfr
          have HPSZ := Lib.hid hpsz
          have b0 := hmk.box
          obtain ⟨d0, d1, d2, d3, df⟩ := hmk.cells
          clear df
          have fl := hcu.flag
          have z0 : wr.cell? ⟨g, 0, none⟩ = some (.bool false) := by rw [cell_of_row wr g _ _ 26 (0, 0) hmk.zero]; rfl
          have z1 : wr.cell? ⟨g, 1, none⟩ = some (.slice none 0 0) := by rw [cell_of_row wr g _ _ 26 (0, 0) hmk.zero]; rfl
          have z2 : wr.cell? ⟨g, 2, none⟩ = some (.slice none 0 0) := by rw [cell_of_row wr g _ _ 26 (0, 0) hmk.zero]; rfl
          have z3 : wr.cell? ⟨g, 3, none⟩ = some (.slice none 0 0) := by rw [cell_of_row wr g _ _ 26 (0, 0) hmk.zero]; rfl
          have hrow : (((((wr.setCell ⟨g, 0, none⟩ (.bool false)).setCell ⟨g, 1, none⟩ (.slice none 0 0)).setCell ⟨g, 2, none⟩ (.slice B m cb)).setCell ⟨g, 3, none⟩ (.slice A j c)).heap[g]? = some (.cells #[.bool false, .slice none 0 0, .slice B m cb, .slice A j c] 26 (0, 0))) := by
            have r3 := row_set (i := 3) (row_set (i := 2) (row_set (i := 1) (row_set (i := 0) hmk.zero (.bool false)) (.slice none 0 0)) (.slice B m cb)) (.slice A j c)
            simpa using r3
          have HROW := Lib.hid hrow
          have zf : ∀ i, wr.frozen? ⟨g, i, none⟩ = false := fun i => by simp [World.frozen?, hmk.zero]
          have zf0 := zf 0
          have zf1 := zf 1
          have zf2 := zf 2
          have zf3 := zf 3
          obtain ⟨l2, sh2⟩ := s2
          simp only at fl
          clear hp hlen hmk hcu hfr hpsz hrd zf hrow
          have HEND : Hid (kys count st1 = (KS, (l2, sh2)) → Cu wr z lim (l2, sh2) → (∃ hd, Ending.returned (Value.agg #[.bool false, .slice none 0 0, .slice B m cb, .slice A j c]) = .returned (nv hd false) ∧ NdAt ((((wr.setCell ⟨g, 0, none⟩ (.bool false)).setCell ⟨g, 1, none⟩ (.slice none 0 0)).setCell ⟨g, 2, none⟩ (.slice B m cb)).setCell ⟨g, 3, none⟩ (.slice A j c)) hd ⟨false, [], (kys count (chs (count + 1) s).2).1, (chs (count + 1) s).1⟩) ∧ Cu ((((wr.setCell ⟨g, 0, none⟩ (.bool false)).setCell ⟨g, 1, none⟩ (.slice none 0 0)).setCell ⟨g, 2, none⟩ (.slice B m cb)).setCell ⟨g, 3, none⟩ (.slice A j c)) z lim (kys count (chs (count + 1) s).2).2 ∧ Fr (· = z) w ((((wr.setCell ⟨g, 0, none⟩ (.bool false)).setCell ⟨g, 1, none⟩ (.slice none 0 0)).setCell ⟨g, 2, none⟩ (.slice B m cb)).setCell ⟨g, 3, none⟩ (.slice A j c))) := fun he hcu => by
            rw [HJ2.out]
            simp only
            rw [he]
            have hfs : Fr (· = g) wr ((((wr.setCell ⟨g, 0, none⟩ (.bool false)).setCell ⟨g, 1, none⟩ (.slice none 0 0)).setCell ⟨g, 2, none⟩ (.slice B m cb)).setCell ⟨g, 3, none⟩ (.slice A j c)) := ((((Fr.refl (· = g) wr).setCell (.inl rfl) _).setCell (.inl rfl) _).setCell (.inl rfl) _).setCell (.inl rfl) _
            have hown := own_keepB HMK.out.k (w' := ((((wr.setCell ⟨g, 0, none⟩ (.bool false)).setCell ⟨g, 1, none⟩ (.slice none 0 0)).setCell ⟨g, 2, none⟩ (.slice B m cb)).setCell ⟨g, 3, none⟩ (.slice A j c))) (fun k hk => hfs.block k (own_lt HMK.out.k k hk).2 (by have := (own_lt HMK.out.k k hk).1; show ¬ k = g; omega))
            have hown3 := own_keepB HMK.out.c (w' := ((((wr.setCell ⟨g, 0, none⟩ (.bool false)).setCell ⟨g, 1, none⟩ (.slice none 0 0)).setCell ⟨g, 2, none⟩ (.slice B m cb)).setCell ⟨g, 3, none⟩ (.slice A j c))) (fun k hk => hfs.block k (own_lt HMK.out.c k hk).2 (by have := (own_lt HMK.out.c k hk).1; show ¬ k = g; omega))
            obtain ⟨A2, c2, e2, hrd2⟩ := rdS_own hown (fun p hp => Nat.le_trans (HPSZ.out p hp) (by unfold maxLen; omega))
            obtain ⟨A3, c3, e3, hrd3⟩ := rdI_own hown3 HCS.out
            cases e2
            cases e3
            simp only at hrd2 hrd3
            exact ⟨⟨⟨none, 0, 0, B, _, cb, A, _, c⟩, rfl, ⟨RdP.nil _ _ _, hrd2, hrd3⟩⟩, hcu.fr hfs (by show ¬ z = g; omega) (fun k hk => by have : k = g := hk; omega), HFR.out.step hfs (fun i hi => .inr (by have : i = g := hi; rw [HG.out]; omega))⟩
          by_cases hlt : m < count
          · cases sh2 with
            | true =>
              have he : kys count st1 = (KS, (l2, true)) := by
                have h2 := kys_stop m st1 (by rw [HP.out]) (count - m)
                rw [show m + (count - m) = count by omega, HP.out] at h2
                exact h2
              have HE := Lib.hid (HEND.out he HCUR.out)
              clear HEND he
              go_wp2
              refine bodyPost_ret (results_cell_row (P := Try.prog) (fn := Try.f43) rfl _ _ g 26 _ (0, 0) _ rfl HROW.out Try.underlying26 rfl (by kernel_rfl)) rfl HE.out
            | false =>
              clear HEND
              have MKd : Hid (Mk wr.drew z bx g (g + 1) (g + 2) false (.slice none 0 0) (.slice B m cb) (.slice A j c) ⟨false, [], KS, CS⟩) := HMK.out.keep (Below.refl _ _).drew
              have FRd : Hid (Fr (· = z) w wr.drew) := HFR.out.drew
              have HTY := Lib.hid (text_any wr.drew z _ lim (HCUR.out.keep (Below.refl _ _).drew))
              obtain ⟨x, hx⟩ : ∃ x, (stTxt (l2, false)).1 = x := ⟨_, rfl⟩
              obtain ⟨s3, hs3⟩ : ∃ s3, (stTxt (l2, false)).2 = s3 := ⟨_, rfl⟩
              rw [hx, hs3] at HTY
              have HNEW : Hid (kys (m + 1) st1 = (KS ++ [x], s3)) := by
                show kys (m + 1) st1 = _
                rw [kys_step m st1 (by rw [HP.out]), HP.out, hx, hs3]
              have hszx : x.size ≤ 255 := by rw [← hx]; exact stTxt_size _
              have HPSZ2 : Hid (∀ p ∈ KS ++ [x], p.size ≤ maxLen) := fun p hp => by
                rcases List.mem_append.1 hp with h | h
                · exact Nat.le_trans (HPSZ.out p h) (by unfold maxLen; omega)
                · obtain rfl := List.mem_singleton.1 h
                  unfold maxLen; omega
              have HLR := Lib.hid (lenAt_of HMK.out.cells.2.2.1)
              have bd := MKd.out.box
              have ld := MKd.out.cells.2.2.1
              have hl100 : KS.length ≤ 100000 := by rw [HLEN.out]; omega
              clear hx hs3 z0 z1 z2 z3 zf0 zf1 zf2 zf3
              go_wp2_with fail
              refine wp_region_held_drew (S := fun W => W.cell? ⟨bx, 0, none⟩ = some (.pointer (some ⟨z, 0, none⟩))) (by kernel_rfl) (bd) (fun hHeld => ?_)
              refine wpAnyH_take (i := 0) (oi := { dst := some 38, op := Go.Op.fieldAddr 26 (Go.Operand.tmp 4) 2, type := 0, pos := "node.go:181", after := #[], guard := none }) (v := ?vut0) rfl (by kernel_rfl) (by kernel_rfl) (by kernel_rfl) (fun _ _ _ h => h) (Or.inl ⟨by rfl, ?hyut0⟩) hHeld ?_
              case hyut0 => (intro w hSw; (try dsimp only at hSw); go_simp; first | done | with_reducible rfl)
              try simp only [Act.put, List.setIfInBounds_toArray, List.set_cons_zero, List.set_cons_succ]
              refine wpAnyH_take (i := 2) (oi := { dst := some 40, op := Go.Op.load 56 (Go.Operand.tmp 1), type := 56, pos := "node.go:181", after := #[], guard := none }) (v := ?vut2) rfl (by kernel_rfl) (by kernel_rfl) (by kernel_rfl) (fun _ _ _ h => h) (Or.inl ⟨by rfl, ?hyut2⟩) hHeld ?_
              case hyut2 => (intro w hSw; (try dsimp only at hSw); go_simp; first | done | with_reducible rfl)
              try simp only [Act.put, List.setIfInBounds_toArray, List.set_cons_zero, List.set_cons_succ]
              refine wpAnyH_ready (rs := [1, 3]) (by kernel_rfl) (by simp) ?_
              refine AllReadyH.cons (o := { dst := some 39, op := Go.Op.load 23 (Go.Operand.tmp 38), type := 23, pos := "node.go:181", after := #[{ on := 0, ground := Go.Ground.data }], guard := none }) rfl (fun K hK => ?_) (AllReadyH.cons (o := { dst := some 41, op := Go.Op.call { callee := Go.Callee.value (Go.Operand.func 42), args := #[Go.Operand.tmp 40], argTypes := #[56] }, type := 9, pos := "node.go:181", after := #[{ on := 2, ground := Go.Ground.data }], guard := none }) rfl (fun K hK => ?_) AllReadyH.nil)
              · go_simp
                refine hK.out _ _ (bd) (fun hHeld => ?_)
                clear hK K
                try simp only [Act.put, List.setIfInBounds_toArray, List.set_cons_zero, List.set_cons_succ]
                refine wpAnyH_ready (rs := [3]) (by kernel_rfl) (by simp) ?_
                refine AllReadyH.cons (o := { dst := some 41, op := Go.Op.call { callee := Go.Callee.value (Go.Operand.func 42), args := #[Go.Operand.tmp 40], argTypes := #[56] }, type := 9, pos := "node.go:181", after := #[{ on := 2, ground := Go.Ground.data }], guard := none }) rfl (fun K hK => ?_) AllReadyH.nil
                go_simp
                refine HTY.out.mono ?_
                rintro e w4 ⟨rfl, hc4, hf4⟩
                have MK4 := MKd.out.fr hf4
                have FR4 : Fr (· = z) w w4 := FRd.out.trans hf4
                obtain ⟨v', w7, hrun, b7, c7, f7, b8, MK8, FR8⟩ := Mk.appK MK4 (by show _ ≤ 100000; omega) x
                have b4 := MK4.box
                have bX := (MK4.keep ((Below.refl w4.heap.size w4).alloc (Nat.le_refl _) (.cells #[.string x] 9))).box
                have l4 := MK4.cells.2.2.1
                have lX := (MK4.keep ((Below.refl w4.heap.size w4).alloc (Nat.le_refl _) (.cells #[.string x] 9))).cells.2.2.1
                obtain ⟨X, hX⟩ : ∃ X, w4.alloc (.cells #[.string x] 9) = X := ⟨_, rfl⟩
                rw [hX] at hrun bX lX
                obtain ⟨A', c', hv', _⟩ := rdS_own MK8.k HPSZ2.out
                subst hv'
                obtain ⟨m', hm'⟩ : ∃ m', (KS ++ [x]).length = m' := ⟨_, rfl⟩
                have HRUN : Hid _ := hrun
                have HMK8 : Hid _ := MK8
                have HFR8 : Hid (Fr (· = z) w _) := FR4.step FR8 (fun i hi => .inr (by omega))
                have HCU8 : Hid (Cu _ z lim _) := hc4.fr FR8 (by omega) (fun k hk => by omega)
                rw [hm'] at HRUN b8 HMK8 HFR8 HCU8
                have HM' := Lib.hid hm'
                clear hc4 hf4 MK4 FR4 MK8 FR8 hrun hm'
                go_wp2_with fail
                refine hK.out _ _ (b4) (fun hHeld => ?_)
                clear hK K
                try simp only [Act.put, List.setIfInBounds_toArray, List.set_cons_zero, List.set_cons_succ]
                refine wpAnyH_ready (rs := [4]) (by kernel_rfl) (by simp) ?_
                refine AllReadyH.cons (o := { dst := some 42, op := Go.Op.buildSlice 23 1 #[(0, Go.Operand.tmp 41)], type := 23, pos := "node.go:181", after := #[{ on := 3, ground := Go.Ground.data }], guard := none }) rfl (fun K hK => ?_) AllReadyH.nil
                go_simp
                refine hK.out _ _ (bX) (fun hHeld => ?_)
                clear hK K
                try simp only [Act.put, List.setIfInBounds_toArray, List.set_cons_zero, List.set_cons_succ]
                refine wpAnyH_ready (rs := [5]) (by kernel_rfl) (by simp) ?_
                refine AllReadyH.cons (o := { dst := some 43, op := Go.Op.call { callee := Go.Callee.builtin Go.Builtin.append, args := #[Go.Operand.tmp 39, Go.Operand.tmp 42], argTypes := #[23, 23] }, type := 23, pos := "node.go:181", after := #[{ on := 1, ground := Go.Ground.data }, { on := 4, ground := Go.Ground.data }, { on := 3, ground := Go.Ground.chain }], guard := none }) rfl (fun K hK => ?_) AllReadyH.nil
                refine step_appN rfl (.tmp 39) (.tmp 42) 23 23 rfl rfl _ _ _ _ (by simp [Act.eval, Act.put]) (by simp [Act.eval, Act.put]) HRUN.out ?_
                refine hK.out _ _ (b7) (fun hHeld => ?_)
                clear hK K
                try simp only [Act.put, List.setIfInBounds_toArray, List.set_cons_zero, List.set_cons_succ]
                refine wpAnyH_take (i := 6) (oi := { dst := some 44, op := Go.Op.fieldAddr 26 (Go.Operand.tmp 4) 2, type := 0, pos := "node.go:181", after := #[{ on := 0, ground := Go.Ground.phase }, { on := 1, ground := Go.Ground.phase }, { on := 2, ground := Go.Ground.phase }, { on := 3, ground := Go.Ground.phase }, { on := 4, ground := Go.Ground.phase }, { on := 5, ground := Go.Ground.phase }], guard := none }) (v := ?vua6) rfl (by kernel_rfl) (by kernel_rfl) (by kernel_rfl) (fun _ _ _ h => h) (Or.inl ⟨by rfl, ?hyua6⟩) hHeld ?_
                case hyua6 => (intro w hSw; (try dsimp only at hSw); go_simp; first | done | with_reducible rfl)
                try simp only [Act.put, List.setIfInBounds_toArray, List.set_cons_zero, List.set_cons_succ]
                refine wpAnyH_ready (rs := [7]) (by kernel_rfl) (by simp) ?_
                refine AllReadyH.cons (o := { dst := none, op := Go.Op.store 23 (Go.Operand.tmp 44) (Go.Operand.tmp 43), type := 0, pos := "node.go:181", after := #[{ on := 6, ground := Go.Ground.data }, { on := 5, ground := Go.Ground.data }, { on := 5, ground := Go.Ground.chain }, { on := 0, ground := Go.Ground.phase }, { on := 1, ground := Go.Ground.phase }, { on := 2, ground := Go.Ground.phase }, { on := 3, ground := Go.Ground.phase }, { on := 4, ground := Go.Ground.phase }, { on := 5, ground := Go.Ground.phase }], guard := none }) rfl (fun K hK => ?_) AllReadyH.nil
                go_simp
                refine hK.out _ _ (b8) (fun hHeld => ?_)
                clear hK K
                try simp only [Act.put, List.setIfInBounds_toArray, List.set_cons_zero, List.set_cons_succ]
                refine wpAnyH_done (by kernel_rfl) ?_ _
                clear hHeld
                have hl8 := lenAt_of HMK8.out.cells.2.2.1
                go_wp2
                go_roundw
                case rel => exact ⟨m + 1, _, KS ++ [x], s3, HNEW.out, by omega, by rw [List.length_append, HLEN.out]; rfl, HMK8.out, HCU8.out, HFR8.out⟩
                case measure => rw [hl8, HLR.out]; have := HM'.out; rw [List.length_append, HLEN.out] at this; simp at this; omega
              · go_simp
                refine HTY.out.mono ?_
                rintro e w4 ⟨rfl, hc4, hf4⟩
                have MK4 := MKd.out.fr hf4
                have FR4 : Fr (· = z) w w4 := FRd.out.trans hf4
                obtain ⟨v', w7, hrun, b7, c7, f7, b8, MK8, FR8⟩ := Mk.appK MK4 (by show _ ≤ 100000; omega) x
                have b4 := MK4.box
                have bX := (MK4.keep ((Below.refl w4.heap.size w4).alloc (Nat.le_refl _) (.cells #[.string x] 9))).box
                have l4 := MK4.cells.2.2.1
                have lX := (MK4.keep ((Below.refl w4.heap.size w4).alloc (Nat.le_refl _) (.cells #[.string x] 9))).cells.2.2.1
                obtain ⟨X, hX⟩ : ∃ X, w4.alloc (.cells #[.string x] 9) = X := ⟨_, rfl⟩
                rw [hX] at hrun bX lX
                obtain ⟨A', c', hv', _⟩ := rdS_own MK8.k HPSZ2.out
                subst hv'
                obtain ⟨m', hm'⟩ : ∃ m', (KS ++ [x]).length = m' := ⟨_, rfl⟩
                have HRUN : Hid _ := hrun
                have HMK8 : Hid _ := MK8
                have HFR8 : Hid (Fr (· = z) w _) := FR4.step FR8 (fun i hi => .inr (by omega))
                have HCU8 : Hid (Cu _ z lim _) := hc4.fr FR8 (by omega) (fun k hk => by omega)
                rw [hm'] at HRUN b8 HMK8 HFR8 HCU8
                have HM' := Lib.hid hm'
                clear hc4 hf4 MK4 FR4 MK8 FR8 hrun hm'
                go_wp2_with fail
                refine hK.out _ _ (b4) (fun hHeld => ?_)
                clear hK K
                try simp only [Act.put, List.setIfInBounds_toArray, List.set_cons_zero, List.set_cons_succ]
                refine wpAnyH_ready (rs := [1, 4]) (by kernel_rfl) (by simp) ?_
                refine AllReadyH.cons (o := { dst := some 39, op := Go.Op.load 23 (Go.Operand.tmp 38), type := 23, pos := "node.go:181", after := #[{ on := 0, ground := Go.Ground.data }], guard := none }) rfl (fun K hK => ?_) (AllReadyH.cons (o := { dst := some 42, op := Go.Op.buildSlice 23 1 #[(0, Go.Operand.tmp 41)], type := 23, pos := "node.go:181", after := #[{ on := 3, ground := Go.Ground.data }], guard := none }) rfl (fun K hK => ?_) AllReadyH.nil)
                · go_simp
                  refine hK.out _ _ (b4) (fun hHeld => ?_)
                  clear hK K
                  try simp only [Act.put, List.setIfInBounds_toArray, List.set_cons_zero, List.set_cons_succ]
                  refine wpAnyH_ready (rs := [4]) (by kernel_rfl) (by simp) ?_
                  refine AllReadyH.cons (o := { dst := some 42, op := Go.Op.buildSlice 23 1 #[(0, Go.Operand.tmp 41)], type := 23, pos := "node.go:181", after := #[{ on := 3, ground := Go.Ground.data }], guard := none }) rfl (fun K hK => ?_) AllReadyH.nil
                  go_simp
                  refine hK.out _ _ (bX) (fun hHeld => ?_)
                  clear hK K
                  try simp only [Act.put, List.setIfInBounds_toArray, List.set_cons_zero, List.set_cons_succ]
                  refine wpAnyH_ready (rs := [5]) (by kernel_rfl) (by simp) ?_
                  refine AllReadyH.cons (o := { dst := some 43, op := Go.Op.call { callee := Go.Callee.builtin Go.Builtin.append, args := #[Go.Operand.tmp 39, Go.Operand.tmp 42], argTypes := #[23, 23] }, type := 23, pos := "node.go:181", after := #[{ on := 1, ground := Go.Ground.data }, { on := 4, ground := Go.Ground.data }, { on := 3, ground := Go.Ground.chain }], guard := none }) rfl (fun K hK => ?_) AllReadyH.nil
                  refine step_appN rfl (.tmp 39) (.tmp 42) 23 23 rfl rfl _ _ _ _ (by simp [Act.eval, Act.put]) (by simp [Act.eval, Act.put]) HRUN.out ?_
                  refine hK.out _ _ (b7) (fun hHeld => ?_)
                  clear hK K
                  try simp only [Act.put, List.setIfInBounds_toArray, List.set_cons_zero, List.set_cons_succ]
                  refine wpAnyH_take (i := 6) (oi := { dst := some 44, op := Go.Op.fieldAddr 26 (Go.Operand.tmp 4) 2, type := 0, pos := "node.go:181", after := #[{ on := 0, ground := Go.Ground.phase }, { on := 1, ground := Go.Ground.phase }, { on := 2, ground := Go.Ground.phase }, { on := 3, ground := Go.Ground.phase }, { on := 4, ground := Go.Ground.phase }, { on := 5, ground := Go.Ground.phase }], guard := none }) (v := ?vub16) rfl (by kernel_rfl) (by kernel_rfl) (by kernel_rfl) (fun _ _ _ h => h) (Or.inl ⟨by rfl, ?hyub16⟩) hHeld ?_
                  case hyub16 => (intro w hSw; (try dsimp only at hSw); go_simp; first | done | with_reducible rfl)
                  try simp only [Act.put, List.setIfInBounds_toArray, List.set_cons_zero, List.set_cons_succ]
                  refine wpAnyH_ready (rs := [7]) (by kernel_rfl) (by simp) ?_
                  refine AllReadyH.cons (o := { dst := none, op := Go.Op.store 23 (Go.Operand.tmp 44) (Go.Operand.tmp 43), type := 0, pos := "node.go:181", after := #[{ on := 6, ground := Go.Ground.data }, { on := 5, ground := Go.Ground.data }, { on := 5, ground := Go.Ground.chain }, { on := 0, ground := Go.Ground.phase }, { on := 1, ground := Go.Ground.phase }, { on := 2, ground := Go.Ground.phase }, { on := 3, ground := Go.Ground.phase }, { on := 4, ground := Go.Ground.phase }, { on := 5, ground := Go.Ground.phase }], guard := none }) rfl (fun K hK => ?_) AllReadyH.nil
                  go_simp
                  refine hK.out _ _ (b8) (fun hHeld => ?_)
                  clear hK K
                  try simp only [Act.put, List.setIfInBounds_toArray, List.set_cons_zero, List.set_cons_succ]
                  refine wpAnyH_done (by kernel_rfl) ?_ _
                  clear hHeld
                  have hl8 := lenAt_of HMK8.out.cells.2.2.1
                  go_wp2
                  go_roundw
                  case rel => exact ⟨m + 1, _, KS ++ [x], s3, HNEW.out, by omega, by rw [List.length_append, HLEN.out]; rfl, HMK8.out, HCU8.out, HFR8.out⟩
                  case measure => rw [hl8, HLR.out]; have := HM'.out; rw [List.length_append, HLEN.out] at this; simp at this; omega
                · go_simp
                  refine hK.out _ _ (bX) (fun hHeld => ?_)
                  clear hK K
                  try simp only [Act.put, List.setIfInBounds_toArray, List.set_cons_zero, List.set_cons_succ]
                  refine wpAnyH_ready (rs := [1]) (by kernel_rfl) (by simp) ?_
                  refine AllReadyH.cons (o := { dst := some 39, op := Go.Op.load 23 (Go.Operand.tmp 38), type := 23, pos := "node.go:181", after := #[{ on := 0, ground := Go.Ground.data }], guard := none }) rfl (fun K hK => ?_) AllReadyH.nil
                  go_simp
                  refine hK.out _ _ (bX) (fun hHeld => ?_)
                  clear hK K
                  try simp only [Act.put, List.setIfInBounds_toArray, List.set_cons_zero, List.set_cons_succ]
                  refine wpAnyH_ready (rs := [5]) (by kernel_rfl) (by simp) ?_
                  refine AllReadyH.cons (o := { dst := some 43, op := Go.Op.call { callee := Go.Callee.builtin Go.Builtin.append, args := #[Go.Operand.tmp 39, Go.Operand.tmp 42], argTypes := #[23, 23] }, type := 23, pos := "node.go:181", after := #[{ on := 1, ground := Go.Ground.data }, { on := 4, ground := Go.Ground.data }, { on := 3, ground := Go.Ground.chain }], guard := none }) rfl (fun K hK => ?_) AllReadyH.nil
                  refine step_appN rfl (.tmp 39) (.tmp 42) 23 23 rfl rfl _ _ _ _ (by simp [Act.eval, Act.put]) (by simp [Act.eval, Act.put]) HRUN.out ?_
                  refine hK.out _ _ (b7) (fun hHeld => ?_)
                  clear hK K
                  try simp only [Act.put, List.setIfInBounds_toArray, List.set_cons_zero, List.set_cons_succ]
                  refine wpAnyH_take (i := 6) (oi := { dst := some 44, op := Go.Op.fieldAddr 26 (Go.Operand.tmp 4) 2, type := 0, pos := "node.go:181", after := #[{ on := 0, ground := Go.Ground.phase }, { on := 1, ground := Go.Ground.phase }, { on := 2, ground := Go.Ground.phase }, { on := 3, ground := Go.Ground.phase }, { on := 4, ground := Go.Ground.phase }, { on := 5, ground := Go.Ground.phase }], guard := none }) (v := ?vub26) rfl (by kernel_rfl) (by kernel_rfl) (by kernel_rfl) (fun _ _ _ h => h) (Or.inl ⟨by rfl, ?hyub26⟩) hHeld ?_
                  case hyub26 => (intro w hSw; (try dsimp only at hSw); go_simp; first | done | with_reducible rfl)
                  try simp only [Act.put, List.setIfInBounds_toArray, List.set_cons_zero, List.set_cons_succ]
                  refine wpAnyH_ready (rs := [7]) (by kernel_rfl) (by simp) ?_
                  refine AllReadyH.cons (o := { dst := none, op := Go.Op.store 23 (Go.Operand.tmp 44) (Go.Operand.tmp 43), type := 0, pos := "node.go:181", after := #[{ on := 6, ground := Go.Ground.data }, { on := 5, ground := Go.Ground.data }, { on := 5, ground := Go.Ground.chain }, { on := 0, ground := Go.Ground.phase }, { on := 1, ground := Go.Ground.phase }, { on := 2, ground := Go.Ground.phase }, { on := 3, ground := Go.Ground.phase }, { on := 4, ground := Go.Ground.phase }, { on := 5, ground := Go.Ground.phase }], guard := none }) rfl (fun K hK => ?_) AllReadyH.nil
                  go_simp
                  refine hK.out _ _ (b8) (fun hHeld => ?_)
                  clear hK K
                  try simp only [Act.put, List.setIfInBounds_toArray, List.set_cons_zero, List.set_cons_succ]
                  refine wpAnyH_done (by kernel_rfl) ?_ _
                  clear hHeld
                  have hl8 := lenAt_of HMK8.out.cells.2.2.1
                  go_wp2
                  go_roundw
                  case rel => exact ⟨m + 1, _, KS ++ [x], s3, HNEW.out, by omega, by rw [List.length_append, HLEN.out]; rfl, HMK8.out, HCU8.out, HFR8.out⟩
                  case measure => rw [hl8, HLR.out]; have := HM'.out; rw [List.length_append, HLEN.out] at this; simp at this; omega
          · have he : kys count st1 = (KS, (l2, sh2)) := by
              rw [show count = m by omega]
              exact HP.out
            have HE := Lib.hid (HEND.out he HCUR.out)
            clear HEND he
            go_wp2
            refine bodyPost_ret (results_cell_row (P := Try.prog) (fn := Try.f43) rfl _ _ g 26 _ (0, 0) _ rfl HROW.out Try.underlying26 rfl (by kernel_rfl)) rfl HE.out
end Go.Proofs.Ytedhcohpcdkgnaa
