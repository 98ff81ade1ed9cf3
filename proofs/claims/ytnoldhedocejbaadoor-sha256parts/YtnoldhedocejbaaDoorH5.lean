/- Write. Conditions: none. -/
import Derived.Test.YtnoldhedocejbaaDoorH4
import Derived.Deep.CutRange
namespace Go.Proofs.YtnoldhedocejbaaDoor
open Go.RowKit Go.Bs Go.Sha Go.Inv

theorem HB.storeC {w : World} {g n : Nat} {S : St} {blk : List UInt8} (h : HB w g S blk n) (S' : St) : (storeCells ⟨g, 0, none⟩ S'.cs.toList).run Tryd.prog w = .ok () (w.setRow g (hc S' blk n)) := by
  have e : (S.l.map U).length = 8 := by simp [St.l]
  have hst := run_storeCells_at Tryd.prog g 0 63 S'.cs.toList 0 _ w h.row (by rw [hc_size _ _ _ h.len]; simp [St.cs]) (fun v hv => by
    have := Array.all_eq_true_iff_forall_mem.1 (cs_one S') v (by simpa using hv)
    exact this)
  have e3 : ((hc S blk n).toList.take (0 + 0) ++ S'.cs.toList ++ (hc S blk n).toList.drop (0 + 0 + S'.cs.toList.length)).toArray = hc S' blk n := by
    unfold hc
    simp only [Nat.add_zero, List.take_zero, List.nil_append, Nat.zero_add]
    rw [show S'.cs.toList.length = (S.l.map U).length by rw [e]; rfl, List.drop_left]
    rfl
  rw [e3] at hst
  exact hst

theorem sliceAt_l (gh m : Nat) (hm : m < 64) (W : World) : (Instr.sliceAt 61 (.pointer (some ⟨gh, 8, none⟩)) (some (.int .i64 (m : Int))) none none).run Tryd.prog W = .ok (.slice (some ⟨gh, 8 + m, none⟩) (64 - m) (64 - m)) W := by
  have len61 : Tryd.prog.arrayLen 61 = 64 := by kernel_rfl
  have el61 : Tryd.prog.elem 61 = 5 := by kernel_rfl
  rw [run_sliceAt_array_l (P := Tryd.prog) W 61 _ (by rw [len61, el61]; exact Tryd.underlying61) .i64 (m : Int) (by omega) (by rw [len61]; omega), el61, size5, Result.andThen_ok, len61]
  simp [slicedAt, show ¬ 64 = m by omega, addr_add]

theorem op_loadV {o : Oper} {a : Act} {w : World} {K : Act → World → Prop} {Q : Exit → Act → World → Prop} (ty : TypeId) (x : Operand) (hop : o.op = .load ty x) (ad : Addr) (v : Value)
    (hx : a.eval x = .pointer (some ad)) (hl : (loadVar ty ad).run Tryd.prog w = .ok v w) (h : K (a.put o.dst v) w) : o.wp Tryd.prog a w K Q := by
  unfold Oper.wp execOp
  simp only [hop, hx, Instr.loadAt, Instr.sureAddr, Sem.run_bind, Sem.run_pure, Result.andThen_ok, hl]
  exact h

set_option maxRecDepth 100000 in
set_option maxHeartbeats 4000000 in
theorem Write_any (gh : Nat) (bs xs : List UInt8) (A : Option Addr) (n c : Nat) (w : World) (hH : HashIs w gh bs) (hr : Rd w A n c xs) (hne : ∀ a, A = some a → a.block ≠ gh) (hsz : bs.length + n ≤ 1152921504606846975) (hL : Laid w) (hg2 : 2 ≤ gh) :
    Calls Tryd.prog 21 #[.pointer (some ⟨gh, 0, none⟩), .slice A n c] w fun e w' => e = .returned (.int .i64 0) ∧ HashIs w' gh (bs ++ xs) ∧ But gh w w' := by
  obtain ⟨blk, hB, htk⟩ := hH
  have hxl := hr.len
  have hok : (state Sha.start bs).ok := state_ok _ start_ok
  obtain ⟨N, hN⟩ : ∃ N, bs.length = N := ⟨_, rfl⟩
  obtain ⟨m, hm⟩ : ∃ m, N % 64 = m := ⟨_, rfl⟩
  obtain ⟨M, hM⟩ : ∃ M, N + n = M := ⟨_, rfl⟩
  have HMM : Hid ((bs ++ xs).length = M) := by show (bs ++ xs).length = M; rw [List.length_append, hN, hxl, hM]
  rw [hN] at hB hsz
  have HBL := Lib.hid hB.len
  have HNE := Lib.hid hne
  have cN := hB.num
  have fz := hB.frozen 72
  obtain ⟨W1, hW1⟩ : ∃ W1, w.setCell ⟨gh, 72, none⟩ (.int .i64 (M : Int)) = W1 := ⟨_, rfl⟩
  have HB1 : Hid (HB W1 gh (state Sha.start bs) blk M) := by rw [← hW1]; exact hB.setN M
  have HBU1 : Hid (But gh w W1) := by rw [← hW1]; exact But.setCell w 72 _
  have HL := Lib.hid hL
  have HRW0 := Lib.hid hr
  have HR1 : Hid (Rd W1 A n c xs) := HBU1.out.rd hr hne
  have HL1 : Hid (Laid W1) := HBU1.out.laid hL hg2
  have hcap := hr.cap
  have q1 : (N : Int) % 64 = (m : Int) := by omega
  have q2 : (N : Int) + (n : Int) = (M : Int) := by omega
  have HTK := Lib.hid htk
  have HXL := Lib.hid hxl
  have HNN := Lib.hid hN
  have Hm := Lib.hid hm
  have hm64 : m < 64 := by omega
  have hMM : M ≤ 1152921504606846975 := by omega
  have hnn : n ≤ 1152921504606846975 := by omega
  obtain ⟨S, hS⟩ : ∃ S, state Sha.start bs = S := ⟨_, rfl⟩
  have HS := Lib.hid hS
  rw [hS] at HB1 hok
  clear hB hr hne hL htk hxl hN hm hM hS
  by_cases h0 : m = 0
  · have h0i : ¬ (0 : Int) < (m : Int) := by omega
    have HFIN : Hid (∀ V, HB V gh (state S xs) (blk.take 0 ++ ((xs.drop (n / 64 * 64)).take (n % 64) ++ blk.drop (0 + n % 64))) M → HashIs V gh (bs ++ xs)) := by
      intro V hV
      rw [← HS.out] at hV
      exact fin_tail bs xs (N / 64) (by rw [HNN.out]; have := Hm.out; omega) blk HBL.out V gh n M HXL.out HMM.out hV
    go_enter Tryd.func21, Tryd.ntmps21
    have hld := HB1.out.load
    have HMB := Lib.hid (mixBlocks_at S hok A n c xs W1 HR1.out (by omega) HL1.out)
    rw [show S.v = .agg S.cs from rfl] at HMB
    obtain ⟨tc, htc⟩ : ∃ cs : Array Value, S.cs = cs := ⟨_, rfl⟩
    rw [htc] at hld HMB
    have hszW := HB1.out.lt
    clear htc
    go_wp2_with ((with_reducible refine wl_loadRow (ty := 51) (x := .tmp 56) (g := gh) (v := .agg tc) ?hx hld ?_); (case hx => rfl))
    refine HMB.out.mono ?_
    rintro e w2 ⟨A2, rfl, hr2, hb2, hsb2⟩
    obtain ⟨P, hP⟩ : ∃ P, state S xs = P := ⟨_, rfl⟩
    rw [hP] at HFIN ⊢
    rw [show P.v = .agg P.cs from rfl]
    obtain ⟨pc, hpc⟩ : ∃ cs : Array Value, P.cs = cs := ⟨_, rfl⟩
    rw [hpc]
    have hzp : pc.size = 8 := by rw [← hpc]; rfl
    obtain ⟨g7, hg7⟩ : ∃ g7, w2.heap.size = g7 := ⟨_, rfl⟩
    obtain ⟨W3, hW3⟩ : ∃ W3, w2.alloc (.cells Z8u 51) = W3 := ⟨_, rfl⟩
    have hrow3 : W3.heap[g7]? = some (.cells Z8u 51 (0, 0)) := by rw [← hW3, ← hg7]; exact heap_alloc_new w2 _
    have hst7 := stC (P := Tryd.prog) W3 g7 51 8 pc _ hrow3 hzp rfl (by rw [← hpc]; exact cs_one P)
    obtain ⟨Y, hY⟩ : ∃ Y, W3.setRow g7 pc = Y := ⟨_, rfl⟩
    have hbY : Below g7 w2 Y := by rw [← hY]; exact below_row (by rw [← hW3, ← hg7]; exact (Below.refl _ _).alloc (Nat.le_refl _) _) (Nat.le_refl _) (by rw [← hW3, ← hg7]; simp) _
    have hrowY : Y.heap[g7]? = some (.cells P.cs 51 (0, 0)) := by rw [hpc, ← hY]; exact setRow_heap W3 g7 _ _ 51 _ hrow3
    have hld7 := load51 Y g7 51 P hrowY
    rw [hpc] at hld7
    rw [hY] at hst7
    have hbWY : Below W1.heap.size W1 Y := hb2.trans (hbY.mono (by rw [← hg7]; exact hb2.size))
    have hTY := HB1.out.keep hbWY
    have hTZ := (hTY.store P).2
    have hstS := hTY.storeC P
    rw [hpc] at hstS
    obtain ⟨Z, hZ⟩ : ∃ Z, Y.setRow gh (hc P blk M) = Z := ⟨_, rfl⟩
    rw [hZ] at hstS hTZ
    have hbuZ : But gh w Z := (HBU1.out.trans (But.of hbWY)).trans (show But gh Y Z from by rw [← hZ]; exact But.row Y _)
    have hrZ : Rd Z A2 (n % 64) (c - n / 64 * 64) (xs.drop (n / 64 * 64)) := by
      have h1 : Rd Y A2 (n % 64) (c - n / 64 * 64) (xs.drop (n / 64 * 64)) := hr2.keep (by rw [hg7]; exact hbY)
      have h2 : But gh Y Z := by rw [← hZ]; exact But.row Y _
      refine h2.rd h1 fun a ha => ?_
      obtain ⟨a0, e0, e1⟩ := hsb2 a ha
      rw [e1]
      exact HNE.out a0 e0
    obtain ⟨hcp, hTV⟩ := hTZ.copy 0 (by omega) A2 (n % 64) (c - n / 64 * 64) _ hrZ (n % 64) (by omega) 3
    have hcp : ∀ ty, (Builtin.copy_ #[22, 22] ty #[.slice (some ⟨gh, 8, none⟩) 64 64, .slice A2 (n % 64) (c - n / 64 * 64)]).run Tryd.prog Z = .ok (goInt (n % 64)) (Z.setRow gh (hc P (blk.take 0 ++ ((xs.drop (n / 64 * 64)).take (n % 64) ++ blk.drop (0 + n % 64))) M)) := fun ty => (hTZ.copy 0 (by omega) A2 (n % 64) (c - n / 64 * 64) _ hrZ (n % 64) (by omega) ty).1
    obtain ⟨V, hV⟩ : ∃ V, Z.setRow gh (hc P (blk.take 0 ++ ((xs.drop (n / 64 * 64)).take (n % 64) ++ blk.drop (0 + n % 64))) M) = V := ⟨_, rfl⟩
    rw [hV] at hcp hTV
    have HFV := Lib.hid (And.intro (HFIN.out V hTV) (hbuZ.trans (show But gh Z V from by rw [← hV]; exact But.row Z _)))
    obtain ⟨r1, hr1⟩ : ∃ r, n % 64 = r := ⟨_, rfl⟩
    obtain ⟨r2, hr2'⟩ : ∃ r, c - n / 64 * 64 = r := ⟨_, rfl⟩
    rw [hr1, hr2'] at hcp ⊢
    clear hpc hP hY hZ hV hrow3 hbY hrowY hbWY hTY hTZ hbuZ hrZ hr2 hb2 hsb2 hTV HMB hld
    go_wp2_with ((with_reducible refine wl_loadRow (ty := 51) (x := .tmp 7) (g := g7) (v := .agg pc) ?hx hld7 ?_); (case hx => rfl))
    go_ret
    exact ⟨rfl, HFV.out.1, HFV.out.2⟩
  · have h0i : (0 : Int) < (m : Int) := by omega
    obtain ⟨k, hk⟩ : ∃ k, min n (64 - m) = k := ⟨_, rfl⟩
    have hkn : k ≤ n := by omega
    have hkm : m + k ≤ 64 := by omega
    have hcp : ∀ ty, (Builtin.copy_ #[22, 22] ty #[.slice (some ⟨gh, 8 + m, none⟩) (64 - m) (64 - m), .slice A n c]).run Tryd.prog W1 = .ok (goInt k) (W1.setRow gh (hc S (blk.take m ++ (xs.take k ++ blk.drop (m + k))) M)) := fun ty => (HB1.out.copy m (by omega) A n c xs HR1.out k hk.symm ty).1
    have hB2 := (HB1.out.copy m (by omega) A n c xs HR1.out k hk.symm 3).2
    obtain ⟨blk1, hblk1⟩ : ∃ b, blk.take m ++ (xs.take k ++ blk.drop (m + k)) = b := ⟨_, rfl⟩
    rw [hblk1] at hcp hB2
    obtain ⟨W2, hW2⟩ : ∃ W2, W1.setRow gh (hc S blk1 M) = W2 := ⟨_, rfl⟩
    have HBU2 : Hid (But gh w W2) := HBU1.out.trans (show But gh W1 W2 from by rw [← hW2]; exact But.row W1 _)
    rw [hW2] at hcp hB2
    have HB2 := Lib.hid hB2
    have HBK := Lib.hid hblk1
    clear hB2 hW2 hblk1
    have hsa := sliceAt_l gh m hm64
    by_cases hlt : m + k < 64
    · have hli : (m : Int) + (k : Int) < 64 := by omega
      have hkn' : k = n := by omega
      have HFIN : Hid (HashIs W2 gh (bs ++ xs)) := by
        have h1 := HB2.out
        rw [← HBK.out, hkn', ← HS.out] at h1
        have htk := HTK.out
        rw [HNN.out, Hm.out] at htk
        exact fin_short bs xs blk W2 gh n m M HXL.out (by rw [HNN.out]; exact Hm.out) HMM.out (by omega) HBL.out (by rw [HNN.out]; exact htk) h1
      go_enter Tryd.func21, Tryd.ntmps21
      go_wp2
      go_ret
      exact ⟨rfl, HFIN.out, HBU2.out⟩
    · have hli : ¬ (m : Int) + (k : Int) < 64 := by omega
      have hsl : ∀ W, (Instr.slice 22 (.slice A n c) (some (.int .i64 (k : Int))) none none).run Tryd.prog W = .ok (.slice (tailA A c k) (n - k) (c - k)) W := fun W => slice_from A n c k hkn W
      have HK64 : Hid (m + k = 64) := by show m + k = 64; omega
      have hB64 : Rd W2 (some ⟨gh, 8, none⟩) 64 64 blk1 := by
        have := HB2.out.rd 0 64 64 (by omega) (by omega)
        rw [List.drop_zero, List.take_of_length_le (by rw [HB2.out.len]; omega)] at this
        exact this
      have HLW2 := Lib.hid (HBU2.out.laid HL.out hg2)
      have HMX := Lib.hid (fun (W : World) (hb : Below W2.heap.size W2 W) => mixBlock_any S hok (some ⟨gh, 8, none⟩) 64 blk1 W (hB64.keep hb) (by omega) (HLW2.out.keep hb))
      rw [show S.v = .agg S.cs from rfl] at HMX
      obtain ⟨cs, hcs⟩ : ∃ cs : Array Value, S.cs = cs := ⟨_, rfl⟩
      have HCS := Lib.hid hcs
      rw [hcs] at HMX
      have HSL := Lib.hid hsl
      have HRW := Lib.hid HRW0.out
      have HKK := Lib.hid hk
      clear hcs hB64 hsl hk hlt hkm
      go_enter Tryd.func21, Tryd.ntmps21
      go_wp2
      have hd1 : Below W2.heap.size W2 W2.drew := (Below.refl _ _).drew
      have hldc := (HB2.out.keep hd1).load
      rw [HCS.out] at hldc
      refine wp_region_held_drew (S := fun _ => True) (by kernel_rfl) trivial (fun hHeld => ?_)
      refine wpAnyH_take (i := 0) (oi := { dst := some 38, op := Op.move (Operand.tmp 0), type := 43, pos := "sha256.go:90", after := #[], guard := none }) (v := ?v0) rfl (by kernel_rfl) (by kernel_rfl) (by kernel_rfl) (fun _ _ _ h => h) (Or.inl ⟨by rfl, ?hy0⟩) hHeld ?_
      case hy0 => (intro w hSw; (try dsimp only at hSw); go_simp; first | done | with_reducible rfl)
      try simp only [Act.put, List.setIfInBounds_toArray, List.set_cons_zero, List.set_cons_succ]
      refine wpAnyH_take (i := 1) (oi := { dst := some 39, op := Op.move (Operand.tmp 0), type := 43, pos := "sha256.go:90", after := #[], guard := none }) (v := ?v1) rfl (by kernel_rfl) (by kernel_rfl) (by kernel_rfl) (fun _ _ _ h => h) (Or.inl ⟨by rfl, ?hy1⟩) hHeld ?_
      case hy1 => (intro w hSw; (try dsimp only at hSw); go_simp; first | done | with_reducible rfl)
      try simp only [Act.put, List.setIfInBounds_toArray, List.set_cons_zero, List.set_cons_succ]
      refine wpAnyH_take (i := 2) (oi := { dst := some 40, op := Op.nilCheck (Operand.tmp 39), type := 0, pos := "sha256.go:90", after := #[{ on := 1, ground := Ground.data }], guard := none }) (v := ?v2) rfl (by kernel_rfl) (by kernel_rfl) (by kernel_rfl) (fun _ _ _ h => h) (Or.inl ⟨by rfl, ?hy2⟩) hHeld ?_
      case hy2 => (intro w hSw; (try dsimp only at hSw); go_simp; first | done | with_reducible rfl)
      try simp only [Act.put, List.setIfInBounds_toArray, List.set_cons_zero, List.set_cons_succ]
      refine wpAnyH_take (i := 3) (oi := { dst := some 41, op := Op.fieldAddr 63 (Operand.tmp 40) 0, type := 0, pos := "sha256.go:90", after := #[{ on := 2, ground := Ground.data }], guard := none }) (v := ?v3) rfl (by kernel_rfl) (by kernel_rfl) (by kernel_rfl) (fun _ _ _ h => h) (Or.inl ⟨by rfl, ?hy3⟩) hHeld ?_
      case hy3 => (intro w hSw; (try dsimp only at hSw); go_simp; first | done | with_reducible rfl)
      try simp only [Act.put, List.setIfInBounds_toArray, List.set_cons_zero, List.set_cons_succ]
      refine wpAnyH_take (i := 5) (oi := { dst := some 43, op := Op.move (Operand.tmp 0), type := 43, pos := "sha256.go:90", after := #[], guard := none }) (v := ?v5) rfl (by kernel_rfl) (by kernel_rfl) (by kernel_rfl) (fun _ _ _ h => h) (Or.inl ⟨by rfl, ?hy5⟩) hHeld ?_
      case hy5 => (intro w hSw; (try dsimp only at hSw); go_simp; first | done | with_reducible rfl)
      try simp only [Act.put, List.setIfInBounds_toArray, List.set_cons_zero, List.set_cons_succ]
      refine wpAnyH_take (i := 6) (oi := { dst := some 44, op := Op.nilCheck (Operand.tmp 43), type := 0, pos := "sha256.go:90", after := #[{ on := 5, ground := Ground.data }], guard := none }) (v := ?v6) rfl (by kernel_rfl) (by kernel_rfl) (by kernel_rfl) (fun _ _ _ h => h) (Or.inl ⟨by rfl, ?hy6⟩) hHeld ?_
      case hy6 => (intro w hSw; (try dsimp only at hSw); go_simp; first | done | with_reducible rfl)
      try simp only [Act.put, List.setIfInBounds_toArray, List.set_cons_zero, List.set_cons_succ]
      refine wpAnyH_take (i := 7) (oi := { dst := some 45, op := Op.fieldAddr 63 (Operand.tmp 44) 1, type := 0, pos := "sha256.go:90", after := #[{ on := 6, ground := Ground.data }], guard := none }) (v := ?v7) rfl (by kernel_rfl) (by kernel_rfl) (by kernel_rfl) (fun _ _ _ h => h) (Or.inl ⟨by rfl, ?hy7⟩) hHeld ?_
      case hy7 => (intro w hSw; (try dsimp only at hSw); go_simp; first | done | with_reducible rfl)
      try simp only [Act.put, List.setIfInBounds_toArray, List.set_cons_zero, List.set_cons_succ]
      refine wpAnyH_take (i := 8) (oi := { dst := some 46, op := Op.slice 61 (Operand.tmp 45) none none none, type := 22, pos := "sha256.go:90", after := #[{ on := 7, ground := Ground.data }], guard := none }) (v := ?v8) rfl (by kernel_rfl) (by kernel_rfl) (by kernel_rfl) (fun _ _ _ h => h) (Or.inl ⟨by rfl, ?hy8⟩) hHeld ?_
      case hy8 => (intro w hSw; (try dsimp only at hSw); go_simp; first | done | with_reducible rfl)
      try simp only [Act.put, List.setIfInBounds_toArray, List.set_cons_zero, List.set_cons_succ]
      refine wpAnyH_ready (rs := [4]) (by kernel_rfl) (by simp) ?_
      refine AllReadyH.cons (o := { dst := some 42, op := Op.load 51 (Operand.tmp 41), type := 51, pos := "sha256.go:90", after := #[{ on := 3, ground := Ground.data }], guard := none }) rfl (fun K hK => ?_) AllReadyH.nil
      refine op_loadV 51 (.tmp 41) rfl ⟨gh, 0, none⟩ (.agg cs) rfl hldc ?_
      refine hK.out _ _ trivial (fun hHeld => ?_)
      clear hK K
      try simp only [Act.put, List.setIfInBounds_toArray, List.set_cons_zero, List.set_cons_succ]
      refine wpAnyH_ready (rs := [9]) (by kernel_rfl) (by simp) ?_
      refine AllReadyH.cons (o := { dst := some 47, op := Op.call { callee := Callee.value (Operand.func 26), args := #[Operand.tmp 42, Operand.tmp 46], argTypes := #[51, 22] }, type := 51, pos := "sha256.go:90", after := #[{ on := 4, ground := Ground.data }, { on := 8, ground := Ground.data }], guard := none }) rfl (fun K hK => ?_) AllReadyH.nil
      go_simp
      refine (HMX.out _ hd1).mono ?_
      rintro e w3 ⟨rfl, hb3⟩
      have hd2 := Bs.below_step hd1 hb3
      obtain ⟨T, hT⟩ : ∃ T, mixS S blk1 = T := ⟨_, rfl⟩
      have hTok : T.ok := by rw [← hT]; exact mixS_ok _ _
      have HTT := Lib.hid hT
      rw [hT, show T.v = .agg T.cs from rfl]
      have hB3 := HB2.out.keep hd2
      obtain ⟨hstT, hB4⟩ := hB3.store T
      obtain ⟨W4, hW4⟩ : ∃ W4, w3.setRow gh (hc T blk1 M) = W4 := ⟨_, rfl⟩
      have HBU4 : Hid (But gh w W4) := (HBU2.out.trans (But.of hd2)).trans (show But gh w3 W4 from by rw [← hW4]; exact But.row w3 _)
      rw [hW4] at hstT hB4
      have HB4 := Lib.hid hB4
      obtain ⟨tcs, htcs⟩ : ∃ cs : Array Value, T.cs = cs := ⟨_, rfl⟩
      rw [htcs] at hstT ⊢
      clear hT hB3 hB4 hW4 htcs
      go_wp2_with fail
      refine hK.out _ _ trivial (fun hHeld => ?_)
      clear hK K
      try simp only [Act.put, List.setIfInBounds_toArray, List.set_cons_zero, List.set_cons_succ]
      refine wpAnyH_take (i := 10) (oi := { dst := some 48, op := Op.nilCheck (Operand.tmp 38), type := 0, pos := "sha256.go:90", after := #[{ on := 0, ground := Ground.data }, { on := 0, ground := Ground.phase }, { on := 1, ground := Ground.phase }, { on := 2, ground := Ground.phase }, { on := 3, ground := Ground.phase }, { on := 4, ground := Ground.phase }, { on := 5, ground := Ground.phase }, { on := 6, ground := Ground.phase }, { on := 7, ground := Ground.phase }, { on := 8, ground := Ground.phase }, { on := 9, ground := Ground.phase }], guard := none }) (v := ?v10) rfl (by kernel_rfl) (by kernel_rfl) (by kernel_rfl) (fun _ _ _ h => h) (Or.inl ⟨by rfl, ?hy10⟩) hHeld ?_
      case hy10 => (intro w hSw; (try dsimp only at hSw); go_simp; first | done | with_reducible rfl)
      try simp only [Act.put, List.setIfInBounds_toArray, List.set_cons_zero, List.set_cons_succ]
      refine wpAnyH_take (i := 11) (oi := { dst := some 49, op := Op.fieldAddr 63 (Operand.tmp 48) 0, type := 0, pos := "sha256.go:90", after := #[{ on := 10, ground := Ground.data }, { on := 0, ground := Ground.phase }, { on := 1, ground := Ground.phase }, { on := 2, ground := Ground.phase }, { on := 3, ground := Ground.phase }, { on := 4, ground := Ground.phase }, { on := 5, ground := Ground.phase }, { on := 6, ground := Ground.phase }, { on := 7, ground := Ground.phase }, { on := 8, ground := Ground.phase }, { on := 9, ground := Ground.phase }], guard := none }) (v := ?v11) rfl (by kernel_rfl) (by kernel_rfl) (by kernel_rfl) (fun _ _ _ h => h) (Or.inl ⟨by rfl, ?hy11⟩) hHeld ?_
      case hy11 => (intro w hSw; (try dsimp only at hSw); go_simp; first | done | with_reducible rfl)
      try simp only [Act.put, List.setIfInBounds_toArray, List.set_cons_zero, List.set_cons_succ]
      refine wpAnyH_ready (rs := [12]) (by kernel_rfl) (by simp) ?_
      refine AllReadyH.cons (o := { dst := none, op := Op.store 51 (Operand.tmp 49) (Operand.tmp 47), type := 0, pos := "sha256.go:90", after := #[{ on := 11, ground := Ground.data }, { on := 9, ground := Ground.data }, { on := 9, ground := Ground.chain }, { on := 0, ground := Ground.phase }, { on := 1, ground := Ground.phase }, { on := 2, ground := Ground.phase }, { on := 3, ground := Ground.phase }, { on := 4, ground := Ground.phase }, { on := 5, ground := Ground.phase }, { on := 6, ground := Ground.phase }, { on := 7, ground := Ground.phase }, { on := 8, ground := Ground.phase }, { on := 9, ground := Ground.phase }], guard := none }) rfl (fun K hK => ?_) AllReadyH.nil
      refine op_storeV 51 (.tmp 49) (.tmp 47) rfl ⟨gh, 0, none⟩ (.agg tcs) rfl rfl hstT ?_
      refine hK.out _ _ trivial (fun hHeld => ?_)
      clear hK K
      try simp only [Act.put, List.setIfInBounds_toArray, List.set_cons_zero, List.set_cons_succ]
      refine wpAnyH_done (by kernel_rfl) ?_ _
      have hsl := HSL.out
      have HLW4 := Lib.hid (HBU4.out.laid HL.out hg2)
      have hrx : Rd W4 A n c xs := HBU4.out.rd HRW.out HNE.out
      have hrt := rd_tail hrx k hkn
      obtain ⟨A1, hA1⟩ : ∃ A1, tailA A c k = A1 := ⟨_, rfl⟩
      obtain ⟨n1, hn1⟩ : ∃ n1, n - k = n1 := ⟨_, rfl⟩
      obtain ⟨c1, hc1⟩ : ∃ c1, c - k = c1 := ⟨_, rfl⟩
      obtain ⟨ys, hys⟩ : ∃ ys, xs.drop k = ys := ⟨_, rfl⟩
      rw [hA1, hn1, hc1, hys] at hrt
      rw [hA1, hn1, hc1] at hsl
      have HRx := Lib.hid hrt
      have HNE1 : Hid (∀ a, A1 = some a → a.block ≠ gh) := fun a ha => by
        obtain ⟨a0, e0, e1⟩ := sameB_tail (A' := A) (A := A) (fun a h => ⟨a, h, rfl⟩) c k a (by rw [hA1]; exact ha)
        rw [e1]
        exact HNE.out a0 e0
      have HFIN : Hid (∀ V, HB V gh (state T ys) (blk1.take 0 ++ ((ys.drop (n1 / 64 * 64)).take (n1 % 64) ++ blk1.drop (0 + n1 % 64))) M → HashIs V gh (bs ++ xs)) := by
        intro V hV
        have hk64 := HK64.out
        have hxl := HXL.out
        have hyl : (xs.take k).length = k := by rw [List.length_take]; omega
        have hb1 : blk1 = blk.take m ++ xs.take k := by
          rw [← HBK.out, hk64, List.drop_of_length_le (by rw [HBL.out]; omega), List.append_nil]
        have htk := HTK.out
        have hm' : bs.length % 64 = m := by rw [HNN.out]; exact Hm.out
        rw [hm'] at htk
        have hT : T = state Sha.start (bs ++ xs.take k) := by
          rw [← HTT.out, hb1, ← HS.out]
          exact full_state bs (xs.take k) blk m k hm' hk64 hyl htk
        have hall : bs ++ xs = (bs ++ xs.take k) ++ ys := by rw [← hys, List.append_assoc, List.take_append_drop]
        rw [hall]
        rw [hT] at hV
        refine fin_tail (bs ++ xs.take k) ys (N / 64 + 1) ?_ blk1 HB4.out.len V gh n1 M ?_ ?_ hV
        · rw [List.length_append, hyl, HNN.out]; have := Hm.out; omega
        · rw [← hys, List.length_drop, hxl]; exact hn1
        · rw [← hall]; exact HMM.out
      clear hrx hrt hA1 hys hldc hd1 hd2 hb3
      have hld := HB4.out.load
      have HMB := Lib.hid (mixBlocks_at T hTok A1 n1 c1 ys W4 HRx.out (by omega) HLW4.out)
      rw [show T.v = .agg T.cs from rfl] at HMB
      obtain ⟨tc, htc⟩ : ∃ cs : Array Value, T.cs = cs := ⟨_, rfl⟩
      rw [htc] at hld HMB
      have hszW := HB4.out.lt
      clear htc
      go_wp2_with ((with_reducible refine wl_loadRow (ty := 51) (x := .tmp 56) (g := gh) (v := .agg tc) ?hx hld ?_); (case hx => rfl))
      refine HMB.out.mono ?_
      rintro e w2 ⟨A2, rfl, hr2, hb2, hsb2⟩
      obtain ⟨P, hP⟩ : ∃ P, state T ys = P := ⟨_, rfl⟩
      rw [hP] at HFIN ⊢
      rw [show P.v = .agg P.cs from rfl]
      obtain ⟨pc, hpc⟩ : ∃ cs : Array Value, P.cs = cs := ⟨_, rfl⟩
      rw [hpc]
      have hzp : pc.size = 8 := by rw [← hpc]; rfl
      obtain ⟨g7, hg7⟩ : ∃ g7, w2.heap.size = g7 := ⟨_, rfl⟩
      obtain ⟨W3, hW3⟩ : ∃ W3, w2.alloc (.cells Z8u 51) = W3 := ⟨_, rfl⟩
      have hrow3 : W3.heap[g7]? = some (.cells Z8u 51 (0, 0)) := by rw [← hW3, ← hg7]; exact heap_alloc_new w2 _
      have hst7 := stC (P := Tryd.prog) W3 g7 51 8 pc _ hrow3 hzp rfl (by rw [← hpc]; exact cs_one P)
      obtain ⟨Y, hY⟩ : ∃ Y, W3.setRow g7 pc = Y := ⟨_, rfl⟩
      have hbY : Below g7 w2 Y := by rw [← hY]; exact below_row (by rw [← hW3, ← hg7]; exact (Below.refl _ _).alloc (Nat.le_refl _) _) (Nat.le_refl _) (by rw [← hW3, ← hg7]; simp) _
      have hrowY : Y.heap[g7]? = some (.cells P.cs 51 (0, 0)) := by rw [hpc, ← hY]; exact setRow_heap W3 g7 _ _ 51 _ hrow3
      have hld7 := load51 Y g7 51 P hrowY
      rw [hpc] at hld7
      rw [hY] at hst7
      have hbWY : Below W4.heap.size W4 Y := hb2.trans (hbY.mono (by rw [← hg7]; exact hb2.size))
      have hTY := HB4.out.keep hbWY
      have hTZ := (hTY.store P).2
      have hstS := hTY.storeC P
      rw [hpc] at hstS
      obtain ⟨Z, hZ⟩ : ∃ Z, Y.setRow gh (hc P blk1 M) = Z := ⟨_, rfl⟩
      rw [hZ] at hstS hTZ
      have hbuZ : But gh w Z := (HBU4.out.trans (But.of hbWY)).trans (show But gh Y Z from by rw [← hZ]; exact But.row Y _)
      have hrZ : Rd Z A2 (n1 % 64) (c1 - n1 / 64 * 64) (ys.drop (n1 / 64 * 64)) := by
        have h1 : Rd Y A2 (n1 % 64) (c1 - n1 / 64 * 64) (ys.drop (n1 / 64 * 64)) := hr2.keep (by rw [hg7]; exact hbY)
        have h2 : But gh Y Z := by rw [← hZ]; exact But.row Y _
        refine h2.rd h1 fun a ha => ?_
        obtain ⟨a0, e0, e1⟩ := hsb2 a ha
        rw [e1]
        exact HNE1.out a0 e0
      obtain ⟨hcp, hTV⟩ := hTZ.copy 0 (by omega) A2 (n1 % 64) (c1 - n1 / 64 * 64) _ hrZ (n1 % 64) (by omega) 3
      have hcp : ∀ ty, (Builtin.copy_ #[22, 22] ty #[.slice (some ⟨gh, 8, none⟩) 64 64, .slice A2 (n1 % 64) (c1 - n1 / 64 * 64)]).run Tryd.prog Z = .ok (goInt (n1 % 64)) (Z.setRow gh (hc P (blk1.take 0 ++ ((ys.drop (n1 / 64 * 64)).take (n1 % 64) ++ blk1.drop (0 + n1 % 64))) M)) := fun ty => (hTZ.copy 0 (by omega) A2 (n1 % 64) (c1 - n1 / 64 * 64) _ hrZ (n1 % 64) (by omega) ty).1
      obtain ⟨V, hV⟩ : ∃ V, Z.setRow gh (hc P (blk1.take 0 ++ ((ys.drop (n1 / 64 * 64)).take (n1 % 64) ++ blk1.drop (0 + n1 % 64))) M) = V := ⟨_, rfl⟩
      rw [hV] at hcp hTV
      have HFV := Lib.hid (And.intro (HFIN.out V hTV) (hbuZ.trans (show But gh Z V from by rw [← hV]; exact But.row Z _)))
      obtain ⟨r1, hr1⟩ : ∃ r, n1 % 64 = r := ⟨_, rfl⟩
      obtain ⟨r2, hr2'⟩ : ∃ r, c1 - n1 / 64 * 64 = r := ⟨_, rfl⟩
      rw [hr1, hr2'] at hcp ⊢
      clear hpc hP hY hZ hV hrow3 hbY hrowY hbWY hTY hTZ hbuZ hrZ hr2 hb2 hsb2 hTV HMB hld
      go_wp2_with ((with_reducible refine wl_loadRow (ty := 51) (x := .tmp 7) (g := g7) (v := .agg pc) ?hx hld7 ?_); (case hx => rfl))
      go_ret
      exact ⟨rfl, HFV.out.1, HFV.out.2⟩
end Go.Proofs.YtnoldhedocejbaaDoor
