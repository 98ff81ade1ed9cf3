/- A page is taken. Conditions: none. Rows of changes whose bytes lie wherever they lie. Conditions: none. -/
import Derived.Test.YtephmcbofcfpmaaGreatJ25
import Derived.Test.YtephmcbofcfpmaaGreatJ19
set_option maxRecDepth 8000
set_option linter.unusedSimpArgs false
set_option linter.unusedVariables false
namespace Go.Proofs.YtephmcbofcfpmaaGreat
open Go.RowKit Go.Bs Go.Dk Rp

theorem Low.unique {n : Nat} {bs : List UInt8} {a r r' : Nat} (h : Low n bs a r) (h' : Low n bs a r') : r = r' := by
  obtain ⟨h1, h2, h3⟩ := h
  obtain ⟨k1, k2, k3⟩ := h'
  rcases Nat.lt_trichotomy r r' with hlt | he | hlt
  · obtain ⟨e1, e2⟩ := k2 r h1 hlt
    rcases h3 with h3 | h3
    · omega
    · rw [h3] at e2; cases e2
  · exact he
  · obtain ⟨e1, e2⟩ := h2 r' k1 hlt
    rcases k3 with k3 | k3
    · omega
    · rw [k3] at e2; cases e2
theorem Low.ex (n : Nat) (bs : List UInt8) : ∀ d a, 8 * n - a ≤ d → ∃ r, Low n bs a r := by
  intro d
  induction d with
  | zero => intro a ha; exact ⟨a, Nat.le_refl _, fun j h1 h2 => by omega, .inl (by omega)⟩
  | succ d ih =>
    intro a ha
    by_cases h1 : n ≤ a / 8
    · exact ⟨a, Nat.le_refl _, fun j h1 h2 => by omega, .inl h1⟩
    · cases hb : bitOf bs a
      · exact ⟨a, Nat.le_refl _, fun j h1 h2 => by omega, .inr hb⟩
      · obtain ⟨r, k1, k2, k3⟩ := ih (a + 1) (by omega)
        refine ⟨r, by omega, fun j h2 h3 => ?_, k3⟩
        by_cases e : j = a
        · subst e; exact ⟨by omega, hb⟩
        · exact k2 j (by omega) h3
/-- the lowest that is not used, or none. -/
theorem low_find {N Bz M : Nat} {L : Nat → List UInt8} (h : Dm N Bz M L) {r : Nat} (hl : Low (M * Bz) (cat M L) (M + 1) r) : (List.range N).find? (freeAt N Bz M L) = if r < N then some r else none := by
  obtain ⟨h1, h2, h3⟩ := hl
  have hno : ∀ j, j < r → j < N → freeAt N Bz M L j = false := fun j hj hN => by
    unfold freeAt
    by_cases hM : M < j
    · rw [bit_used h j hM hN, (h2 j (by omega) hj).2]
      simp
    · simp; omega
  by_cases hr : r < N
  · rw [if_pos hr]
    refine find_some hr (fun j hj => hno j hj (by omega)) ?_
    unfold freeAt
    rw [bit_used h r (by omega) hr]
    rcases h3 with h3 | h3
    · have := page_lt h r hr; omega
    · rw [h3]; simp; omega
  · rw [if_neg hr]
    exact find_none fun j hj => hno j (by omega) hj
theorem lowest_at (w : World) (bb nb n cap : Nat) (wv : Value) (bs : List UInt8) (h : w.heap[bb]? = some (.cells #[wv, .slice (some ⟨nb, 0, none⟩) n cap] 165 (0, 0))) (hr : Rd w (some ⟨nb, 0, none⟩) n cap bs) (a : Nat) (ha : a ≤ 100000) (hn : n ≤ 100000) (r : Nat) (hl : Low n bs a r) (m : Nat) :
    Calls Tryz.prog 61 #[.pointer (some ⟨bb, 0, none⟩), .int .i64 (a : Int)] (w.drewN m) fun e w' => e = .returned (.int .i64 (r : Int)) ∧ ∃ k, w' = w.drewN k := by
  refine (lowest_any (w.drewN m) bb nb n cap wv bs h (hr.drewN m) a ha hn).mono ?_
  rintro e w' ⟨r', rfl, hl', k, rfl⟩
  rw [hl'.unique hl]
  exact ⟨rfl, m + k, by rw [World.drewN_drewN]⟩
/-- a page is taken. -/
theorem Pg.took {w w3 w2 : World} {pp t q g : Nat} {s : S} {log N Bz M : Nat} {L : Nat → List UInt8} {T : TX} {Dw K KV : Nat → Prop} {bb wb wcap nb ncap mb ro k0 : Nat} {F : Nat → Option Value} (h : Pg w pp t q g s log N Bz M L T Dw K true) (ht : TxD w pp t N Bz M L T K KV true (.pointer (some ⟨bb, 0, none⟩)) mb ro F) (hba : BitsAt w bb (M * Bz) (cat M L) (cat M T.L) K wb wcap nb ncap 0) (hkv : ¬ KV nb) (hne : ∀ k, (k = bb ∨ k = wb ∨ k = nb) → k ≠ t ∧ k ≠ pp ∧ k ≠ mb)
    (p : Nat) (hp : M < p ∧ p < N) (hu : usedP N Bz M T.L (p : Int) = false) (h3 : w3 = (((w.setCell ⟨nb, p / 8, none⟩ (B (flip8 ((cat M T.L).getD (p / 8) 0) (p % 8)))).drewN k0).alloc (rowObj 5 (zeros Bz)))) (hm : PMap w2 mb N (upd F p (some (.slice (some ⟨w.heap.size, 0, none⟩) Bz Bz)))) (hg : w3.grownBy w2 (some mb)) : PgD pp t q g s log N Bz M L { T with L := upd (turnP Bz T.L p) p (zeros Bz), W := upd T.W p true } Dw K true w w2 := by
  obtain ⟨W1, hW1⟩ : ∃ W1, (w.setCell ⟨nb, p / 8, none⟩ (B (flip8 ((cat M T.L).getD (p / 8) 0) (p % 8)))).drewN k0 = W1 := ⟨_, rfl⟩
  have hz1 : W1.heap.size = w.heap.size := by rw [← hW1]; exact sc_size _ _ _
  have hh1 : ∀ k : Nat, W1.heap[k]? = (w.setCell ⟨nb, p / 8, none⟩ (B (flip8 ((cat M T.L).getD (p / 8) 0) (p % 8)))).heap[k]? := fun k => by rw [← hW1]; rfl
  rw [hW1] at h3
  have hnm := (hne nb (.inr (.inr rfl))).2.2
  have hz3 : w3.heap.size = w.heap.size + 1 := by rw [h3]; simp [hz1]
  have hsz := hg.size
  have hml := (h.KD mb ht.mK).2.2
  have hb3 : Below W1.heap.size W1 w3 := by rw [h3]; exact (Below.refl _ _).alloc (Nat.le_refl _) _
  have hblk : ∀ k, k < w.heap.size → k ≠ mb → w2.heap[k]? = W1.heap[k]? := fun k hk hn => (hg.block k (by omega) (fun e => hn (Option.some.inj e))).trans (hb3.block k (by omega))
  have hrow : Blk w2 w.heap.size 5 (zeros Bz) := by
    have e1 : Blk w3 W1.heap.size 5 (zeros Bz) := by rw [h3]; exact Blk.new W1 5 (zeros Bz)
    rw [hz1] at e1
    exact (hg.block _ (by omega) (fun e => by have := Option.some.inj e; omega)).trans e1
  have hut := fun j => usedP_turn h.dT p hp j
  have hlow : ∀ k, k < M → upd (turnP Bz T.L p) p (zeros Bz) k = turnP Bz T.L p k := fun k hk => upd_other _ _ _ _ (by omega)
  have hdt := h.dT.turn p hp.2
  have huse := fun j => (usedP_congr (L' := upd (turnP Bz T.L p) p (zeros Bz)) hdt hlow j).trans (hut j)
  refine ⟨fun k => K k ∨ k = w.heap.size, ?_, fun k hk => hk.imp (fun x => x) (fun e => by omega), ?_⟩
  · refine h.turned (X := fun k => k = w.heap.size) ht hba hkv hne p hp (by omega) (fun k hk hn hm => ?_) ((hblk nb (h.KD nb hba.inK.2.2).2.2 hnm).trans (hh1 nb)) hm (fun k e => by omega) rfl rfl ((upd_other _ _ _ _ (by omega)).trans (turnP_hi h.dT p hp.2 M (Nat.le_refl _))) hlow (hdt.upd _ _ (zeros_length _)) (fun k v hv => ?_) (fun k hk => ?_) (fun k hk hu' hw => ?_)
    · rw [hblk k hk hm, hh1]; exact sc_other _ _ _ _ _ hn
    · by_cases e : k = p
      · subst e
        rw [upd_same] at hv
        cases hv
        refine .inr ⟨w.heap.size, Bz, rfl, ?_, rfl⟩
        show Rd w2 _ _ _ (upd (turnP Bz T.L k) k (zeros Bz) k)
        rw [upd_same]
        exact hrow.all' Bz Bz (zeros_length _) (Nat.le_refl _)
      · rw [upd_other _ _ _ _ e] at hv
        refine .inl ⟨hv, ?_⟩
        have hkM : M ≤ k := by
          have hkN : k < N := by
            rcases Nat.lt_or_ge k N with h' | h'
            · exact h'
            · obtain ⟨es, clock, _, _, hno, _⟩ := ht.map
              rw [hno k h'] at hv; cases hv
          have h1 := ht.keys k hkN
          rw [hv] at h1
          cases hus : usedP N Bz M T.L (k : Int)
          · rw [hus] at h1; cases h1
          · obtain ⟨q', e', h2, h3⟩ := used_nat hus; omega
        show upd (turnP Bz T.L p) p (zeros Bz) k = T.L k
        rw [upd_other _ _ _ _ e]
        exact turnP_hi h.dT p hp.2 k hkM
    · show ((upd F p _) k).isSome = (usedP N Bz M (upd (turnP Bz T.L p) p (zeros Bz)) (k : Int) && (upd T.W p true) k)
      rw [huse]
      by_cases e : k = p
      · subst e
        rw [upd_same, upd_same, if_pos rfl, hu]
        rfl
      · rw [upd_other _ _ _ _ e, upd_other _ _ _ _ e, if_neg (by omega)]
        exact ht.keys k hk
    · have hu2 : usedP N Bz M (upd (turnP Bz T.L p) p (zeros Bz)) (k : Int) = true := hu'
      rw [huse] at hu2
      have hw' : upd T.W p true k = false := hw
      have hkp : k ≠ p := fun e => by
        subst e
        rw [upd_same] at hw'
        cases hw'
      rw [if_neg (by omega)] at hu2
      rw [upd_other _ _ _ _ hkp] at hw'
      have hkM : M ≤ k := by obtain ⟨q', e', h2, h3⟩ := used_nat hu2; omega
      show upd (turnP Bz T.L p) p (zeros Bz) k = L k
      rw [upd_other _ _ _ _ hkp, turnP_hi h.dT p hp.2 k hkM]
      exact ht.same k hk hu2 hw'
  · have hf1 : Fr (fun k => K k ∨ k = q) w W1 := by rw [← hW1]; exact ((Fr.refl (fun k => K k ∨ k = q) w).setCell (.inl (.inl hba.inK.2.2)) _).trans (Fr.of (below_drewN (Below.refl _ _) k0))
    exact (hf1.trans (Fr.of hb3)).grown hg (fun k e => by cases e; exact .inl (.inl ht.mK))
theorem Take_nil (w : World) : Calls Tryz.prog 19 #[.pointer none] w fun e w' => e = .returned (.tuple #[.int .i64 0, .int .i64 3]) ∧ w = w' := by
  have HR := Lib.hid (tready_nil w)
  go_enter Tryz.func19, Tryz.ntmps19
  go_wp2_with fail
  refine HR.out.mono ?_
  rintro e w1 ⟨rfl, rfl⟩
  go_wp2
  go_ret2
  exact ⟨rfl, rfl⟩
set_option maxHeartbeats 4000000 in
theorem tTake_any (w : World) (pp t q g : Nat) (s : S) (log N Bz M : Nat) (L : Nat → List UInt8) (T : TX) (Dw K : Nat → Prop) (ld : Bool) (h : Pg w pp t q g s log N Bz M L T Dw K ld) :
    Calls Tryz.prog 19 #[.pointer (some ⟨t, 0, none⟩)] w fun e w' => e = .returned (.tuple #[.int .i64 (T.take N Bz M).2.1, .int .i64 (T.take N Bz M).2.2]) ∧ PgD pp t q g s log N Bz M L (T.take N Bz M).1 Dw K false w w' := by
  have HR := Lib.hid (tready_any w pp t q g s log N Bz M L T Dw K ld h)
  have HP := Lib.hid h
  have hs := h.sizes
  have hMB : M * Bz ≤ 100000 := by
    have := h.hM
    have h1 : 8 * (M * Bz) ≤ N + 8 * Bz := by
      rw [← this]
      unfold mapN
      have := Nat.div_mul_le_self (N + 8 * Bz - 1) (8 * Bz)
      have e : (N + 8 * Bz - 1) / (8 * Bz) * (8 * Bz) = 8 * ((N + 8 * Bz - 1) / (8 * Bz) * Bz) := by rw [Nat.mul_left_comm]
      omega
    omega
  unfold TX.take
  cases hd : T.done
  · rw [hd] at HR
    have HLD := Lib.hid (load_any w pp t q g s log N Bz M L T Dw K ld h hd)
    obtain ⟨r, hlow⟩ := Low.ex (M * Bz) (cat M T.L) _ (M + 1) (Nat.le_refl _)
    have hfind := low_find h.dT hlow
    have HDT := Lib.hid h.dT
    have HHN := Lib.hid h.hN
    have HHB := Lib.hid h.hB
    have HHM := Lib.hid h.hM
    have HLW := Lib.hid hlow
    have hrl : r ≤ 1000000 := by
      rcases Nat.lt_or_ge r 1000001 with h' | h'
      · omega
      · have := hlow.2.1 1000000 (by omega) (by omega)
        omega
    rw [hfind]
    simp only [Bool.false_eq_true, if_false]
    by_cases hrN : r < N
    · rw [if_pos hrN]
      have hr1 : M < r := hlow.1
      have hpl := page_lt h.dT r hrN
      have hus : usedP N Bz M T.L (r : Int) = false := by
        rw [bit_used h.dT r hr1 hrN]
        rcases hlow.2.2 with h3 | h3
        · omega
        · exact h3
      have hib : (decide ((M : Int) < (r : Int)) && decide ((r : Int) < (N : Int))) = true := by simp; omega
      have HUS := Lib.hid hus
      have HIB := Lib.hid hib
      clear h hfind hlow hus hib
      go_enter Tryz.func19, Tryz.ntmps19
      go_wp2_with fail
      refine HR.out.mono ?_
      rintro e w1 ⟨rfl, rfl⟩
      go_wp2_with fail
      refine HLD.out.mono ?_
      rintro e w2 ⟨rfl, K2, hp2, hk2, hf2⟩
      obtain ⟨KV, mb, ro, F, bb, wb, wcap, nb, ncap, ht, hba, hkv, hne⟩ := hp2.bits hd
      obtain ⟨c0, c1, c2, _⟩ := txr_cells ht.row
      have HFP := Lib.hid (fun m => (firstPage_any (w2.drewN m) pp q g _ s log false Dw hp2.rowP (hp2.wal.drewN m)).mono (fun e w' (h : e = .returned (.int .i64 ((mapN (nbl s log) s.bytes + 1 : Nat) : Int)) ∧ ∃ k, w' = (w2.drewN m).drewN k) => (⟨h.1, by obtain ⟨k, hk⟩ := h.2; exact ⟨m + k, by rw [hk, World.drewN_drewN]⟩⟩ : e = .returned (.int .i64 ((mapN (nbl s log) s.bytes + 1 : Nat) : Int)) ∧ ∃ k, w' = w2.drewN k)))
      rw [HHN.out, HHB.out, HHM.out] at HFP
      have HLO := Lib.hid (fun m => lowest_at w2 bb nb (M * Bz) ncap _ _ hba.row hba.rd (M + 1) (by omega) hMB r HLW.out m)
      have HHAS := Lib.hid (fun m => phas_any (w2.drewN m) pp q g _ s log false Dw hp2.rowP (hp2.wal.drewN m) (r : Int))
      rw [HHN.out, HHB.out, HHM.out, HIB.out] at HHAS
      obtain ⟨hcl, hfz⟩ := hba.cell (r / 8) hpl
      have HTU := Lib.hid (fun m => turn_any (w2.drewN m) bb nb (M * Bz) ncap _ _ r hba.row hba.rd.cap hcl hfz hpl (by omega))
      have HP2 := Lib.hid hp2
      have HK2 := Lib.hid hk2
      have HF2 := Lib.hid hf2
      have HTX := Lib.hid ht
      have HBA := Lib.hid hba
      have HKV := Lib.hid hkv
      have HNE := Lib.hid hne
      obtain ⟨M1, hM1⟩ : ∃ M1, M + 1 = M1 := ⟨_, rfl⟩
      rw [hM1] at HFP HLO
      clear hp2 hk2 hf2 ht hba hkv hne hcl hfz hM1
      go_wp2_with fail
      go_quiet (first | (go_at_call 62; exact HFP.out _) | (go_at_call 61; exact HLO.out _))
      go_wp2_with fail
      refine (HHAS.out _).mono ?_
      rintro e w3 ⟨rfl, k3, rfl⟩
      rw [World.drewN_drewN]
      go_wp2_with fail
      refine (HTU.out _).mono ?_
      rintro e w4 ⟨⟨ev, rfl⟩, k4, hw4⟩
      obtain ⟨k6, hw4'⟩ : ∃ k6, w4 = (w2.setCell ⟨nb, r / 8, none⟩ (B (flip8 ((cat M T.L).getD (r / 8) 0) (r % 8)))).drewN k6 := ⟨nq + k3 + k4, hw4.trans (World.drewN_drewN (w2.setCell ⟨nb, r / 8, none⟩ (B (flip8 ((cat M T.L).getD (r / 8) 0) (r % 8)))) (nq + k3) k4)⟩
      have hn4 := HNE.out nb (.inr (.inr rfl))
      have hoth : ∀ k : Nat, k ≠ nb → w4.heap[k]? = w2.heap[k]? := fun k hk => by rw [hw4']; exact sc_other _ _ _ _ _ hk
      have hz4 : w4.heap.size = w2.heap.size := by rw [hw4']; exact sc_size _ _ _
      have d2 : w4.cell? ⟨t, 2, none⟩ = some (.map (some mb)) := (World.cell?_of_block (a := ⟨t, 2, none⟩) (hoth t (fun e => hn4.1 e.symm))).trans c2
      have d0 : w4.cell? ⟨t, 0, none⟩ = some (.pointer (some ⟨pp, 0, none⟩)) := (World.cell?_of_block (a := ⟨t, 0, none⟩) (hoth t (fun e => hn4.1 e.symm))).trans c0
      have hnbK := HBA.out.inK.2.2
      have hwal4 : WalAt w4 q g s log false Dw := HP2.out.wal.keepF (by omega) fun k hk => hoth k fun e => by
        subst e
        rcases hk with hk | hk
        · exact (HP2.out.KD k hnbK).1 hk
        · exact (HP2.out.KD k hnbK).2.1 hk
      have HBY := Lib.hid (fun m => tBytes_at (w4.drewN m) pp t q g _ s log Bz Dw d0 ((hoth pp (fun e => hn4.2.1 e.symm)).trans HP2.out.rowP) (hwal4.drewN m) HHB.out)
      have HM4 := Lib.hid (HTX.out.map.keep (hoth mb (fun e => hn4.2.2 e.symm)))
      have HW4 := Lib.hid hw4'
      have HTL := Lib.hid (HP2.out.KD t HP2.out.inK.2).2.2
      have HML := Lib.hid (HP2.out.KD mb HTX.out.mK).2.2
      have HMT := Lib.hid HTX.out.mt.1
      have HSZ := Lib.hid hs
      clear hw4 hw4' hn4 hoth hz4 hwal4 hnbK
      go_wp2_with fail
      refine wp_region_held_drew (S := fun W => W.cell? ⟨t, 2, none⟩ = some (.map (some mb))) (by kernel_rfl) (d2) (fun hHeld => ?_)
      refine wpAnyH_take (i := 0) (oi := { dst := some 40, op := Go.Op.move (Go.Operand.tmp 0), type := 35, pos := "pages.go:189", after := #[], guard := none }) (v := ?v0) rfl (by kernel_rfl) (by kernel_rfl) (by kernel_rfl) (fun _ _ _ h => h) (Or.inl ⟨by rfl, ?hy0⟩) hHeld ?_
      case hy0 => (intro w hSw; (try dsimp only at hSw); go_simp; first | done | with_reducible rfl)
      try simp only [Act.put, List.setIfInBounds_toArray, List.set_cons_zero, List.set_cons_succ]
      refine wpAnyH_take (i := 1) (oi := { dst := some 41, op := Go.Op.nilCheck (Go.Operand.tmp 40), type := 0, pos := "pages.go:189", after := #[{ on := 0, ground := Go.Ground.data }], guard := none }) (v := ?v1) rfl (by kernel_rfl) (by kernel_rfl) (by kernel_rfl) (fun _ _ _ h => h) (Or.inl ⟨by rfl, ?hy1⟩) hHeld ?_
      case hy1 => (intro w hSw; (try dsimp only at hSw); go_simp; first | done | with_reducible rfl)
      try simp only [Act.put, List.setIfInBounds_toArray, List.set_cons_zero, List.set_cons_succ]
      refine wpAnyH_take (i := 2) (oi := { dst := some 42, op := Go.Op.fieldAddr 104 (Go.Operand.tmp 41) 2, type := 0, pos := "pages.go:189", after := #[{ on := 1, ground := Go.Ground.data }], guard := none }) (v := ?v2) rfl (by kernel_rfl) (by kernel_rfl) (by kernel_rfl) (fun _ _ _ h => h) (Or.inl ⟨by rfl, ?hy2⟩) hHeld ?_
      case hy2 => (intro w hSw; (try dsimp only at hSw); go_simp; first | done | with_reducible rfl)
      try simp only [Act.put, List.setIfInBounds_toArray, List.set_cons_zero, List.set_cons_succ]
      refine wpAnyH_take (i := 3) (oi := { dst := some 43, op := Go.Op.load 97 (Go.Operand.tmp 42), type := 97, pos := "pages.go:189", after := #[{ on := 2, ground := Go.Ground.data }], guard := none }) (v := ?v3) rfl (by kernel_rfl) (by kernel_rfl) (by kernel_rfl) (fun _ _ _ h => h) (Or.inl ⟨by rfl, ?hy3⟩) hHeld ?_
      case hy3 => (intro w hSw; (try dsimp only at hSw); go_simp; first | done | with_reducible rfl)
      try simp only [Act.put, List.setIfInBounds_toArray, List.set_cons_zero, List.set_cons_succ]
      refine wpAnyH_take (i := 4) (oi := { dst := some 44, op := Go.Op.move (Go.Operand.tmp 6), type := 3, pos := "pages.go:189", after := #[], guard := none }) (v := ?v4) rfl (by kernel_rfl) (by kernel_rfl) (by kernel_rfl) (fun _ _ _ h => h) (Or.inl ⟨by rfl, ?hy4⟩) hHeld ?_
      case hy4 => (intro w hSw; (try dsimp only at hSw); go_simp; first | done | with_reducible rfl)
      try simp only [Act.put, List.setIfInBounds_toArray, List.set_cons_zero, List.set_cons_succ]
      refine wpAnyH_take (i := 5) (oi := { dst := some 45, op := Go.Op.move (Go.Operand.tmp 0), type := 35, pos := "pages.go:189", after := #[], guard := none }) (v := ?v5) rfl (by kernel_rfl) (by kernel_rfl) (by kernel_rfl) (fun _ _ _ h => h) (Or.inl ⟨by rfl, ?hy5⟩) hHeld ?_
      case hy5 => (intro w hSw; (try dsimp only at hSw); go_simp; first | done | with_reducible rfl)
      try simp only [Act.put, List.setIfInBounds_toArray, List.set_cons_zero, List.set_cons_succ]
      refine wpAnyH_ready (rs := [6]) (by kernel_rfl) (by simp) ?_
      refine AllReadyH.cons (o := { dst := some 46, op := Go.Op.call { callee := Go.Callee.value (Go.Operand.func 35), args := #[Go.Operand.tmp 45], argTypes := #[35] }, type := 3, pos := "pages.go:189", after := #[{ on := 5, ground := Go.Ground.data }], guard := none }) rfl (fun K hK => ?_) AllReadyH.nil
      go_simp
      refine (HBY.out 1).mono ?_
      rintro e w5 ⟨rfl, k5, rfl⟩
      rw [World.drewN_drewN]
      obtain ⟨W5, hW5⟩ : ∃ W5, w4.drewN (1 + k5) = W5 := ⟨_, rfl⟩
      have hz5 : W5.heap.size = w2.heap.size := by rw [← hW5, HW4.out]; exact sc_size _ _ _
      have d5 : W5.cell? ⟨t, 2, none⟩ = some (.map (some mb)) := by rw [← hW5]; exact d2
      have hm5 : PMap W5 mb N F := HM4.out.keep (by rw [← hW5]; rfl)
      have hmk := make_zeros Bz (by have := HSZ.out; omega) W5
      rw [hz5] at hmk
      obtain ⟨W6, hW6⟩ : ∃ W6, W5.alloc (rowObj 5 (zeros Bz)) = W6 := ⟨_, rfl⟩
      rw [hW6] at hmk
      have hb6 : Below W5.heap.size W5 W6 := by rw [← hW6]; exact (Below.refl _ _).alloc (Nat.le_refl _) _
      have htl5 : t < W5.heap.size := by rw [hz5]; exact HTL.out
      have d6 : W6.cell? ⟨t, 2, none⟩ = some (.map (some mb)) := (hb6.cell (p := ⟨t, 2, none⟩) htl5).trans d5
      obtain ⟨w7, hput, hpm, hgr⟩ := (hm5.keep (hb6.block mb (by rw [hz5]; exact HML.out))).put r hrN (by have := HSZ.out; omega) (.slice (some ⟨w2.heap.size, 0, none⟩) Bz Bz)
      have d7 : w7.cell? ⟨t, 2, none⟩ = some (.map (some mb)) := (World.cell?_of_block (a := ⟨t, 2, none⟩) (hgr.block t (Nat.lt_of_lt_of_le htl5 hb6.size) (fun e => HMT.out (Option.some.inj e).symm))).trans d6
      have HPM := Lib.hid hpm
      have HGR := Lib.hid hgr
      have HW5 := Lib.hid hW5
      have HW6 := Lib.hid hW6
      rw [hW5]
      clear hpm hgr hm5 hb6 hW6 hz5 hW5
      go_wp2_with fail
      refine hK.out _ _ (d5) (fun hHeld => ?_)
      clear hK K
      try simp only [Act.put, List.setIfInBounds_toArray, List.set_cons_zero, List.set_cons_succ]
      refine wpAnyH_ready (rs := [7]) (by kernel_rfl) (by simp) ?_
      refine AllReadyH.cons (o := { dst := some 47, op := Go.Op.makeSlice 39 (Go.Operand.tmp 46) (Go.Operand.tmp 46), type := 39, pos := "pages.go:189", after := #[{ on := 6, ground := Go.Ground.data }, { on := 6, ground := Go.Ground.data }], guard := none }) rfl (fun K hK => ?_) AllReadyH.nil
      go_simp
      refine hK.out _ _ (d6) (fun hHeld => ?_)
      clear hK K
      try simp only [Act.put, List.setIfInBounds_toArray, List.set_cons_zero, List.set_cons_succ]
      refine wpAnyH_ready (rs := [8]) (by kernel_rfl) (by simp) ?_
      refine AllReadyH.cons (o := { dst := none, op := Go.Op.mapUpdate 97 (Go.Operand.tmp 43) (Go.Operand.tmp 44) (Go.Operand.tmp 47), type := 0, pos := "pages.go:189", after := #[{ on := 3, ground := Go.Ground.data }, { on := 4, ground := Go.Ground.data }, { on := 7, ground := Go.Ground.data }, { on := 6, ground := Go.Ground.chain }, { on := 0, ground := Go.Ground.phase }, { on := 1, ground := Go.Ground.phase }, { on := 2, ground := Go.Ground.phase }, { on := 3, ground := Go.Ground.phase }, { on := 4, ground := Go.Ground.phase }, { on := 5, ground := Go.Ground.phase }, { on := 6, ground := Go.Ground.phase }, { on := 7, ground := Go.Ground.phase }], guard := none }) rfl (fun K hK => ?_) AllReadyH.nil
      go_simp
      refine hK.out _ _ (d7) (fun hHeld => ?_)
      clear hK K
      try simp only [Act.put, List.setIfInBounds_toArray, List.set_cons_zero, List.set_cons_succ]
      refine wpAnyH_done (by kernel_rfl) ?_ _
      go_wp2
      go_ret2
      have hfin := HP2.out.took (w3 := W6) (k0 := k6 + (1 + k5)) HTX.out HBA.out HKV.out HNE.out r ⟨hr1, hrN⟩ HUS.out (by rw [← HW6.out, ← HW5.out, HW4.out, World.drewN_drewN]) HPM.out HGR.out
      rw [hd] at hfin
      exact ⟨rfl, PgD.step HK2.out HF2.out hfin.weak⟩
    · rw [if_neg hrN]
      have hib : (decide ((M : Int) < (r : Int)) && decide ((r : Int) < (N : Int))) = false := by simp; omega
      have HIB := Lib.hid hib
      clear h hfind hlow hib
      go_enter Tryz.func19, Tryz.ntmps19
      go_wp2_with fail
      refine HR.out.mono ?_
      rintro e w1 ⟨rfl, rfl⟩
      go_wp2_with fail
      refine HLD.out.mono ?_
      rintro e w2 ⟨rfl, K2, hp2, hk2, hf2⟩
      obtain ⟨KV, mb, ro, F, bb, wb, wcap, nb, ncap, ht, hba, hkv, hne⟩ := hp2.bits hd
      obtain ⟨c0, c1, c2, _⟩ := txr_cells ht.row
      have HFP := Lib.hid (fun m => (firstPage_any (w2.drewN m) pp q g _ s log false Dw hp2.rowP (hp2.wal.drewN m)).mono (fun e w' (h : e = .returned (.int .i64 ((mapN (nbl s log) s.bytes + 1 : Nat) : Int)) ∧ ∃ k, w' = (w2.drewN m).drewN k) => (⟨h.1, by obtain ⟨k, hk⟩ := h.2; exact ⟨m + k, by rw [hk, World.drewN_drewN]⟩⟩ : e = .returned (.int .i64 ((mapN (nbl s log) s.bytes + 1 : Nat) : Int)) ∧ ∃ k, w' = w2.drewN k)))
      rw [HHN.out, HHB.out, HHM.out] at HFP
      have HLO := Lib.hid (fun m => lowest_at w2 bb nb (M * Bz) ncap _ _ hba.row hba.rd (M + 1) (by omega) hMB r HLW.out m)
      have HHAS := Lib.hid (fun m => phas_any (w2.drewN m) pp q g _ s log false Dw hp2.rowP (hp2.wal.drewN m) (r : Int))
      rw [HHN.out, HHB.out, HHM.out, HIB.out] at HHAS
      have HP2 := Lib.hid hp2
      have HK2 := Lib.hid hk2
      have HF2 := Lib.hid hf2
      obtain ⟨M1, hM1⟩ : ∃ M1, M + 1 = M1 := ⟨_, rfl⟩
      rw [hM1] at HFP HLO
      clear hp2 hk2 hf2 ht hba hkv hne hM1
      go_wp2_with fail
      go_quiet (first | (go_at_call 62; exact HFP.out _) | (go_at_call 61; exact HLO.out _))
      go_wp2_with fail
      refine (HHAS.out _).mono ?_
      rintro e w3 ⟨rfl, k3, rfl⟩
      rw [World.drewN_drewN]
      go_wp2
      go_ret2
      exact ⟨rfl, PgD.step HK2.out HF2.out (PgD.still HP2.out.weak (below_drewN (Below.refl _ _) _))⟩
  · rw [hd] at HR
    clear h
    simp only [if_true]
    go_enter Tryz.func19, Tryz.ntmps19
    go_wp2_with fail
    refine HR.out.mono ?_
    rintro e w1 ⟨rfl, rfl⟩
    go_wp2
    go_ret2
    exact ⟨rfl, PgD.refl HP.out.weak⟩
end Go.Proofs.YtephmcbofcfpmaaGreat

set_option maxRecDepth 8000
set_option linter.unusedSimpArgs false
set_option linter.unusedVariables false
namespace Go.Proofs.YtephmcbofcfpmaaGreat
open Go.RowKit Go.Bs Go.Dk Rp

structure Te where
  num : Nat
  blk : Nat
  off : Nat
  len : Nat
  cap : Nat
  bs : List UInt8
def teC (t : Te) : List Value := [.int .i64 (t.num : Int), .slice (some ⟨t.blk, t.off, none⟩) t.len t.cap]
def teP (t : Te) : Ch := ((t.num : Int), t.bs)
/-- bytes of a change. -/
structure TeAt (w : World) (t : Te) : Prop where
  rd : Rd w (some ⟨t.blk, t.off, none⟩) t.len t.cap t.bs
  pos : 0 < t.len
  num : t.num ≤ 1000000
theorem TeAt.lt {w : World} {t : Te} (h : TeAt w t) : t.blk < w.heap.size := by
  obtain ⟨g, o, e, hg, _⟩ := h.rd.cells h.pos
  cases e
  exact hg
theorem TeAt.keep {w w' : World} {t : Te} (h : TeAt w t) (hs : w.heap.size ≤ w'.heap.size) (hk : w'.heap[t.blk]? = w.heap[t.blk]?) : TeAt w' t :=
  ⟨Rd.keepB h.rd hs (fun a ha => by injection ha with ha; subst ha; exact hk), h.pos, h.num⟩
structure OwnG (w : World) (base : Nat) (v : Value) (L : List Te) : Prop where
  own : w.ownsRow base 169 2 v L.length (L.flatMap teC)
  at_ : ∀ t ∈ L, TeAt w t ∧ v.ownBlock ≠ some t.blk
theorem OwnG.nil (w : World) (base : Nat) : OwnG w base (.slice none 0 0) [] := ⟨⟨rfl, .inl ⟨rfl, rfl⟩⟩, fun t h => (by cases h)⟩
theorem OwnG.block {w : World} {base : Nat} {v : Value} {L : List Te} (h : OwnG w base v L) : ∀ k, v.ownBlock = some k → base ≤ k ∧ k < w.heap.size := fun k e => by
  rcases h.own.2 with ⟨rfl, _⟩ | ⟨g, cap, cur, rfl, hbg, hg, _⟩
  · cases e
  · have : g = k := by simpa [Value.ownBlock] using e
    subst this
    exact ⟨hbg, (Array.getElem?_eq_some_iff.1 hg).1⟩
theorem OwnG.keep {w w' : World} {base : Nat} {v : Value} {L : List Te} (h : OwnG w base v L) (hb : Below w.heap.size w w') : OwnG w' base v L :=
  ⟨ownsRow_keepB h.own (fun k e => hb.block k (h.block k e).2), fun t ht => ⟨(h.at_ t ht).1.keep hb.size (hb.block _ (h.at_ t ht).1.lt), (h.at_ t ht).2⟩⟩
theorem OwnG.form {w : World} {base : Nat} {v : Value} {L : List Te} (h : OwnG w base v L) : ∃ A c, v = .slice A L.length c ∧ L.length ≤ c ∧ (0 < L.length → ∃ g, A = some ⟨g, 0, none⟩ ∧ v.ownBlock = some g ∧ g < w.heap.size ∧ ∀ j u, (L.flatMap teC)[j]? = some u → w.cell? ⟨g, j, none⟩ = some u) := by
  rcases h.own.2 with ⟨rfl, h0⟩ | ⟨g, cap, cur, rfl, _, hg, hn, _, hsz, htk⟩
  · exact ⟨none, 0, by rw [h0], by omega, fun h => by omega⟩
  · refine ⟨_, cap, rfl, hn, fun _ => ⟨g, rfl, rfl, (Array.getElem?_eq_some_iff.1 hg).1, fun j u hj => ?_⟩⟩
    rw [cell_of_row w g _ _ 169 (0, 0) hg]
    rw [← htk, List.getElem?_take] at hj
    split at hj
    · rw [Array.getElem?_toList] at hj; exact hj
    · cases hj
theorem teC_one (L : List Te) : ∀ u ∈ L.flatMap teC, u.oneCell' = true := by
  intro u hu
  obtain ⟨t, _, ht⟩ := List.mem_flatMap.1 hu
  simp [teC] at ht
  rcases ht with rfl | rfl <;> rfl
theorem teC_len (L : List Te) : (L.flatMap teC).length = L.length * 2 := by
  induction L with
  | nil => rfl
  | cons t L ih => simp [teC] at ih ⊢; omega
/-- changes are put behind. -/
theorem OwnG.app {w : World} {base : Nat} {v : Value} {L : List Te} (h : OwnG w base v L) (hbase : base ≤ w.heap.size) (L2 : List Te) (h0 : 0 < L2.length) (hL : L.length + L2.length ≤ 1000000) (sb c : Nat) (hsrc : ∀ j u, (L2.flatMap teC)[j]? = some u → w.cell? ⟨sb, j, none⟩ = some u) (h2 : ∀ t ∈ L2, TeAt w t ∧ v.ownBlock ≠ some t.blk) :
    ∃ v' w', (Builtin.append_ #[115, 115] 115 #[v, .slice (some ⟨sb, 0, none⟩) L2.length c]).run Tryz.prog w = .ok v' w' ∧ OwnG w' base v' (L ++ L2) ∧ Below base w w' := by
  obtain ⟨i0, hi, hz0, hz1, hz2⟩ := info_parts ch_info
  obtain ⟨g, cap, w', hrun, hown, hgr, hat, hlt⟩ := run_append_lies (P := Tryz.prog) w 115 115 base 169 i0 _ 2 32 Tryz.underlying115 hi hz0 hz1 hz2 rfl (by omega) v L.length _ h.own ⟨sb, 0, none⟩ L2.length c (L2.flatMap teC) (teC_len L2)
    (fun j u hj => by rw [addr_add, Nat.zero_add]; exact hsrc j u hj) (teC_one L2) h0 (by unfold maxLen; omega) (by omega) hbase _ rfl
  have hgn : ∀ k, k < w.heap.size → v.ownBlock ≠ some k → g ≠ k := fun k hk hne e => by
    subst e
    rcases hat with e | e
    · exact hne e
    · omega
  have hall : ∀ t, TeAt w t ∧ v.ownBlock ≠ some t.blk → TeAt w' t ∧ (Value.slice (some ⟨g, 0, none⟩) (L.length + L2.length) cap).ownBlock ≠ some t.blk := fun t ht =>
    ⟨ht.1.keep hgr.size (hgr.block _ ht.1.lt (fun e => ht.2 e.symm)), fun e => hgn _ ht.1.lt ht.2 (by simpa [Value.ownBlock] using e)⟩
  refine ⟨_, w', hrun, ⟨by rw [List.flatMap_append, List.length_append]; exact hown, fun t ht => ?_⟩, ?_⟩
  · rcases List.mem_append.1 ht with ht | ht
    · exact hall t (h.at_ t ht)
    · exact hall t (h2 t ht)
  · exact ⟨hgr.os, hgr.tape, hgr.output, hgr.size, fun k hk => hgr.block k (by omega) (fun e => by have := (h.block k e.symm).1; omega)⟩
/-- one change more, out of a row that is made for it. -/
theorem OwnG.one {w : World} {base : Nat} {v : Value} {L : List Te} (h : OwnG w base v L) (hbase : base ≤ w.heap.size) (hL : L.length ≤ 900000) (t : Te) (ht : TeAt w t ∧ v.ownBlock ≠ some t.blk) (X : World) (hX : w.alloc (.cells #[.int .i64 (t.num : Int), .slice (some ⟨t.blk, t.off, none⟩) t.len t.cap] 169) = X) :
    ∃ v' w', (Builtin.append_ #[115, 115] 115 #[v, .slice (some ⟨w.heap.size, 0, none⟩) 1 1]).run Tryz.prog X = .ok v' w' ∧ OwnG w' base v' (L ++ [t]) ∧ Below base w w' := by
  have hXb : Below w.heap.size w X := by rw [← hX]; exact (Below.refl _ _).alloc (Nat.le_refl _) _
  have hXs : X.heap.size = w.heap.size + 1 := by rw [← hX, World.size_alloc]
  have hXn : X.heap[w.heap.size]? = some (.cells (teC t).toArray 169 (0, 0)) := by rw [← hX]; exact heap_alloc_new w _
  obtain ⟨v', w', hrun, ho, hb⟩ := (h.keep hXb).app (by omega) [t] (by simp) (by simp; omega) w.heap.size 1 (fun j u hj => by
    rw [cell_of_row X w.heap.size j _ 169 (0, 0) hXn]
    rw [← hj]
    simp) (fun t' ht' => by
      have e : t' = t := by simpa using ht'
      subst e
      exact ⟨ht.1.keep hXb.size (hXb.block _ ht.1.lt), ht.2⟩)
  exact ⟨v', w', hrun, ho, (hXb.mono hbase).trans hb⟩
/-- as a wal's changes. -/
theorem OwnG.chs {w : World} {base : Nat} {v : Value} {L : List Te} (h : OwnG w base v L) : ∃ A c, v = .slice A L.length c ∧ Chs w A L.length c (L.map teP) (fun k => (v.ownBlock = some k ∨ ∃ t ∈ L, t.blk = k) ∧ k < w.heap.size) := by
  obtain ⟨A, c, e, hc, hform⟩ := h.form
  refine ⟨A, c, e, by simp, hc, fun k hk => hk.2, fun j hj => ?_⟩
  obtain ⟨g, rfl, hog, hgl, hcell⟩ := hform (by omega)
  have hm : L[j] ∈ L := List.getElem_mem hj
  obtain ⟨ht, hne⟩ := h.at_ _ hm
  have hcc : chAt (L.map teP) j = ((L[j].num : Int), L[j].bs) := by simp [chAt, List.getD, List.getElem?_eq_getElem hj, teP]
  have hnum := ht.num
  refine ⟨g, 0, some ⟨L[j].blk, L[j].off, none⟩, L[j].len, L[j].cap, rfl, ⟨.inl hog, hgl⟩, ?_, ?_, ?_, ?_, ?_⟩
  · rw [hcc, Nat.zero_add]
    refine hcell _ _ ?_
    have := fm0 (fun t : Te => Value.int .i64 (t.num : Int)) (fun t : Te => Value.slice (some ⟨t.blk, t.off, none⟩) t.len t.cap) L j
    rw [List.getElem?_eq_getElem hj] at this
    exact this
  · rw [Nat.zero_add]
    refine hcell _ _ ?_
    have := fm1 (fun t : Te => Value.int .i64 (t.num : Int)) (fun t : Te => Value.slice (some ⟨t.blk, t.off, none⟩) t.len t.cap) L j
    rw [List.getElem?_eq_getElem hj] at this
    exact this
  · rw [hcc]; exact ⟨by show (-9223372036854775808 : Int) ≤ (L[j].num : Int); omega, by show (L[j].num : Int) ≤ 9223372036854775807; omega⟩
  · intro _ a e
    cases e
    exact ⟨.inr ⟨_, hm, rfl⟩, ht.lt⟩
  · rw [hcc]; exact ht.rd
end Go.Proofs.YtephmcbofcfpmaaGreat

