/- A page is read. Conditions: none. A page is given back. Conditions: none. -/
import Derived.Test.YtephmcbofcfpmaaGreatJ24
set_option maxRecDepth 8000
set_option linter.unusedSimpArgs false
set_option linter.unusedVariables false
namespace Go.Proofs.YtephmcbofcfpmaaGreat
open Go.RowKit Go.Bs Go.Dk Rp

theorem tRead_nil (w : World) (p : Int) : Calls Tryz.prog 23 #[.pointer none, .int .i64 p] w fun e w' => e = .returned (.tuple #[.slice none 0 0, .int .i64 3]) ∧ w = w' := by
  have HR := Lib.hid (tready_nil w)
  go_enter Tryz.func23, Tryz.ntmps23
  go_wp2_with fail
  refine HR.out.mono ?_
  rintro e w1 ⟨rfl, rfl⟩
  go_wp2
  go_ret2
  exact ⟨rfl, rfl⟩
/-- what was read, in memory of its own. -/
def RdW (w w' : World) (v : Value) (bs : List UInt8) : Prop := ∃ A n c, v = .slice A n c ∧ Rd w' A n c bs ∧ ∀ a, A = some a → w.heap.size ≤ a.block
theorem own_rdw {w w' : World} {base : Nat} {v : Value} {bs : List UInt8} (h : Bs.Own w' base 5 v bs) (hb : w.heap.size ≤ base) : RdW w w' v bs := by
  obtain ⟨A, c, e, hr⟩ := h.rd
  refine ⟨A, _, _, e, hr, fun a ha => ?_⟩
  rcases h.2 with ⟨e1, e2⟩ | ⟨g, cap, cur, e1, e2, e3⟩
  · rw [e1] at e
    injection e with h1
    rw [← h1] at ha
    cases ha
  · rw [e1] at e
    injection e with h1
    rw [← h1] at ha
    cases ha
    exact Nat.le_trans hb e2
set_option maxHeartbeats 4000000 in
theorem tRead_any (w : World) (pp t q g : Nat) (s : S) (log N Bz M : Nat) (L : Nat → List UInt8) (T : TX) (Dw K : Nat → Prop) (ld : Bool) (h : Pg w pp t q g s log N Bz M L T Dw K ld) (p : Int) :
    Calls Tryz.prog 23 #[.pointer (some ⟨t, 0, none⟩), .int .i64 p] w fun e w' => ∃ v, e = .returned (.tuple #[v, .int .i64 (T.read N Bz M p).2]) ∧ RdW w w' v (T.read N Bz M p).1 ∧ PgD pp t q g s log N Bz M L T Dw K false w w' := by
  have HR := Lib.hid (tready_any w pp t q g s log N Bz M L T Dw K ld h)
  have HP := Lib.hid h
  have hs := h.sizes
  have HNIL := Lib.hid (fun (w w' : World) => (⟨none, 0, 0, rfl, Rd.nil _ _ _, fun a ha => by cases ha⟩ : RdW w w' (.slice none 0 0) []))
  unfold TX.read
  cases hd : T.done
  · rw [hd] at HR
    have HF := Lib.hid (find_any w pp t q g s log N Bz M L T Dw K ld h hd p)
    obtain ⟨u, hu⟩ : ∃ u, usedP N Bz M T.L p = u := ⟨_, rfl⟩
    rw [hu] at HF ⊢
    cases u
    · simp only [Bool.false_or, Bool.not_false, if_true]
      clear h hu
      go_enter Tryz.func23, Tryz.ntmps23
      go_wp2_with fail
      refine HR.out.mono ?_
      rintro e w1 ⟨rfl, rfl⟩
      go_wp2_with fail
      refine HF.out.mono ?_
      rintro e w2 ⟨rfl, hp2⟩
      have HP2 := Lib.hid hp2
      clear hp2
      go_wp2
      go_ret2
      exact ⟨_, rfl, HNIL.out _ _, HP2.out⟩
    · simp only [Bool.false_or, Bool.not_true, Bool.false_eq_true, if_false]
      obtain ⟨n, rfl, hn1, hn2⟩ := used_nat hu
      have hw64 : (n : Int).toNat = n := by omega
      rw [hw64]
      have HU := Lib.hid hu
      have HL := Lib.hid (h.hL n hn2)
      have HBz := Lib.hid h.hB
      have HN := Lib.hid h.hN
      clear h hu hw64
      go_enter Tryz.func23, Tryz.ntmps23
      go_wp2_with fail
      refine HR.out.mono ?_
      rintro e w1 ⟨rfl, rfl⟩
      go_wp2_with fail
      refine HF.out.mono ?_
      rintro e w3 ⟨rfl, K2, hp2, hk2, hf2⟩
      obtain ⟨KV, bv, mb, ro, F, ht⟩ := hp2.tx hd
      obtain ⟨c0, _, c2, _, _, _⟩ := txr_cells ht.row
      obtain ⟨d0, _, _⟩ := pgr_cells hp2.rowP
      have hlk := ht.map.look true n (by omega)
      have HP2 := Lib.hid hp2
      have HK2 := Lib.hid hk2
      have HF2 := Lib.hid hf2
      have HTX := Lib.hid ht
      have HSZ : Hid (w.heap.size ≤ w3.heap.size) := Lib.hid hf2.size
      cases hF : F n with
      | some v =>
        obtain ⟨A, c, rfl, hrd, _⟩ := ht.vals n v hF
        rw [hF] at hlk
        have HCL := Lib.hid (cloneB_any (some ⟨A, 0, none⟩) Bz c (T.L n) w3 hrd (by omega) rfl)
        clear hp2 hk2 hf2 ht hF hrd
        go_wp2_with fail
        refine HCL.out.mono ?_
        rintro e w4 ⟨v4, rfl, ho4, hb4⟩
        have HO4 := Lib.hid ho4
        have HB4 := Lib.hid hb4
        clear ho4 hb4
        go_wp2
        go_ret2
        exact ⟨_, rfl, own_rdw HO4.out HSZ.out, PgD.step HK2.out HF2.out (PgD.still HP2.out.weak HB4.out)⟩
      | none =>
        rw [hF] at hlk
        have hkey := ht.keys n hn2
        rw [hF, HU.out] at hkey
        have hWn : T.W n = false := by
          cases hw : T.W n
          · rfl
          · rw [hw] at hkey; cases hkey
        have HSM := Lib.hid (ht.same n hn2 HU.out hWn)
        have HRD := Lib.hid (wRead_ok w3 q g s log Dw hp2.wal hp2.up n (by rw [HN.out]; exact hn2))
        rw [HBz.out] at HRD
        have HHD := Lib.hid (fun W => theed_ok W t)
        clear hp2 hk2 hf2 ht hF hkey hWn
        go_wp2_with fail
        refine HRD.out.mono ?_
        rintro e w4 ⟨rb, rfl, hblk, hrb, hw4, hf4⟩
        have HBL := Lib.hid hblk
        have HRBL := Lib.hid hrb
        have HW4 := Lib.hid hw4
        have HF4 := Lib.hid hf4
        clear hblk hrb hw4 hf4
        go_wp2_with fail
        refine (HHD.out _).mono ?_
        rintro e w5 ⟨rfl, rfl⟩
        go_wp2
        go_ret2
        refine ⟨_, rfl, ⟨_, _, _, rfl, ?_, fun a ha => ?_⟩, ?_⟩
        · rw [HSM.out, HL.out]
          exact HBL.out.all' Bz Bz (by rw [wl_len HP2.out.wal.disk.ok]; exact HBz.out) (Nat.le_refl _)
        · cases ha
          exact Nat.le_trans HSZ.out HRBL.out
        · exact ⟨K2, (HP2.out.weak.frq HW4.out HF4.out), HK2.out, HF2.out.step HF4.out fun k hk => .inl (.inr hk)⟩
  · rw [hd] at HR
    clear h
    simp only [Bool.true_or, if_true]
    go_enter Tryz.func23, Tryz.ntmps23
    go_wp2_with fail
    refine HR.out.mono ?_
    rintro e w1 ⟨rfl, rfl⟩
    go_wp2
    go_ret2
    exact ⟨_, rfl, HNIL.out _ _, PgD.refl HP.out.weak⟩
end Go.Proofs.YtephmcbofcfpmaaGreat

set_option maxRecDepth 8000
set_option linter.unusedSimpArgs false
set_option linter.unusedVariables false
namespace Go.Proofs.YtephmcbofcfpmaaGreat
open Go.RowKit Go.Bs Go.Dk Rp

theorem own_set {w w' : World} {base g n c : Nat} {bs : List UInt8} (h : Bs.Own w base 5 (.slice (some ⟨g, 0, none⟩) n c) bs) (i : Nat) (hi : i < n) (x : UInt8) (hw : w'.heap[g]? = (w.setCell ⟨g, i, none⟩ (B x)).heap[g]?) : Bs.Own w' base 5 (.slice (some ⟨g, 0, none⟩) n c) (bs.set i x) := by
  rcases h.2 with ⟨e, _⟩ | ⟨g', cap', cur, e, h1, h2, h3, h4, h5, h6⟩
  · cases e
  · injection e with e1 e2 e3
    injection e1 with e1
    injection e1 with e1
    subst e1
    subst e3
    refine ⟨by simp, .inr ⟨g, c, cur.setIfInBounds i (B x), by rw [List.length_set, e2], h1, ?_, by rw [List.length_set]; exact h3, h4, by simpa using h5, ?_⟩⟩
    · rw [hw, setCell_eq_setRow w g i _ 5 (0, 0) _ h2, setRow_heap w g _ _ 5 _ h2]
    · rw [Array.toList_setIfInBounds, List.take_set, List.length_set, h6, List.map_set]
theorem BitsAt.turn {w w' : World} {bb n : Nat} {was now : List UInt8} {K K' : Nat → Prop} {wb wcap nb ncap base : Nat} (h : BitsAt w bb n was now K wb wcap nb ncap base) (hK : ∀ k, K k → K' k) (i : Nat) (hi : i < n) (x : UInt8) (hb : w'.heap[bb]? = w.heap[bb]?) (hwb : w'.heap[wb]? = w.heap[wb]?) (hnb : w'.heap[nb]? = (w.setCell ⟨nb, i, none⟩ (B x)).heap[nb]?) : BitsAt w' bb n was (now.set i x) K' wb wcap nb ncap base :=
  ⟨hb.trans h.row, ownsRow_keepB h.wasR fun k e => by
      have : wb = k := by simpa [Value.ownBlock] using e
      subst this; exact hwb, own_set h.nowR i hi x hnb, h.ne, ⟨h.len.1, by rw [List.length_set]; exact h.len.2⟩, h.n0, ⟨hK _ h.inK.1, hK _ h.inK.2.1, hK _ h.inK.2.2⟩⟩
/-- a bit is turned, and the pages that are written have turned. -/
theorem Pg.turned {w w2 : World} {pp t q g : Nat} {s : S} {log N Bz M : Nat} {L : Nat → List UInt8} {T T' : TX} {Dw K KV X : Nat → Prop} {bb wb wcap nb ncap mb ro : Nat} {F F' : Nat → Option Value} (h : Pg w pp t q g s log N Bz M L T Dw K true) (ht : TxD w pp t N Bz M L T K KV true (.pointer (some ⟨bb, 0, none⟩)) mb ro F) (hba : BitsAt w bb (M * Bz) (cat M L) (cat M T.L) K wb wcap nb ncap 0) (hkv : ¬ KV nb) (hne : ∀ k, (k = bb ∨ k = wb ∨ k = nb) → k ≠ t ∧ k ≠ pp ∧ k ≠ mb)
    (p : Nat) (hp : M < p ∧ p < N) (hsz : w.heap.size ≤ w2.heap.size) (hoth : ∀ k, k < w.heap.size → k ≠ nb → k ≠ mb → w2.heap[k]? = w.heap[k]?) (hnb : w2.heap[nb]? = (w.setCell ⟨nb, p / 8, none⟩ (B (flip8 ((cat M T.L).getD (p / 8) 0) (p % 8)))).heap[nb]?) (hm : PMap w2 mb N F') (hX : ∀ k, X k → w.heap.size ≤ k ∧ k < w2.heap.size)
    (hd' : T'.done = T.done) (hr' : T'.root = T.root) (hM' : T'.L M = T.L M) (hlow : ∀ k, k < M → T'.L k = turnP Bz T.L p k) (hdT : Dm N Bz M T'.L)
    (hvals : ∀ k v, F' k = some v → (F k = some v ∧ T'.L k = T.L k) ∨ ∃ A c, v = .slice (some ⟨A, 0, none⟩) Bz c ∧ Rd w2 (some ⟨A, 0, none⟩) Bz c (T'.L k) ∧ X A)
    (hkeys : ∀ k, k < N → ((F' k).isSome = (usedP N Bz M T'.L (k : Int) && T'.W k))) (hsame : ∀ k, k < N → usedP N Bz M T'.L (k : Int) = true → T'.W k = false → T'.L k = L k) : Pg w2 pp t q g s log N Bz M L T' Dw (fun k => K k ∨ X k) true := by
  have hKl := fun k (hk : K k) => (h.KD k hk).2.2
  have hnbK := hba.inK.2.2
  refine h.change (K' := fun k => K k ∨ X k) (KV' := fun k => KV k ∨ X k) ht (fun k hk => .inl hk) hd' hr' hM' ?_ ?_ ?_ hm (fun k hk => ?_) hdT (fun k hk => hk.imp (ht.kv k) (fun x => x)) (fun k hk => ?_) (.inr ⟨bb, wb, wcap, nb, ncap, rfl, ?_, fun hk => ?_, hne⟩) (fun k v hv => ?_) hkeys hsame
  · refine h.wal.keepF hsz fun k hk => hoth k ?_ (fun e => ?_) (fun e => ?_)
    · rcases hk with hk | hk
      · exact h.wal.disk.lt k hk
      · subst hk; exact (Array.getElem?_eq_some_iff.1 h.wal.row).1
    · subst e
      rcases hk with hk | hk
      · exact (h.KD k hnbK).1 hk
      · exact (h.KD k hnbK).2.1 hk
    · subst e
      rcases hk with hk | hk
      · exact (h.KD k ht.mK).1 hk
      · exact (h.KD k ht.mK).2.1 hk
  · exact hoth pp (hKl pp h.inK.1) (fun e => (hne nb (.inr (.inr rfl))).2.1 e.symm) (fun e => ht.mt.2.1 e.symm)
  · exact hoth t (hKl t h.inK.2) (fun e => (hne nb (.inr (.inr rfl))).1 e.symm) (fun e => ht.mt.1 e.symm)
  · rcases hk with hk | hk
    · have := h.KD k hk; exact ⟨this.1, this.2.1, by omega⟩
    · have hx := hX k hk
      refine ⟨fun hd => ?_, fun e => ?_, hx.2⟩
      · have := h.wal.disk.lt k hd; omega
      · subst e
        have := (Array.getElem?_eq_some_iff.1 h.wal.row).1
        omega
  · rcases hk with hk | hk
    · exact ht.kvn k hk
    · have hx := hX k hk
      have := hKl t h.inK.2
      have := hKl pp h.inK.1
      have := hKl mb ht.mK
      exact ⟨by omega, by omega, by omega⟩
  · have hcat : cat M T'.L = (cat M T.L).set (p / 8) (flip8 ((cat M T.L).getD (p / 8) 0) (p % 8)) := by rw [turn_cat h.dT p (page_lt h.dT p hp.2)]; exact cat_congr hlow
    rw [hcat]
    have hbn : bb ≠ nb := fun e => by
      obtain ⟨g', cap', cur, e1, _, e3, _⟩ : ∃ g' cap' cur, Value.slice (some ⟨nb, 0, none⟩) (M * Bz) ncap = .slice (some ⟨g', 0, none⟩) (cat M T.L).length cap' ∧ 0 ≤ g' ∧ w.heap[g']? = some (.cells cur 5 (0, 0)) ∧ True := by
        rcases hba.nowR.2 with ⟨e, _⟩ | ⟨g', cap', cur, e1, e2, e3, _⟩
        · cases e
        · exact ⟨g', cap', cur, e1, e2, e3, trivial⟩
      injection e1 with e1
      injection e1 with e1
      injection e1 with e1
      subst e1
      have := hba.row
      rw [e, e3] at this
      injection this with this
      injection this with _ this
      cases this
    exact hba.turn (fun k hk => .inl hk) (p / 8) (page_lt h.dT p hp.2) _ (hoth bb (hKl bb hba.inK.1) hbn (hne bb (.inl rfl)).2.2) (hoth wb (hKl wb hba.inK.2.1) hba.ne (hne wb (.inr (.inl rfl))).2.2) hnb
  · rcases hk with hk | hk
    · exact hkv hk
    · have := (hX nb hk).1
      have := hKl nb hnbK
      omega
  · rcases hvals k v hv with ⟨e1, e2⟩ | ⟨A, c, e1, e2, e3⟩
    · obtain ⟨A, c, e, hr, hA⟩ := ht.vals k v e1
      refine ⟨A, c, e, ?_, .inl hA⟩
      rw [e2]
      exact Rd.keepB hr hsz (fun a ha => by injection ha with ha; subst ha; exact hoth A (hKl A (ht.kv A hA)) (fun e => hkv (by rw [← e]; exact hA)) (ht.kvn A hA).2.2)
    · exact ⟨A, c, e1, e2, .inr e3⟩
/-- a page is given back. -/
theorem Pg.gave {w w2 : World} {pp t q g : Nat} {s : S} {log N Bz M : Nat} {L : Nat → List UInt8} {T : TX} {Dw K KV : Nat → Prop} {bb wb wcap nb ncap mb ro k0 : Nat} {F : Nat → Option Value} (h : Pg w pp t q g s log N Bz M L T Dw K true) (ht : TxD w pp t N Bz M L T K KV true (.pointer (some ⟨bb, 0, none⟩)) mb ro F) (hba : BitsAt w bb (M * Bz) (cat M L) (cat M T.L) K wb wcap nb ncap 0) (hkv : ¬ KV nb) (hne : ∀ k, (k = bb ∨ k = wb ∨ k = nb) → k ≠ t ∧ k ≠ pp ∧ k ≠ mb)
    (p : Nat) (hu : usedP N Bz M T.L (p : Int) = true) (hm : PMap w2 mb N (upd F p none)) (hg : ((w.setCell ⟨nb, p / 8, none⟩ (B (flip8 ((cat M T.L).getD (p / 8) 0) (p % 8)))).drewN k0).grownBy w2 (some mb)) : PgD pp t q g s log N Bz M L { T with L := turnP Bz T.L p } Dw K true w w2 := by
  have hp : M < p ∧ p < N := by obtain ⟨q', e, h1, h2⟩ := used_nat hu; omega
  have hnm := (hne nb (.inr (.inr rfl))).2.2
  have hsz : w.heap.size ≤ w2.heap.size := by have := hg.size; rwa [show ((w.setCell ⟨nb, p / 8, none⟩ (B (flip8 ((cat M T.L).getD (p / 8) 0) (p % 8)))).drewN k0).heap.size = w.heap.size from sc_size _ _ _] at this
  have hblk : ∀ k, k < w.heap.size → k ≠ mb → w2.heap[k]? = (w.setCell ⟨nb, p / 8, none⟩ (B (flip8 ((cat M T.L).getD (p / 8) 0) (p % 8)))).heap[k]? := fun k hk hn => hg.block k (by rw [show ((w.setCell ⟨nb, p / 8, none⟩ (B (flip8 ((cat M T.L).getD (p / 8) 0) (p % 8)))).drewN k0).heap.size = w.heap.size from sc_size _ _ _]; exact hk) (fun e => hn (Option.some.inj e))
  have hut := fun j => usedP_turn h.dT p hp j
  refine ⟨fun k => K k ∨ False, ?_, fun k hk => .inl (hk.elim (fun x => x) False.elim), ?_⟩
  · refine h.turned (X := fun _ => False) ht hba hkv hne p hp hsz (fun k hk hn hm => ?_) (hblk nb (h.KD nb hba.inK.2.2).2.2 hnm) hm (fun _ x => x.elim) rfl rfl (turnP_hi h.dT p hp.2 M (Nat.le_refl _)) (fun k hk => rfl) (h.dT.turn p hp.2) (fun k v hv => .inl ?_) (fun k hk => ?_) (fun k hk hu' hw => ?_)
    · rw [hblk k hk hm]; exact sc_other _ _ _ _ _ hn
    · by_cases e : k = p
      · subst e; rw [upd_same] at hv; cases hv
      · rw [upd_other _ _ _ _ e] at hv
        have hkM : M ≤ k := by
          have hkN : k < N := by
            rcases Nat.lt_or_ge k N with h' | h'
            · exact h'
            · obtain ⟨es, clock, _, _, hno, _⟩ := ht.map
              rw [hno k h'] at hv; cases hv
          have h1 := ht.keys k hkN
          rw [hv] at h1
          cases hus : usedP N Bz M T.L (k : Int)
          · rw [hus] at h1; cases h1
          · obtain ⟨q', e', h2, h3⟩ := used_nat hus; omega
        exact ⟨hv, turnP_hi h.dT p hp.2 k hkM⟩
    · show ((upd F p none) k).isSome = (usedP N Bz M (turnP Bz T.L p) (k : Int) && T.W k)
      rw [hut]
      by_cases e : k = p
      · subst e
        rw [upd_same, if_pos rfl, hu]
        rfl
      · rw [upd_other _ _ _ _ e, if_neg (by omega)]
        exact ht.keys k hk
    · have hu2 : usedP N Bz M (turnP Bz T.L p) (k : Int) = true := hu'
      rw [hut] at hu2
      have hkp : k ≠ p := fun e => by
        subst e
        rw [if_pos rfl, hu] at hu2
        cases hu2
      rw [if_neg (by omega)] at hu2
      have hkM : M ≤ k := by obtain ⟨q', e', h2, h3⟩ := used_nat hu2; omega
      show turnP Bz T.L p k = L k
      rw [turnP_hi h.dT p hp.2 k hkM]
      exact ht.same k hk hu2 hw
  · exact (((Fr.refl (fun k => K k ∨ k = q) w).setCell (.inl (.inl hba.inK.2.2)) _).trans (Fr.of (below_drewN (Below.refl _ _) k0))).grown hg (fun k e => by cases e; exact .inl (.inl ht.mK))
theorem Give_nil (w : World) (p : Int) : Calls Tryz.prog 21 #[.pointer none, .int .i64 p] w fun e w' => e = .returned (.int .i64 3) ∧ w = w' := by
  have HR := Lib.hid (tready_nil w)
  go_enter Tryz.func21, Tryz.ntmps21
  go_wp2_with fail
  refine HR.out.mono ?_
  rintro e w1 ⟨rfl, rfl⟩
  go_wp2
  go_ret
  exact ⟨rfl, rfl⟩
theorem BitsAt.cell {w : World} {bb n : Nat} {was now : List UInt8} {K : Nat → Prop} {wb wcap nb ncap base : Nat} (h : BitsAt w bb n was now K wb wcap nb ncap base) (i : Nat) (hi : i < n) : w.cell? ⟨nb, i, none⟩ = some (B (now.getD i 0)) ∧ w.frozen? ⟨nb, i, none⟩ = false := by
  obtain ⟨g', o', e, _, hc⟩ := h.rd.cells (by omega)
  cases e
  refine ⟨by have := hc i hi; rwa [Nat.zero_add] at this, ?_⟩
  rcases h.nowR.2 with ⟨e, _⟩ | ⟨g', cap', cur, e1, e2, e3, _⟩
  · cases e
  · injection e1 with e1
    injection e1 with e1
    injection e1 with e1
    subst e1
    simp [World.frozen?, e3]
theorem Root_live (w : World) (pp t q g : Nat) (s : S) (log N Bz M : Nat) (L : Nat → List UInt8) (T : TX) (Dw K : Nat → Prop) (ld : Bool) (h : Pg w pp t q g s log N Bz M L T Dw K ld) (hd : T.done = false) (r : Nat) (hr : Rp.le32 (T.L M) = r) :
    Calls Tryz.prog 18 #[.pointer (some ⟨t, 0, none⟩)] w fun e w' => e = .returned (.tuple #[.int .i64 (r : Int), .int .i64 0]) ∧ PgD pp t q g s log N Bz M L T Dw K ld w w' := by
  have := Root_any w pp t q g s log N Bz M L T Dw K ld h
  unfold rootV at this
  rw [hd, hr] at this
  exact this
set_option maxHeartbeats 1000000 in
theorem tGive_any (w : World) (pp t q g : Nat) (s : S) (log N Bz M : Nat) (L : Nat → List UInt8) (T : TX) (Dw K : Nat → Prop) (ld : Bool) (h : Pg w pp t q g s log N Bz M L T Dw K ld) (p : Int) :
    Calls Tryz.prog 21 #[.pointer (some ⟨t, 0, none⟩), .int .i64 p] w fun e w' => e = .returned (.int .i64 (T.give N Bz M p).2) ∧ PgD pp t q g s log N Bz M L (T.give N Bz M p).1 Dw K false w w' := by
  have HR := Lib.hid (tready_any w pp t q g s log N Bz M L T Dw K ld h)
  have HP := Lib.hid h
  have hs := h.sizes
  unfold TX.give
  cases hd : T.done
  · rw [hd] at HR
    have HF := Lib.hid (find_any w pp t q g s log N Bz M L T Dw K ld h hd p)
    obtain ⟨u, hu⟩ : ∃ u, usedP N Bz M T.L p = u := ⟨_, rfl⟩
    rw [hu] at HF ⊢
    cases u
    · simp only [Bool.false_or, Bool.not_false, Bool.true_or, if_true]
      clear h hu
      go_enter Tryz.func21, Tryz.ntmps21
      go_wp2_with fail
      refine HR.out.mono ?_
      rintro e w1 ⟨rfl, rfl⟩
      go_wp2_with fail
      refine HF.out.mono ?_
      rintro e w2 ⟨rfl, hp2⟩
      have HP2 := Lib.hid hp2
      clear hp2
      go_wp2
      go_ret
      exact ⟨rfl, HP2.out⟩
    · obtain ⟨n, rfl, hn1, hn2⟩ := used_nat hu
      have hw64 : (n : Int).toNat = n := by omega
      rw [hw64]
      obtain ⟨ro0, hro0⟩ : ∃ ro0, Rp.le32 (T.L M) = ro0 := ⟨_, rfl⟩
      rw [hro0]
      have HRO := Lib.hid hro0
      have HU := Lib.hid hu
      have HPL := Lib.hid (page_lt h.dT n hn2)
      clear h hu hw64 hro0
      by_cases hroot : n = ro0
      · subst hroot
        have hb : (false || !true || decide ((n : Int) = (n : Int))) = true := by simp
        rw [if_pos hb]
        have heq : ((n : Int) == (n : Int)) = true := by simp
        clear hb
        go_enter Tryz.func21, Tryz.ntmps21
        go_wp2_with fail
        refine HR.out.mono ?_
        rintro e w1 ⟨rfl, rfl⟩
        go_wp2_with fail
        refine HF.out.mono ?_
        rintro e w2 ⟨rfl, K2, hp2, hk2, hf2⟩
        have HP2 := Lib.hid hp2
        have HK2 := Lib.hid hk2
        have HF2 := Lib.hid hf2
        have HR2 := Lib.hid (Root_live w2 pp t q g s log N Bz M L T Dw K2 true hp2 hd _ HRO.out)
        clear hp2 hk2 hf2
        go_wp2_with fail
        refine HR2.out.mono ?_
        rintro e w3 ⟨rfl, hp3⟩
        have HP3 := Lib.hid hp3
        clear hp3
        go_wp2
        go_ret
        exact ⟨rfl, PgD.step HK2.out HF2.out HP3.out.weak⟩
      · have hb : ¬ (false || !true || decide ((n : Int) = (ro0 : Int))) = true := by simp; omega
        rw [if_neg hb]
        have heq : ((n : Int) == (ro0 : Int)) = false := by simp; omega
        have HROOT := Lib.hid hroot
        have HGV := Lib.hid (fun (w3 : World) (K3 : Nat → Prop) (h3 : Pg w3 pp t q g s log N Bz M L T Dw K3 true) => h3.bits hd)
        clear hb
        go_enter Tryz.func21, Tryz.ntmps21
        go_wp2_with fail
        refine HR.out.mono ?_
        rintro e w1 ⟨rfl, rfl⟩
        go_wp2_with fail
        refine HF.out.mono ?_
        rintro e w2 ⟨rfl, K2, hp2, hk2, hf2⟩
        have HP2 := Lib.hid hp2
        have HK2 := Lib.hid hk2
        have HF2 := Lib.hid hf2
        have HR2 := Lib.hid (Root_live w2 pp t q g s log N Bz M L T Dw K2 true hp2 hd _ HRO.out)
        clear hp2 hk2 hf2
        go_wp2_with fail
        refine HR2.out.mono ?_
        rintro e w3 ⟨rfl, K3, hp3, hk3, hf3⟩
        obtain ⟨KV, mb, ro, F, bb, wb, wcap, nb, ncap, ht, hba, hkv, hne⟩ := HGV.out w3 K3 hp3
        obtain ⟨_, c1, c2, _⟩ := txr_cells ht.row
        obtain ⟨hcl, hfz⟩ := hba.cell (n / 8) HPL.out
        have HTU := Lib.hid (turn_any w3 bb nb (M * Bz) ncap _ _ n hba.row hba.rd.cap hcl hfz HPL.out (by omega))
        have HP3 := Lib.hid hp3
        have HK3 := Lib.hid hk3
        have HF3 := Lib.hid hf3
        have HTX := Lib.hid ht
        have HBA := Lib.hid hba
        have HKV := Lib.hid hkv
        have HNE := Lib.hid hne
        clear hp3 hk3 hf3 ht hba hkv hne hcl hfz
        go_wp2_with fail
        refine HTU.out.mono ?_
        rintro e w4 ⟨⟨ev, rfl⟩, k4, hw4⟩
        have d2 : w4.cell? ⟨t, 2, none⟩ = some (.map (some mb)) := by
          rw [hw4]
          exact (World.cell?_of_block (a := ⟨t, 2, none⟩) (w := w3) (sc_other _ _ _ _ _ (fun e => (HNE.out nb (.inr (.inr rfl))).1 e.symm))).trans c2
        have hm4 : PMap w4 mb N F := HTX.out.map.keep (by rw [hw4]; exact sc_other _ _ _ _ _ (fun e => (HNE.out nb (.inr (.inr rfl))).2.2 e.symm))
        obtain ⟨w5, hdel, hpm, hgr⟩ := hm4.del n (by omega) 0
        have HW4 := Lib.hid hw4
        have HPM := Lib.hid hpm
        have HGR := Lib.hid hgr
        clear hw4 hm4 hpm hgr
        go_wp2
        go_ret
        rw [HW4.out] at HGR
        have hfin := HP3.out.gave HTX.out HBA.out HKV.out HNE.out n HU.out HPM.out HGR.out
        rw [hd] at hfin
        exact ⟨rfl, PgD.step HK2.out HF2.out (PgD.step HK3.out HF3.out hfin.weak)⟩
  · rw [hd] at HR
    clear h
    simp only [Bool.true_or, if_true]
    go_enter Tryz.func21, Tryz.ntmps21
    go_wp2_with fail
    refine HR.out.mono ?_
    rintro e w1 ⟨rfl, rfl⟩
    go_wp2
    go_ret
    exact ⟨rfl, PgD.refl HP.out.weak⟩
end Go.Proofs.YtephmcbofcfpmaaGreat

