/- What a transaction does to its bits and blocks, in plain words. Conditions: none. A page is written. Conditions: none. -/
import Derived.Test.YtephmcbofcfpmaaGreatJ23
set_option maxRecDepth 8000
set_option linter.unusedSimpArgs false
set_option linter.unusedVariables false
namespace Go.Proofs.YtephmcbofcfpmaaGreat.Rp
open Go.RowKit Go.Bs Go.Dk

theorem bitP_congr {N B M : Nat} {L L' : Nat → List UInt8} (h : Dm N B M L) (he : ∀ k, k < M → L' k = L k) (p : Nat) (hp : p < N) : bitP B L' p = bitP B L p := by
  unfold bitP
  rw [he _ (h.at hp)]
theorem usedP_congr {N B M : Nat} {L L' : Nat → List UInt8} (h : Dm N B M L) (he : ∀ k, k < M → L' k = L k) (p : Int) : usedP N B M L' p = usedP N B M L p := by
  unfold usedP
  by_cases hp : (M : Int) < p ∧ p < (N : Int)
  · rw [bitP_congr h he p.toNat (by omega)]
  · have : (decide ((M : Int) < p) && decide (p < (N : Int))) = false := by simp; omega
    rw [this]; rfl
theorem bit_test (x k : Nat) : (x / 2 ^ k % 2 == 1) = x.testBit k := by
  rw [Nat.testBit_eq_decide_div_mod_eq]
  rfl
theorem flip_bit (x : UInt8) (p j : Nat) : ((flip8 x (p % 8)).toNat / 2 ^ (j % 8) % 2 == 1) = ((x.toNat / 2 ^ (j % 8) % 2 == 1) ^^ decide (p % 8 = j % 8)) := by
  rw [← xor_bit x p, bit_test, bit_test, UInt8.toNat_xor, wgt_toNat, Nat.testBit_xor, Nat.testBit_two_pow]
theorem bitP_turn {N B M : Nat} {L : Nat → List UInt8} (h : Dm N B M L) (p j : Nat) (hp : p < N) (hj : j < N) : bitP B (turnP B L p) j = (bitP B L j ^^ decide (p = j)) := by
  have hB : 0 < B := by have := h.b0; omega
  have hl := h.len (p / 8 / B) (by have := h.at hp; have := h.mn; omega)
  have hm := Nat.mod_lt (p / 8) hB
  have hm2 := Nat.mod_lt (j / 8) hB
  unfold bitP turnP
  by_cases e1 : j / 8 / B = p / 8 / B
  · rw [e1, upd_same]
    by_cases e2 : j / 8 % B = p / 8 % B
    · rw [e2, getD_get _ _ (by rw [List.length_set]; omega), List.getElem_set_self, flip_bit]
      have e3 : j / 8 = p / 8 := by rw [← Nat.div_add_mod (j / 8) B, ← Nat.div_add_mod (p / 8) B, e1, e2]
      have : decide (p % 8 = j % 8) = decide (p = j) := decide_eq_decide.2 ⟨fun h => by omega, fun h => by rw [h]⟩
      rw [this]
    · have hne : ¬ p = j := fun e => e2 (by rw [e])
      rw [getD_get _ _ (by rw [List.length_set]; omega), List.getElem_set_ne (Ne.symm e2), ← getD_get _ _ (by omega)]
      simp [hne]
  · have hne : ¬ p = j := fun e => e1 (by rw [e])
    rw [upd_other _ _ _ _ e1]
    simp [hne]
theorem usedP_turn {N B M : Nat} {L : Nat → List UInt8} (h : Dm N B M L) (p : Nat) (hp : M < p ∧ p < N) (j : Int) : usedP N B M (turnP B L p) j = if j = (p : Int) then !usedP N B M L j else usedP N B M L j := by
  unfold usedP
  by_cases hj : (M : Int) < j ∧ j < (N : Int)
  · rw [bitP_turn h p j.toNat hp.2 (by omega)]
    have h1 : (decide ((M : Int) < j) && decide (j < (N : Int))) = true := by simp; exact hj
    rw [h1]
    by_cases e : j = (p : Int)
    · have : p = j.toNat := by omega
      rw [if_pos e]
      simp [this]
    · have : ¬ p = j.toNat := by omega
      rw [if_neg e]
      simp [this]
  · have h1 : (decide ((M : Int) < j) && decide (j < (N : Int))) = false := by simp; omega
    rw [h1, if_neg (by omega)]
    simp
theorem turnP_hi {N B M : Nat} {L : Nat → List UInt8} (h : Dm N B M L) (p : Nat) (hp : p < N) (k : Nat) (hk : M ≤ k) : turnP B L p k = L k := by
  have := h.at hp
  unfold turnP
  exact upd_other _ _ _ _ (by omega)
end Go.Proofs.YtephmcbofcfpmaaGreat.Rp
namespace Go.Proofs.YtephmcbofcfpmaaGreat
open Go.RowKit Go.Bs Go.Dk Rp

theorem SetRoot_nil (w : World) (p : Int) : Calls Tryz.prog 27 #[.pointer none, .int .i64 p] w fun e w' => e = .returned (.int .i64 3) ∧ w = w' := by
  have HR := Lib.hid (tready_nil w)
  go_enter Tryz.func27, Tryz.ntmps27
  go_wp2_with fail
  refine HR.out.mono ?_
  rintro e w1 ⟨rfl, rfl⟩
  go_wp2
  go_ret
  exact ⟨rfl, rfl⟩
/-- the root is set. -/
theorem Pg.rooted {w : World} {pp t q g : Nat} {s : S} {log N Bz M : Nat} {L : Nat → List UInt8} {T : TX} {Dw K : Nat → Prop} {ld : Bool} (h : Pg w pp t q g s log N Bz M L T Dw K ld) (hd : T.done = false) (p : Nat) (hp : p ≤ 100000) :
    PgD pp t q g s log N Bz M L { T with L := upd T.L M (putK (T.L M) p 4), root := true } Dw K ld w ((w.setCell ⟨t, 3, none⟩ (.bool true)).setCell ⟨t, 4, none⟩ (.int .i64 (p : Int))) := by
  obtain ⟨KV, bv, mb, ro, F, ht⟩ := h.tx hd
  obtain ⟨r, hr1, hr2, _, _⟩ := h.le32 ht
  have hs := h.sizes
  have hrow1 := txr_set ht.row 3 (.bool true) bv true ro rfl
  have hrow2 := txr_set hrow1 4 (.int .i64 (p : Int)) bv true p rfl
  obtain ⟨W, hW⟩ : ∃ W, (w.setCell ⟨t, 3, none⟩ (.bool true)).setCell ⟨t, 4, none⟩ (.int .i64 (p : Int)) = W := ⟨_, rfl⟩
  have hsz : W.heap.size = w.heap.size := by rw [← hW, sc_size, sc_size]
  have hoth : ∀ k, k ≠ t → W.heap[k]? = w.heap[k]? := fun k hk => by rw [← hW, sc_other _ _ _ _ _ hk, sc_other _ _ _ _ _ hk]
  rw [hW] at hrow2 ⊢
  have hlow : ∀ k, k < M → upd T.L M (putK (T.L M) p 4) k = T.L k := fun k hk => upd_other _ _ _ _ (by omega)
  have hroot : upd T.L M (putK (T.L M) p 4) M = encR Bz p := by rw [upd_same, hr2]; exact enc_again Bz r p (by omega)
  refine ⟨K, ⟨?_, h.up, h.cc, h.un, h.hN, h.hB, h.hM, h.hL, ?_, fun k hk => ?_, h.inK, h.dL, ?_, h.rootL, (txr_cells hrow2).1, ⟨_, hrow2⟩, fun _ => ⟨KV, bv, mb, p, F, hrow2, ?_, ht.mK, ht.kv, ht.kvn, ht.mt, ?_, fun k v hv => ?_, fun k hk => ?_, fun k hk hu hw => ?_, hp, .inl ⟨rfl, hroot⟩⟩⟩, fun k hk => .inl hk, ?_⟩
  · refine h.wal.keepF (by omega) fun k hk => hoth k fun e => ?_
    subst e
    rcases hk with hk | hk
    · exact (h.KD k h.inK.2).1 hk
    · exact (h.KD k h.inK.2).2.1 hk
  · rw [hoth pp (fun e => ht.mt.2.2 e.symm)]; exact h.rowP
  · have := h.KD k hk
    exact ⟨this.1, this.2.1, by omega⟩
  · exact h.dT.upd M _ (by rw [putK_len]; exact h.dT.len M (by omega))
  · exact ht.map.keep (hoth mb ht.mt.1)
  · refine ht.bits.imp (fun x => ⟨x.1, x.2.1, fun k hk => (hlow k hk).trans (x.2.2 k hk)⟩) ?_
    rintro ⟨bb, wb, wcap, nb, ncap, e, hb, hn, hne⟩
    refine ⟨bb, wb, wcap, nb, ncap, e, ?_, hn, hne⟩
    rw [show cat M (upd T.L M (putK (T.L M) p 4)) = cat M T.L from cat_congr hlow]
    exact ⟨(hoth bb (hne bb (.inl rfl)).1).trans hb.row, ownsRow_keepB hb.wasR fun k e => by
        have : wb = k := by simpa [Value.ownBlock] using e
        subst this; exact hoth _ (hne _ (.inr (.inl rfl))).1, ownsRow_keepB hb.nowR fun k e => by
        have : nb = k := by simpa [Value.ownBlock] using e
        subst this; exact hoth _ (hne _ (.inr (.inr rfl))).1, hb.ne, hb.len, hb.n0, hb.inK⟩
  · obtain ⟨A, c, e, hr, hA⟩ := ht.vals k v hv
    have hkm : k ≠ M := fun e2 => by
      subst e2
      have h1 := ht.keys k (by omega)
      rw [hv] at h1
      have h2 : usedP N Bz k T.L (k : Int) = false := by unfold usedP; simp
      rw [h2] at h1
      cases h1
    refine ⟨A, c, e, ?_, hA⟩
    show Rd W _ _ _ (upd T.L M _ k)
    rw [upd_other _ _ _ _ hkm]
    exact Rd.keepB hr (by omega) (fun a ha => by injection ha with ha; subst ha; exact hoth A (ht.kvn A hA).1)
  · show _ = (usedP N Bz M (upd T.L M _) (k : Int) && T.W k)
    rw [usedP_congr h.dT hlow]
    exact ht.keys k hk
  · have hu' : usedP N Bz M T.L (k : Int) = true := by rw [← usedP_congr h.dT hlow]; exact hu
    have hkm : k ≠ M := fun e2 => by
      subst e2
      have h2 : usedP N Bz k T.L (k : Int) = false := by unfold usedP; simp
      rw [h2] at hu'
      cases hu'
    show upd T.L M _ k = L k
    rw [upd_other _ _ _ _ hkm]
    exact ht.same k hk hu' hw
  · rw [← hW]
    exact ((Fr.refl _ _).setCell (.inl (.inl h.inK.2)) _).setCell (.inl (.inl h.inK.2)) _
set_option maxHeartbeats 2000000 in
theorem SetRoot_any (w : World) (pp t q g : Nat) (s : S) (log N Bz M : Nat) (L : Nat → List UInt8) (T : TX) (Dw K : Nat → Prop) (ld : Bool) (h : Pg w pp t q g s log N Bz M L T Dw K ld) (p : Int) :
    Calls Tryz.prog 27 #[.pointer (some ⟨t, 0, none⟩), .int .i64 p] w fun e w' => e = .returned (.int .i64 (T.setRoot N Bz M p).2) ∧ PgD pp t q g s log N Bz M L (T.setRoot N Bz M p).1 Dw K false w w' := by
  have HR := Lib.hid (tready_any w pp t q g s log N Bz M L T Dw K ld h)
  have HP := Lib.hid h
  have hs := h.sizes
  unfold TX.setRoot
  cases hd : T.done
  · rw [hd] at HR
    have HF := Lib.hid (find_any w pp t q g s log N Bz M L T Dw K ld h hd p)
    obtain ⟨u, hu⟩ : ∃ u, usedP N Bz M T.L p = u := ⟨_, rfl⟩
    rw [hu] at HF ⊢
    by_cases h0 : p = 0
    · subst h0
      obtain ⟨KV, bv, mb, ro, F, ht⟩ := h.tx hd
      obtain ⟨_, _, _, c3, c4, hfz⟩ := txr_cells ht.row
      have f3 := hfz 3
      have f4 := hfz 4
      have HRT := Lib.hid (h.rooted hd 0 (by omega))
      obtain ⟨_, _, _, _, d4, dfz⟩ := txr_cells (txr_set ht.row 3 (.bool true) bv true ro rfl)
      have g4 := dfz 4
      clear h ht hfz dfz hu
      simp only [ne_eq, not_true, decide_false, Bool.false_and, Bool.or_self, Bool.false_eq_true, if_false]
      go_enter Tryz.func27, Tryz.ntmps27
      go_wp2_with fail
      refine HR.out.mono ?_
      rintro e w1 ⟨rfl, rfl⟩
      go_wp2
      go_ret
      exact ⟨rfl, by have := HRT.out.weak; rw [hd] at this; exact this⟩
    · cases u
      · have hb : (false || decide (p ≠ 0) && !false) = true := by simp [h0]
        rw [if_pos hb]
        clear h hu hb
        go_enter Tryz.func27, Tryz.ntmps27
        go_wp2_with fail
        refine HR.out.mono ?_
        rintro e w1 ⟨rfl, rfl⟩
        go_wp2_with fail
        refine HF.out.mono ?_
        rintro e w2 ⟨rfl, hp2⟩
        have HP2 := Lib.hid hp2
        clear hp2
        go_wp2
        go_ret
        exact ⟨rfl, HP2.out⟩
      · have hb : ¬ (false || decide (p ≠ 0) && !true) = true := by simp
        rw [if_neg hb]
        obtain ⟨n, rfl, hn1, hn2⟩ := used_nat hu
        have hw64 : (n : Int).toNat = n := by omega
        rw [hw64]
        have HTX := Lib.hid (fun (w2 : World) (K2 : Nat → Prop) (h2 : Pg w2 pp t q g s log N Bz M L T Dw K2 true) => h2.tx hd)
        have HRT := Lib.hid (fun (w2 : World) (K2 : Nat → Prop) (h2 : Pg w2 pp t q g s log N Bz M L T Dw K2 true) => h2.rooted hd n (by omega))
        clear h hu hb hw64
        go_enter Tryz.func27, Tryz.ntmps27
        go_wp2_with fail
        refine HR.out.mono ?_
        rintro e w1 ⟨rfl, rfl⟩
        go_wp2_with fail
        refine HF.out.mono ?_
        rintro e w2 ⟨rfl, K2, hp2, hk2, hf2⟩
        obtain ⟨KV, bv, mb, ro, F, ht⟩ := HTX.out w2 K2 hp2
        obtain ⟨_, _, _, c3, c4, hfz⟩ := txr_cells ht.row
        have f3 := hfz 3
        have f4 := hfz 4
        obtain ⟨_, _, _, _, d4, dfz⟩ := txr_cells (txr_set ht.row 3 (.bool true) bv true ro rfl)
        have g4 := dfz 4
        have HP2 := Lib.hid hp2
        have HK2 := Lib.hid hk2
        have HF2 := Lib.hid hf2
        clear hp2 hk2 hf2 ht hfz dfz
        go_wp2
        go_ret
        exact ⟨rfl, PgD.step HK2.out HF2.out (by have := (HRT.out w2 K2 HP2.out).weak; rw [hd] at this; exact this)⟩
  · rw [hd] at HR
    clear h
    simp only [Bool.true_or, if_true]
    go_enter Tryz.func27, Tryz.ntmps27
    go_wp2_with fail
    refine HR.out.mono ?_
    rintro e w1 ⟨rfl, rfl⟩
    go_wp2
    go_ret
    exact ⟨rfl, PgD.refl HP.out.weak⟩
end Go.Proofs.YtephmcbofcfpmaaGreat

set_option maxRecDepth 8000
set_option linter.unusedSimpArgs false
set_option linter.unusedVariables false
namespace Go.Proofs.YtephmcbofcfpmaaGreat
open Go.RowKit Go.Bs Go.Dk Rp

/-- a transaction that has turned. -/
theorem Pg.change {w w2 : World} {pp t q g : Nat} {s : S} {log N Bz M : Nat} {L : Nat → List UInt8} {T T' : TX} {Dw K K' KV KV' : Nat → Prop} {ld ld' : Bool} {bv : Value} {mb ro : Nat} {F F' : Nat → Option Value} (h : Pg w pp t q g s log N Bz M L T Dw K ld) (ht : TxD w pp t N Bz M L T K KV ld bv mb ro F)
    (hKK : ∀ k, K k → K' k) (hd' : T'.done = T.done) (hr' : T'.root = T.root) (hM' : T'.L M = T.L M) (hw : WalAt w2 q g s log false Dw) (hpp : w2.heap[pp]? = w.heap[pp]?) (htt : w2.heap[t]? = w.heap[t]?) (hm : PMap w2 mb N F') (hKD : ∀ k, K' k → ¬ Dw k ∧ k ≠ q ∧ k < w2.heap.size) (hdT : Dm N Bz M T'.L)
    (hkv : ∀ k, KV' k → K' k) (hkvn : ∀ k, KV' k → k ≠ t ∧ k ≠ pp ∧ k ≠ mb)
    (hbits : (ld' = false ∧ bv = .pointer none ∧ ∀ k, k < M → T'.L k = L k) ∨ ∃ bb wb wcap nb ncap, bv = .pointer (some ⟨bb, 0, none⟩) ∧ BitsAt w2 bb (M * Bz) (cat M L) (cat M T'.L) K' wb wcap nb ncap 0 ∧ ¬ KV' nb ∧ ∀ k, (k = bb ∨ k = wb ∨ k = nb) → k ≠ t ∧ k ≠ pp ∧ k ≠ mb)
    (hvals : ∀ k v, F' k = some v → ∃ A c, v = .slice (some ⟨A, 0, none⟩) Bz c ∧ Rd w2 (some ⟨A, 0, none⟩) Bz c (T'.L k) ∧ KV' A)
    (hkeys : ∀ k, k < N → ((F' k).isSome = (usedP N Bz M T'.L (k : Int) && T'.W k))) (hsame : ∀ k, k < N → usedP N Bz M T'.L (k : Int) = true → T'.W k = false → T'.L k = L k) : Pg w2 pp t q g s log N Bz M L T' Dw K' ld' := by
  have hnow : nowV T' t = nowV T t := by unfold nowV; rw [hd']
  refine ⟨hw, h.up, h.cc, h.un, h.hN, h.hB, h.hM, h.hL, ?_, hKD, ⟨hKK _ h.inK.1, hKK _ h.inK.2⟩, h.dL, hdT, h.rootL, (World.cell?_of_block (a := ⟨t, 0, none⟩) htt).trans h.own, (by obtain ⟨ca, hc⟩ := h.rowT; exact ⟨ca, htt.trans hc⟩), fun _ => ⟨KV', bv, mb, ro, F', ?_, hm, hKK _ ht.mK, hkv, hkvn, ht.mt, hbits, hvals, hkeys, hsame, ht.ro1, ?_⟩⟩
  · rw [hnow]; exact hpp.trans h.rowP
  · rw [hr']; exact htt.trans ht.row
  · rw [hr', hM']; exact ht.root
/-- a page is written. -/
theorem Pg.wrote {w w1 w2 : World} {pp t q g : Nat} {s : S} {log N Bz M : Nat} {L : Nat → List UInt8} {T : TX} {Dw K KV : Nat → Prop} {ld : Bool} {bv : Value} {mb ro : Nat} {F : Nat → Option Value} (h : Pg w pp t q g s log N Bz M L T Dw K ld) (ht : TxD w pp t N Bz M L T K KV ld bv mb ro F) (p : Nat) (hp : usedP N Bz M T.L (p : Int) = true) (bs : List UInt8) (hbs : bs.length = Bz) (v : Value) (ho : Bs.Own w1 w.heap.size 5 v bs) (hb : Below w.heap.size w w1) (hm : PMap w2 mb N (upd F p (some v))) (hg : w1.grownBy w2 (some mb)) :
    PgD pp t q g s log N Bz M L { T with L := upd T.L p bs, W := upd T.W p true } Dw K ld w w2 := by
  have hs := h.sizes
  obtain ⟨_, _, hp1, hp2⟩ := used_nat hp
  obtain ⟨A, c, rfl, hA1, hA2, hrd⟩ := own_form ho Bz hbs (by omega)
  have hml := (h.KD mb ht.mK).2.2
  have hpm : M < p ∧ p < N := by obtain ⟨q', e, h1, h2⟩ := used_nat hp; omega
  have h1 := h.below hb
  have ht1 : TxD w1 pp t N Bz M L T K KV ld bv mb ro F := ht.keep h.inK.2 hb.size (fun k hK => hb.block k (h.KD k hK).2.2) (fun _ x => x)
  have hoth : ∀ k, k < w1.heap.size → k ≠ mb → w2.heap[k]? = w1.heap[k]? := fun k hk hn => hg.block k hk (fun e => hn (Option.some.inj e))
  have hsz := hg.size
  have hlow : ∀ k, k < M → upd T.L p bs k = T.L k := fun k hk => upd_other _ _ _ _ (by omega)
  have huse := fun j => usedP_congr (L' := upd T.L p bs) h.dT hlow j
  refine ⟨fun k => K k ∨ k = A, ?_, fun k hk => hk.imp (fun x => x) (fun e => by rw [e]; exact hA1), ?_⟩
  · refine h1.change (K' := fun k => K k ∨ k = A) (KV' := fun k => KV k ∨ k = A) ht1 (fun k hk => .inl hk) rfl rfl (upd_other _ _ _ _ (by omega)) ?_ ?_ ?_ hm (fun k hk => ?_) (h.dT.upd _ _ hbs) (fun k hk => hk.imp (ht.kv k) (fun x => x)) (fun k hk => ?_) ?_ (fun k v hv => ?_) (fun k hk => ?_) (fun k hk hu hw => ?_)
    · refine h1.wal.keepF hsz fun k hk => hoth k ?_ fun e => ?_
      · rcases hk with hk | hk
        · exact h1.wal.disk.lt k hk
        · subst hk; exact (Array.getElem?_eq_some_iff.1 h1.wal.row).1
      · subst e
        rcases hk with hk | hk
        · exact (h.KD k ht.mK).1 hk
        · exact (h.KD k ht.mK).2.1 hk
    · exact hoth pp (h1.KD pp h.inK.1).2.2 (fun e => ht.mt.2.1 e.symm)
    · exact hoth t (h1.KD t h.inK.2).2.2 (fun e => ht.mt.1 e.symm)
    · rcases hk with hk | rfl
      · have := h1.KD k hk; exact ⟨this.1, this.2.1, by omega⟩
      · refine ⟨fun hd => ?_, fun e => ?_, by omega⟩
        · have := h.wal.disk.lt k hd; omega
        · subst e
          have := (Array.getElem?_eq_some_iff.1 h.wal.row).1
          omega
    · rcases hk with hk | rfl
      · exact ht.kvn k hk
      · have := (h.KD t h.inK.2).2.2
        have := (h.KD pp h.inK.1).2.2
        exact ⟨by omega, by omega, by omega⟩
    · refine ht1.bits.imp (fun x => ⟨x.1, x.2.1, fun k hk => (hlow k hk).trans (x.2.2 k hk)⟩) ?_
      rintro ⟨bb, wb, wcap, nb, ncap, e, hb', hn, hne⟩
      refine ⟨bb, wb, wcap, nb, ncap, e, ?_, fun hk => ?_, hne⟩
      · rw [show cat M ({ T with L := upd T.L p bs, W := upd T.W p true } : TX).L = cat M T.L from cat_congr hlow]
        have hbl := fun k (hk : K k) => (h1.KD k hk).2.2
        exact ⟨(hoth bb (hbl bb hb'.inK.1) (hne bb (.inl rfl)).2.2).trans hb'.row, ownsRow_keepB hb'.wasR fun k e => by
          have : wb = k := by simpa [Value.ownBlock] using e
          subst this; exact hoth _ (hbl _ hb'.inK.2.1) (hne _ (.inr (.inl rfl))).2.2, ownsRow_keepB hb'.nowR fun k e => by
          have : nb = k := by simpa [Value.ownBlock] using e
          subst this; exact hoth _ (hbl _ hb'.inK.2.2) (hne _ (.inr (.inr rfl))).2.2, hb'.ne, hb'.len, hb'.n0, ⟨.inl hb'.inK.1, .inl hb'.inK.2.1, .inl hb'.inK.2.2⟩⟩
      · rcases hk with hk | hk
        · exact hn hk
        · have := (h.KD nb hb'.inK.2.2).2.2
          omega
    · by_cases e : k = p
      · subst e
        rw [upd_same] at hv
        cases hv
        refine ⟨A, c, rfl, ?_, .inr rfl⟩
        show Rd w2 _ _ _ (upd T.L k bs k)
        rw [upd_same]
        exact Rd.keepB hrd hsz (fun a ha => by injection ha with ha; subst ha; exact hoth A hA2 (by omega))
      · rw [upd_other _ _ _ _ e] at hv
        obtain ⟨A', c', e', hr', hA'⟩ := ht1.vals k v hv
        refine ⟨A', c', e', ?_, .inl hA'⟩
        show Rd w2 _ _ _ (upd T.L p bs k)
        rw [upd_other _ _ _ _ e]
        exact Rd.keepB hr' hsz (fun a ha => by injection ha with ha; subst ha; exact hoth A' (h1.KD A' (ht.kv A' hA')).2.2 (ht.kvn A' hA').2.2)
    · show ((upd F p (some _)) k).isSome = (usedP N Bz M (upd T.L p bs) (k : Int) && (upd T.W p true) k)
      rw [huse]
      by_cases e : k = p
      · subst e
        rw [upd_same, upd_same, hp]
        rfl
      · rw [upd_other _ _ _ _ e, upd_other _ _ _ _ e]
        exact ht.keys k hk
    · have hu' : usedP N Bz M T.L (k : Int) = true := by rw [← huse]; exact hu
      by_cases e : k = p
      · subst e
        have hw' : upd T.W k true k = false := hw
        rw [upd_same] at hw'
        cases hw'
      · have hw' : upd T.W p true k = false := hw
        rw [upd_other _ _ _ _ e] at hw'
        show upd T.L p bs k = L k
        rw [upd_other _ _ _ _ e]
        exact ht.same k hk hu' hw'
  · exact (Fr.of hb).grown hg (fun k e => by cases e; exact .inl (.inl ht.mK))
theorem tWrite_nil (w : World) (p : Int) (v : Value) : Calls Tryz.prog 25 #[.pointer none, .int .i64 p, v] w fun e w' => e = .returned (.int .i64 3) ∧ w = w' := by
  have HR := Lib.hid (tready_nil w)
  go_enter Tryz.func25, Tryz.ntmps25
  go_wp2_with fail
  refine HR.out.mono ?_
  rintro e w1 ⟨rfl, rfl⟩
  go_wp2
  go_ret
  exact ⟨rfl, rfl⟩
set_option maxHeartbeats 4000000 in
theorem tWrite_any (w : World) (pp t q g : Nat) (s : S) (log N Bz M : Nat) (L : Nat → List UInt8) (T : TX) (Dw K : Nat → Prop) (ld : Bool) (h : Pg w pp t q g s log N Bz M L T Dw K ld) (p : Int) (A : Option Addr) (ln c : Nat) (bs : List UInt8) (hr : Rd w A ln c bs) (hA : 0 < ln → ∀ a, A = some a → ¬ K a.block ∧ a.block ≠ q) (hln : ln ≤ 100000) :
    Calls Tryz.prog 25 #[.pointer (some ⟨t, 0, none⟩), .int .i64 p, .slice A ln c] w fun e w' => e = .returned (.int .i64 (T.write N Bz M p bs).2) ∧ PgD pp t q g s log N Bz M L (T.write N Bz M p bs).1 Dw K false w w' := by
  have HR := Lib.hid (tready_any w pp t q g s log N Bz M L T Dw K ld h)
  have HP := Lib.hid h
  have hs := h.sizes
  have hlen := hr.len
  unfold TX.write
  cases hd : T.done
  · rw [hd] at HR
    have HBY := Lib.hid (tBytes_any w pp t q g s log N Bz M L T Dw K ld h)
    by_cases hlb : ln = Bz
    · subst hlb
      have HF := Lib.hid (fun k => find_any (w.drewN k) pp t q g s log N ln M L T Dw K ld (h.below (below_drewN (Below.refl _ _) k)) hd p)
      obtain ⟨u, hu⟩ : ∃ u, usedP N ln M T.L p = u := ⟨_, rfl⟩
      rw [hu] at HF ⊢
      cases u
      · simp only [Bool.false_or, Bool.not_false, Bool.true_or, if_true]
        clear h hu
        go_enter Tryz.func25, Tryz.ntmps25
        go_wp2_with fail
        refine HR.out.mono ?_
        rintro e w1 ⟨rfl, rfl⟩
        go_wp2_with fail
        refine HBY.out.mono ?_
        rintro e w1 ⟨rfl, k1, rfl⟩
        go_wp2_with fail
        refine (HF.out k1).mono ?_
        rintro e w2 ⟨rfl, hp2⟩
        have HP2 := Lib.hid hp2
        clear hp2
        go_wp2
        go_ret
        exact ⟨rfl, PgD.step (fun _ x => .inl x) (Fr.of (below_drewN (Below.refl _ _) k1)) HP2.out⟩
      · have hdc : decide (bs.length ≠ ln) = false := by simp [hlen]
        simp only [hdc, Bool.false_or, Bool.not_true, Bool.false_eq_true, if_false]
        obtain ⟨n, rfl, hn1, hn2⟩ := used_nat hu
        have hw64 : (n : Int).toNat = n := by omega
        rw [hw64]
        have HU := Lib.hid hu
        have HLEN := Lib.hid hlen
        have HNN := Lib.hid hn2
        have HSZ := Lib.hid hs
        obtain ⟨a0, rfl⟩ : ∃ a0, A = some a0 := by
          obtain ⟨g', o', e, _⟩ := hr.cells (by omega)
          exact ⟨_, e⟩
        have HA := Lib.hid (hA (by omega) a0 rfl)
        have HCL := Lib.hid (fun W (hW : Rd W (some a0) ln c bs) => cloneB_any (some a0) ln c bs W hW (by omega) rfl)
        have HRD0 := Lib.hid hr
        clear h hu hw64 hdc hlen hr hA
        go_enter Tryz.func25, Tryz.ntmps25
        go_wp2_with fail
        refine HR.out.mono ?_
        rintro e w1 ⟨rfl, rfl⟩
        go_wp2_with fail
        refine HBY.out.mono ?_
        rintro e w1 ⟨rfl, k1, rfl⟩
        go_wp2_with fail
        refine (HF.out k1).mono ?_
        rintro e w3 ⟨rfl, K2, hp2, hk2, hf2⟩
        obtain ⟨KV, bv, mb, ro, F, ht⟩ := hp2.tx hd
        obtain ⟨_, _, c2, _, _, _⟩ := txr_cells ht.row
        have HRD := Lib.hid (Rd.keepB (w' := w3) (HRD0.out.drewN k1) hf2.size (fun a ha => by
          injection ha with ha; subst ha
          obtain ⟨g', o', e, hg', _⟩ := HRD0.out.cells (by omega)
          refine hf2.block _ (by injection e with e; subst e; exact hg') (fun hk => ?_)
          rcases hk with hk | hk
          · exact HA.out.1 hk
          · exact HA.out.2 hk))
        have HP2 := Lib.hid hp2
        have HK2 := Lib.hid hk2
        have HF2 := Lib.hid hf2
        have HTX := Lib.hid ht
        have HTL := Lib.hid (hp2.KD t hp2.inK.2).2.2
        have HML := Lib.hid (hp2.KD mb ht.mK).2.2
        have HMT := Lib.hid ht.mt.1
        clear hp2 hk2 hf2 ht
        go_wp2_with fail
        refine wp_region_held_drew (S := fun W => W.cell? ⟨t, 2, none⟩ = some (.map (some mb))) (by kernel_rfl) (c2) (fun hHeld => ?_)
        refine wpAnyH_take (i := 0) (oi := { dst := some 25, op := Go.Op.move (Go.Operand.tmp 0), type := 35, pos := "pages.go:172", after := #[], guard := none }) (v := ?v0) rfl (by kernel_rfl) (by kernel_rfl) (by kernel_rfl) (fun _ _ _ h => h) (Or.inl ⟨by rfl, ?hy0⟩) hHeld ?_
        case hy0 => (intro w hSw; (try dsimp only at hSw); go_simp; first | done | with_reducible rfl)
        try simp only [Act.put, List.setIfInBounds_toArray, List.set_cons_zero, List.set_cons_succ]
        refine wpAnyH_take (i := 1) (oi := { dst := some 26, op := Go.Op.nilCheck (Go.Operand.tmp 25), type := 0, pos := "pages.go:172", after := #[{ on := 0, ground := Go.Ground.data }], guard := none }) (v := ?v1) rfl (by kernel_rfl) (by kernel_rfl) (by kernel_rfl) (fun _ _ _ h => h) (Or.inl ⟨by rfl, ?hy1⟩) hHeld ?_
        case hy1 => (intro w hSw; (try dsimp only at hSw); go_simp; first | done | with_reducible rfl)
        try simp only [Act.put, List.setIfInBounds_toArray, List.set_cons_zero, List.set_cons_succ]
        refine wpAnyH_take (i := 2) (oi := { dst := some 27, op := Go.Op.fieldAddr 104 (Go.Operand.tmp 26) 2, type := 0, pos := "pages.go:172", after := #[{ on := 1, ground := Go.Ground.data }], guard := none }) (v := ?v2) rfl (by kernel_rfl) (by kernel_rfl) (by kernel_rfl) (fun _ _ _ h => h) (Or.inl ⟨by rfl, ?hy2⟩) hHeld ?_
        case hy2 => (intro w hSw; (try dsimp only at hSw); go_simp; first | done | with_reducible rfl)
        try simp only [Act.put, List.setIfInBounds_toArray, List.set_cons_zero, List.set_cons_succ]
        refine wpAnyH_take (i := 3) (oi := { dst := some 28, op := Go.Op.load 97 (Go.Operand.tmp 27), type := 97, pos := "pages.go:172", after := #[{ on := 2, ground := Go.Ground.data }], guard := none }) (v := ?v3) rfl (by kernel_rfl) (by kernel_rfl) (by kernel_rfl) (fun _ _ _ h => h) (Or.inl ⟨by rfl, ?hy3⟩) hHeld ?_
        case hy3 => (intro w hSw; (try dsimp only at hSw); go_simp; first | done | with_reducible rfl)
        try simp only [Act.put, List.setIfInBounds_toArray, List.set_cons_zero, List.set_cons_succ]
        refine wpAnyH_take (i := 4) (oi := { dst := some 29, op := Go.Op.move (Go.Operand.tmp 1), type := 3, pos := "pages.go:172", after := #[], guard := none }) (v := ?v4) rfl (by kernel_rfl) (by kernel_rfl) (by kernel_rfl) (fun _ _ _ h => h) (Or.inl ⟨by rfl, ?hy4⟩) hHeld ?_
        case hy4 => (intro w hSw; (try dsimp only at hSw); go_simp; first | done | with_reducible rfl)
        try simp only [Act.put, List.setIfInBounds_toArray, List.set_cons_zero, List.set_cons_succ]
        refine wpAnyH_take (i := 5) (oi := { dst := some 30, op := Go.Op.move (Go.Operand.tmp 2), type := 39, pos := "pages.go:172", after := #[], guard := none }) (v := ?v5) rfl (by kernel_rfl) (by kernel_rfl) (by kernel_rfl) (fun _ _ _ h => h) (Or.inl ⟨by rfl, ?hy5⟩) hHeld ?_
        case hy5 => (intro w hSw; (try dsimp only at hSw); go_simp; first | done | with_reducible rfl)
        try simp only [Act.put, List.setIfInBounds_toArray, List.set_cons_zero, List.set_cons_succ]
        refine wpAnyH_ready (rs := [6]) (by kernel_rfl) (by simp) ?_
        refine AllReadyH.cons (o := { dst := some 31, op := Go.Op.call { callee := Go.Callee.value (Go.Operand.func 69), args := #[Go.Operand.tmp 30], argTypes := #[39] }, type := 39, pos := "pages.go:172", after := #[{ on := 5, ground := Go.Ground.data }], guard := none }) rfl (fun K hK => ?_) AllReadyH.nil
        go_simp
        refine (HCL.out w3.drew HRD.out.drew).mono ?_
        rintro e w4 ⟨v4, rfl, ho4, hb4⟩
        have hb4' : Below w3.heap.size w3 w4 := (below_drewN (Below.refl _ _) 1).trans hb4
        have c2' : w4.cell? ⟨t, 2, none⟩ = some (.map (some mb)) := (hb4'.cell (p := ⟨t, 2, none⟩) HTL.out).trans c2
        obtain ⟨w5, hput, hpm, hgr⟩ := (HTX.out.map.keep (hb4'.block mb HML.out)).put n HNN.out (by have := HSZ.out; omega) v4
        have c2'' : w5.cell? ⟨t, 2, none⟩ = some (.map (some mb)) := (World.cell?_of_block (a := ⟨t, 2, none⟩) (hgr.block t (Nat.lt_of_lt_of_le HTL.out hb4'.size) (fun e => HMT.out (Option.some.inj e).symm))).trans c2'
        have HO4 := Lib.hid ho4
        have HB4 := Lib.hid hb4'
        have HPM := Lib.hid hpm
        have HGR := Lib.hid hgr
        clear ho4 hb4 hb4' hpm hgr
        go_wp2_with fail
        refine hK.out _ _ (c2') (fun hHeld => ?_)
        clear hK K
        try simp only [Act.put, List.setIfInBounds_toArray, List.set_cons_zero, List.set_cons_succ]
        refine wpAnyH_ready (rs := [7]) (by kernel_rfl) (by simp) ?_
        refine AllReadyH.cons (o := { dst := none, op := Go.Op.mapUpdate 97 (Go.Operand.tmp 28) (Go.Operand.tmp 29) (Go.Operand.tmp 31), type := 0, pos := "pages.go:172", after := #[{ on := 3, ground := Go.Ground.data }, { on := 4, ground := Go.Ground.data }, { on := 6, ground := Go.Ground.data }, { on := 6, ground := Go.Ground.chain }, { on := 0, ground := Go.Ground.phase }, { on := 1, ground := Go.Ground.phase }, { on := 2, ground := Go.Ground.phase }, { on := 3, ground := Go.Ground.phase }, { on := 4, ground := Go.Ground.phase }, { on := 5, ground := Go.Ground.phase }, { on := 6, ground := Go.Ground.phase }], guard := none }) rfl (fun K hK => ?_) AllReadyH.nil
        go_simp
        refine hK.out _ _ (c2'') (fun hHeld => ?_)
        clear hK K
        try simp only [Act.put, List.setIfInBounds_toArray, List.set_cons_zero, List.set_cons_succ]
        refine wpAnyH_done (by kernel_rfl) ?_ _
        go_wp2
        go_ret
        refine ⟨rfl, PgD.step HK2.out (Fr.trans (Fr.of (below_drewN (Below.refl _ _) k1)) HF2.out) ?_⟩
        have hfin := HP2.out.wrote HTX.out n HU.out bs HLEN.out v4 HO4.out HB4.out HPM.out HGR.out
        rw [hd] at hfin
        exact hfin.weak
    · have hdc : decide (bs.length ≠ Bz) = true := by simp [hlen, hlb]
      have hb : (false || !usedP N Bz M T.L p || decide (bs.length ≠ Bz)) = true := by rw [hdc]; simp
      rw [if_pos hb]
      have hne : ((ln : Int) != (Bz : Int)) = true := by simp; omega
      clear h hdc hb
      go_enter Tryz.func25, Tryz.ntmps25
      go_wp2_with fail
      refine HR.out.mono ?_
      rintro e w1 ⟨rfl, rfl⟩
      go_wp2_with fail
      refine HBY.out.mono ?_
      rintro e w1 ⟨rfl, k1, rfl⟩
      go_wp2
      go_ret
      exact ⟨rfl, PgD.still HP.out.weak (below_drewN (Below.refl _ _) k1)⟩
  · rw [hd] at HR
    clear h
    simp only [Bool.true_or, if_true]
    go_enter Tryz.func25, Tryz.ntmps25
    go_wp2_with fail
    refine HR.out.mono ?_
    rintro e w1 ⟨rfl, rfl⟩
    go_wp2
    go_ret
    exact ⟨rfl, PgD.refl HP.out.weak⟩
end Go.Proofs.YtephmcbofcfpmaaGreat

