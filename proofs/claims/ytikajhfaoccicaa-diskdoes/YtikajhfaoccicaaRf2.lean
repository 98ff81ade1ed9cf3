/- The document's disk: At, Read, Crash, a deed. Conditions: none. -/
import Derived.Test.YtikajhfaoccicaaRf
import Derived.StillTailTactics
namespace Go.Proofs.Ytikajhfaoccicaa
open Go.RowKit Go.Bs Go.Dk

theorem lS.form {w : World} {Lv : Value} {n : Nat} {L : Nat → List UInt8} (h : lS w Lv n L) (hn : 0 < n) : ∃ lb cap, Lv = .slice (some ⟨lb, 0, none⟩) n cap ∧ n ≤ cap ∧ lb < w.heap.size ∧ (∀ k, k < n → w.cell? ⟨lb, k, none⟩ = some (.string ⟨(L k).toArray⟩)) ∧ (∀ k, w.frozen? ⟨lb, k, none⟩ = false) := by
  rcases h.2 with ⟨_, h0⟩ | ⟨lb, cap, cur, e, _, h2, h3, _⟩
  · omega
  · refine ⟨lb, cap, e, h3, (Array.getElem?_eq_some_iff.1 h2).1, fun k hk => ?_, fun k => by simp [World.frozen?, h2]⟩
    have hc := h.cells (g := lb) (by rw [e]; rfl) k (.string ⟨(L k).toArray⟩) (by simp [hk])
    rwa [addr_add, Nat.zero_add] at hc
theorem lS.set {w : World} {n cap lb : Nat} {L : Nat → List UInt8} (h : lS w (.slice (some ⟨lb, 0, none⟩) n cap) n L) (k : Nat) (hk : k < n) (bs : List UInt8) : lS (w.setCell ⟨lb, k, none⟩ (.string ⟨bs.toArray⟩)) (.slice (some ⟨lb, 0, none⟩) n cap) n (upd L k bs) := by
  rcases h.2 with ⟨e, _⟩ | ⟨lb', cap', cur, e, h1, h2, h3, h4, h5, h6⟩
  · cases e
  · cases e
    refine ⟨by simp, .inr ⟨lb, cap, cur.setIfInBounds k (.string ⟨bs.toArray⟩), rfl, h1, ?_, h3, h4, by simp [h5], ?_⟩⟩
    · rw [setCell_eq_setRow w lb k _ 9 (0, 0) _ h2, setRow_heap w lb _ _ 9 _ h2]
    · rw [Array.toList_setIfInBounds, List.take_set, h6]
      apply List.ext_getElem
      · simp
      · intro i a1 a2
        have hi : i < n := by simpa using a2
        by_cases e : i = k
        · subst e; simp [upd]
        · simp [upd, e, List.getElem_set_ne (Ne.symm e)]
theorem flat_get2 (E : List En2) (j : Nat) (hj : j < E.length) : (E.flatMap ent2)[j * 2]? = some (.int .i64 ((eAt2 E j).1 : Int)) ∧ (E.flatMap ent2)[j * 2 + 1]? = some (sv (eAt2 E j).2) := by
  induction E generalizing j with
  | nil => simp at hj
  | cons e E ih =>
    cases j with
    | zero => exact ⟨rfl, rfl⟩
    | succ j =>
      have h := ih j (by simpa using hj)
      rw [show (j + 1) * 2 = j * 2 + 2 by omega]
      have e2 : eAt2 (e :: E) (j + 1) = eAt2 E j := by simp [eAt2]
      rw [e2]
      simpa [List.flatMap_cons, ent2] using h
theorem cache2_cells {w : World} {cv : Value} {E : List En2} (h : w.ownsRow 0 68 2 cv E.length (E.flatMap ent2)) (hn : 0 < E.length) :
    ∃ b cap, cv = .slice (some ⟨b, 0, none⟩) E.length cap ∧ E.length ≤ cap ∧ cap ≤ maxLen ∧ (∀ j, j < E.length → w.cell? ⟨b, j * 2, none⟩ = some (.int .i64 ((eAt2 E j).1 : Int)) ∧ w.cell? ⟨b, j * 2 + 1, none⟩ = some (sv (eAt2 E j).2)) := by
  rcases h.2 with ⟨e, e0⟩ | ⟨b, cap', cur, e, h1, h2, h3, h4, h5, h6⟩
  · omega
  · refine ⟨b, cap', e, h3, h4, fun j hj => ?_⟩
    obtain ⟨f1, f2⟩ := flat_get2 E j hj
    have hc := h.cells (g := b) (by rw [e]; rfl)
    refine ⟨?_, ?_⟩
    · have := hc _ _ f1; rwa [addr_add, Nat.zero_add] at this
    · have := hc _ _ f2; rwa [addr_add, Nat.zero_add] at this
theorem cv_form {w : World} {cv : Value} {E : List En2} (h : w.ownsRow 0 68 2 cv E.length (E.flatMap ent2)) : ∃ A cap, cv = .slice A E.length cap := by
  rcases h.2 with ⟨e, e0⟩ | ⟨b, cap', cur, e, _⟩
  · exact ⟨none, 0, by rw [e, e0]⟩
  · exact ⟨_, _, e⟩

theorem cur_hit (L : Nat → List UInt8) (c : List Wr) (k i : Nat) (h : i < c.length) (e : (wAt c i).1 = k) : cur L (c.take (i + 1)) k = (wAt c i).2 := by
  rw [take_wAt _ _ h, cur_snoc, e, upd_same]
theorem cur_miss (L : Nat → List UInt8) (c : List Wr) (k i : Nat) (h : i < c.length) (e : (wAt c i).1 ≠ k) : cur L (c.take (i + 1)) k = cur L (c.take i) k := by
  rw [take_wAt _ _ h, cur_snoc, upd_other _ _ _ _ (Ne.symm e)]

set_option maxHeartbeats 2000000 in
theorem rAt_any (w : World) (r : Nat) (s : S) (D : Nat → Prop) (h : RefAt w r s D) (hd : s.deeds < 900000) (q : Nat) (hq : q < s.sectors) :
    Calls Try.prog 37 #[.pointer (some ⟨r, 0, none⟩), .int .i64 (q : Int)] w fun e w' => e = .returned (.string ⟨(cur s.L s.c q).toArray⟩) ∧ w = w' := by
  obtain ⟨Lv, cv, kv, kl, E, h⟩ := h
  obtain ⟨lb, lcap, rfl, hlc, hlb, hlcell, _⟩ := h.lrow.form (by omega)
  obtain ⟨A, cap, rfl⟩ := cv_form h.cache
  obtain ⟨_, c1, c2, _⟩ := rc_cells h.row
  have hcl := hlcell q hq
  have hel := h.elen
  have hs1 := h.ok.s1
  have hcd := h.ok.cd
  obtain ⟨len, hlen⟩ : ∃ len, E.length = len := ⟨_, rfl⟩
  have HB := Lib.hid h
  have HLEN := Lib.hid hlen
  have hll : len ≤ 1000000 := by omega
  have HCL : Hid (s.c.length = len) := by show s.c.length = len; omega
  rw [hlen] at c2
  clear h hlcell hel hcd hlen
  go_enter Try.func37, Try.ntmps37
  go_wp2
  go_loop [5] (fun i => ∃ k : Nat, k ≤ len ∧ i = .int .i64 ((k : Int) - 1) ∧ cur s.L s.c q = cur s.L (s.c.take k) q) (fun i => ((intOf i) + 1).toNat)
  case atStart => exact ⟨len, Nat.le_refl _, by simp, by rw [← HCL.out, List.take_length]⟩
  case round =>
    obtain ⟨k, hk, rfl, hcur⟩ := hrel
    have HCU := Lib.hid hcur
    clear hcur
    rcases Nat.eq_zero_or_pos k with h0 | h0
    · subst h0
      have HE : Hid (cur s.L s.c q = s.L q) := by show _ = _; rw [HCU.out]; rfl
      go_wp2
      go_ret
      rw [HE.out]
      exact ⟨rfl, rfl⟩
    · obtain ⟨j, rfl⟩ : ∃ j, k = j + 1 := ⟨k - 1, by omega⟩
      have hkj : ((j + 1 : Nat) : Int) - 1 = (j : Int) := by omega
      rw [hkj]
      obtain ⟨b, cap', e, hcp, hcm, hcells⟩ := cache2_cells HB.out.cache (by rw [HLEN.out]; omega)
      rw [HLEN.out] at e hcp
      cases e
      obtain ⟨e1, e2⟩ := hcells j (by rw [HLEN.out]; omega)
      have hcj : j < s.c.length := by rw [HCL.out]; omega
      obtain ⟨he1, gx, cx, hsv, _, hrd⟩ := HB.out.ents j hcj
      rw [hsv] at e2
      have hst := string_rd w _ _ _ _ hrd
      rw [he1] at e1
      have HH := Lib.hid (cur_hit s.L s.c q j hcj)
      have HM := Lib.hid (cur_miss s.L s.c q j hcj)
      obtain ⟨p, hp⟩ : ∃ p, (wAt s.c j).1 = p := ⟨_, rfl⟩
      obtain ⟨bs, hbs⟩ : ∃ bs, (wAt s.c j).2 = bs := ⟨_, rfl⟩
      rw [hp] at e1 HH HM
      rw [hbs] at hst HH
      clear hcells hsv hrd he1 hp hbs hkj
      by_cases hpq : p = q
      · subst hpq
        have HE : Hid (cur s.L s.c p = bs) := by show _ = _; rw [HCU.out]; exact HH.out rfl
        go_wp2
        go_ret
        rw [HE.out]
        exact ⟨rfl, rfl⟩
      · have hpq' : ¬ (p : Int) = (q : Int) := by omega
        go_wp2
        go_round
        case rel => exact ⟨j, by omega, rfl, by rw [HCU.out]; exact HM.out hpq⟩
        case measure => simp [intOf]
set_option maxHeartbeats 1000000 in
theorem rRead_any (w : World) (r : Nat) (s : S) (D : Nat → Prop) (h : RefAt w r s D) (hd : s.deeds < 900000) (i : Int) :
    Calls Try.prog 24 #[.pointer (some ⟨r, 0, none⟩), .int .i64 i] w fun e w' => e = .returned (.tuple #[.string ⟨(s.read i).1.toArray⟩, .int .i64 (s.read i).2]) ∧ w = w' := by
  have HR := Lib.hid h
  obtain ⟨Lv, cv, kv, kl, E, h⟩ := h
  have hs0 := h.ok.s0
  have hs1 := h.ok.s1
  obtain ⟨lb, lcap, rfl, hlc, hlb, hlcell, _⟩ := h.lrow.form (by omega)
  obtain ⟨_, c1, _, c3, _⟩ := rc_cells h.row
  obtain ⟨n, hn⟩ : ∃ n, s.sectors = n := ⟨_, rfl⟩
  rw [hn] at c1 hs0 hs1
  unfold S.read
  cases hu : s.up
  · rw [hu] at c3
    clear h hlcell hu
    go_enter Try.func24, Try.ntmps24
    go_wp2
    go_ret2
    exact ⟨rfl, rfl⟩
  rw [hu] at c3
  clear h hlcell
  by_cases h0 : i < 0
  · have hh : s.has i = false := by simp [S.has]; omega
    rw [hh]
    clear hh
    go_enter Try.func24, Try.ntmps24
    go_wp2
    go_ret2
    exact ⟨rfl, rfl⟩
  obtain ⟨q, rfl⟩ := Int.eq_ofNat_of_zero_le (show 0 ≤ i by omega)
  by_cases h1 : q < n
  · have hh : s.has (q : Int) = true := by simp [S.has, hn]; omega
    rw [hh]
    have HA := Lib.hid (rAt_any w r s D HR.out hd q (by omega))
    clear hh
    go_enter Try.func24, Try.ntmps24
    go_wp2_with fail
    refine HA.out.mono ?_
    rintro e w1 ⟨rfl, rfl⟩
    go_wp2
    go_ret2
    exact ⟨rfl, rfl⟩
  · have hh : s.has (q : Int) = false := by simp [S.has, hn]; omega
    rw [hh]
    clear hh
    go_enter Try.func24, Try.ntmps24
    go_wp2
    go_ret2
    exact ⟨rfl, rfl⟩

/-- the texts turned, and the cache let go. -/
theorem texts_at {w w' : World} {r : Nat} {s : S} {D : Nat → Prop} {Lv cv kv : Value} {kl : List Bool} {E : List En2} (h : RB w r s D Lv cv kv kl E) (s' : S) (hok : s'.Ok) (e1 : s'.sectors = s.sectors) (e5 : s'.left = s.left) (e6 : s'.keep = s.keep) (e7 : s'.c = [])
    (hrow : w'.heap[r]? = some (.cells (rc s' Lv (.slice none 0 0) kv) 49 (0, 0))) (hl : lS w' Lv s.sectors s'.L) (hfr : Fr (fun k => k = r ∨ Lv.ownBlock = some k) w w') : RDid D r s' w w' := by
  have hsz := hfr.size
  have hkD : ∀ k, De D r Lv cv k → w'.heap[k]? = w.heap[k]? := fun k hd => hfr.block k (h.lt k hd.1) (by rintro (e | e); exact hd.2.1 e; exact hd.2.2.1 e)
  have hdd : ∀ k, De D r Lv cv k → De D r Lv (.slice none 0 0) k := fun k hd => ⟨hd.1, hd.2.1, hd.2.2.1, by simp [Value.ownBlock]⟩
  refine ⟨D, ⟨Lv, .slice none 0 0, kv, kl, [], hok, hrow, by rw [e1]; exact hl, h.lD, ⟨rfl, .inl ⟨rfl, rfl⟩⟩, fun k e => (by cases e), by rw [e7]; rfl, fun i hi => absurd hi (by rw [e7]; simp), h.keep.keep hsz hkD hdd, by rw [e5, e6]; exact h.kk, h.rD, fun k hd => Nat.lt_of_lt_of_le (h.lt k hd) hsz⟩, fun _ h => .inl h, hfr.mono ?_⟩
  rintro k (e | e)
  · subst e; exact h.rD
  · exact (h.lD k e).1
end Go.Proofs.Ytikajhfaoccicaa
