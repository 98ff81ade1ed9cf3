/- The document's disk: Crash, a deed, Flush. Conditions: none. -/
import Derived.Test.YtikajhfaoccicaaRf2
namespace Go.Proofs.Ytikajhfaoccicaa
open Go.RowKit Go.Bs Go.Dk

theorem kept_more (ks : List Bool) (c : List Wr) (i : Nat) (h : ks.length ≤ i) : kept (ks.take (i + 1)) c = kept (ks.take i) c := by
  rw [List.take_of_length_le (by omega), List.take_of_length_le h]
theorem kept_no (ks : List Bool) (c : List Wr) (i : Nat) (h : i < ks.length) (hc : i < c.length) (hf : ks.getD i false = false) : kept (ks.take (i + 1)) c = kept (ks.take i) c := by
  rw [kept_take_succ ks c i h hc]
  rw [List.getD, List.getElem?_eq_getElem h] at hf
  simp only [Option.getD_some] at hf
  simp [hf]
theorem kept_yes (ks : List Bool) (c : List Wr) (i : Nat) (h : i < ks.length) (hc : i < c.length) (hf : ks.getD i false = true) : kept (ks.take (i + 1)) c = kept (ks.take i) c ++ [wAt c i] := by
  rw [kept_take_succ ks c i h hc]
  rw [List.getD, List.getElem?_eq_getElem h] at hf
  simp only [Option.getD_some] at hf
  simp [hf, wAt, List.getD, List.getElem?_eq_getElem hc]
theorem kept_end (ks : List Bool) (c : List Wr) : kept (ks.take c.length) c = kept ks c := by
  rcases Nat.le_total ks.length c.length with h | h
  · rw [List.take_of_length_le h]
  · exact kept_take_all ks c _ (by omega)

/-- what a round over the cache sees at place i. -/
theorem RB.at {w wr : World} {r : Nat} {s : S} {D : Nat → Prop} {lb lcap : Nat} {cv kv : Value} {kl : List Bool} {E : List En2} (h : RB w r s D (.slice (some ⟨lb, 0, none⟩) s.sectors lcap) cv kv kl E) (hF : Fr (fun k => k = lb) w wr) (i : Nat) (hi : i < s.c.length) :
    ∃ (b cap p gx cx : Nat) (bs : List UInt8), cv = .slice (some ⟨b, 0, none⟩) s.c.length cap ∧ s.c.length ≤ cap ∧ wr.cell? ⟨b, i * 2, none⟩ = some (.int .i64 (p : Int)) ∧ wr.cell? ⟨b, i * 2 + 1, none⟩ = some (.slice (some ⟨gx, 0, none⟩) s.bytes cx) ∧ Rd wr (some ⟨gx, 0, none⟩) s.bytes cx bs ∧ wAt s.c i = (p, bs) ∧ p < s.sectors := by
  have hel := h.elen
  obtain ⟨b, cap, e, hcp, _, hcells⟩ := cache2_cells h.cache (by omega)
  have hbD := h.cD b (by rw [e]; rfl)
  have hlbne : ∀ k, De D r (.slice (some ⟨lb, 0, none⟩) s.sectors lcap) cv k → k ≠ lb := fun k hd e => hd.2.2.1 (by rw [e]; rfl)
  have hbb : wr.heap[b]? = w.heap[b]? := hF.block b (h.lt b hbD.1) (fun e2 => hbD.2.2 (by rw [e2]; rfl))
  obtain ⟨e1, e2⟩ := hcells i (by omega)
  obtain ⟨h1, gx, cx, h2, h3, h4⟩ := h.ents i hi
  refine ⟨b, cap, (wAt s.c i).1, gx, cx, (wAt s.c i).2, by rw [e, hel], by omega, ?_, ?_, ?_, rfl, ?_⟩
  · rw [← h1, ← e1]; exact World.cell?_of_block (a := ⟨b, i * 2, none⟩) hbb
  · rw [← h2, ← e2]; exact World.cell?_of_block (a := ⟨b, i * 2 + 1, none⟩) hbb
  · exact Rd.keepB h4 hF.size fun a ha => by cases ha; exact hF.block gx (h.lt gx h3.1) (hlbne gx h3)
  · refine (h.ok.cs _ ?_).1
    unfold wAt
    rw [List.getD, List.getElem?_eq_getElem hi]
    exact List.getElem_mem hi

set_option maxRecDepth 100000 in
set_option maxHeartbeats 4000000 in
theorem rCrash_any (w : World) (r : Nat) (s : S) (D : Nat → Prop) (h : RefAt w r s D) (hd : s.deeds < 900000) (A : Option Addr) (n c : Nat) (ks : List Bool) (hq : RdQ w A n c ks) (hA : 0 < n → ∀ a, A = some a → ∀ Lv cv kv kl E, RB w r s D Lv cv kv kl E → Lv.ownBlock ≠ some a.block) :
    Calls Try.prog 20 #[.pointer (some ⟨r, 0, none⟩), .slice A n c] w fun e w' => (∃ v, e = .returned v) ∧ RDid D r (s.crash ks) w w' := by
  have HR := Lib.hid h
  obtain ⟨Lv, cv, kv, kl, E, h⟩ := h
  have HAL : Hid (0 < n → ∀ a, A = some a → Lv.ownBlock ≠ some a.block) := fun h0 a e => hA h0 a e Lv cv kv kl E h
  clear hA
  obtain ⟨lb, lcap, rfl, hlc, hlb, hlcell, _⟩ := h.lrow.form h.ok.s0
  obtain ⟨Ac, ccap, rfl⟩ := cv_form h.cache
  obtain ⟨_, c1, c2, c3, _, _, _, hf⟩ := rc_cells h.row
  have hf3 := hf 3
  have hs1 := h.ok.s1
  have hcd := h.ok.cd
  have hrlb : r ≠ lb := fun e => (h.lD lb rfl).2 e.symm
  have HB := Lib.hid h
  have HQ := Lib.hid hq
  obtain ⟨len, hlen⟩ : ∃ len, s.c.length = len := ⟨_, rfl⟩
  have HLEN := Lib.hid hlen
  have HEL : Hid (E.length = len) := by show E.length = len; rw [h.elen]; exact hlen
  rw [HEL.out] at c2
  have hll : len ≤ 1000000 := by omega
  have HLR := Lib.hid h.lrow
  cases hu : s.up
  · rw [hu] at c3
    have HE : Hid (s.crash ks = s) := by show s.crash ks = s; unfold S.crash; rw [if_neg (by rw [hu]; simp)]
    clear h hlcell hf hq hcd hlen hu
    go_enter Try.func20, Try.ntmps20
    go_wp2
    first | go_end0 | refine bodyPost_ret (results_none rfl _ _ _) rfl ?_
    exact ⟨⟨_, rfl⟩, by rw [HE.out]; exact RDid.refl HR.out⟩
  · rw [hu] at c3
    have HU := Lib.hid hu
    clear h hlcell hf hq hcd hlen hu
    go_enter Try.func20, Try.ntmps20
    go_wp2
    go_loopw [4] (fun i wr => ∃ k : Nat, k ≤ len ∧ i = .int .i64 k ∧ Fr (fun k => k = lb) w wr ∧ lS wr (.slice (some ⟨lb, 0, none⟩) s.sectors lcap) s.sectors (cur s.L (kept (ks.take k) s.c))) (fun i _ => len - (intOf i).toNat)
    case atStart => exact ⟨0, Nat.zero_le _, rfl, Fr.refl _ _, by rw [List.take_zero]; exact HLR.out⟩
    case round =>
      obtain ⟨k, hk, rfl, hF, hL⟩ := hrel
      have hrow := (hF.block r (HB.out.lt r HB.out.rD) hrlb).trans HB.out.row
      obtain ⟨_, d1, d2, d3, _, _, _, df⟩ := rc_cells hrow
      have df2 := df 2
      have df3 := df 3
      rw [HEL.out] at d2
      have HF := Lib.hid hF
      have HL := Lib.hid hL
      have HRW := Lib.hid hrow
      by_cases hlt : k < len
      · obtain ⟨b, cap, p, gx, cx, bs, ecv, hcp, x1, x2, hrd, hwat, hp⟩ := HB.out.at hF k (by rw [HLEN.out]; exact hlt)
        rw [HLEN.out] at ecv hcp
        cases ecv
        have hst := string_rd wr.drew _ _ _ _ hrd.drew
        obtain ⟨lb', lcap', ee, _, hlb', hlc', hlf'⟩ := hL.form HB.out.ok.s0
        cases ee
        have hcp' := hlc' p hp
        have hfp := hlf' p
        have HWA := Lib.hid hwat
        have hkc : k < s.c.length := by rw [HLEN.out]; exact hlt
        by_cases hkn : k < n
        · obtain ⟨ga, oa, rfl, hga, hca⟩ := HQ.out.cells (by omega)
          have hkcell : wr.cell? ⟨ga, oa + k, none⟩ = some (.bool (ks.getD k false)) := by
            rw [← hca k hkn]
            exact World.cell?_of_block (a := ⟨ga, oa + k, none⟩) (hF.block ga hga (fun e => HAL.out (by omega) _ rfl (by rw [← e]; rfl)))
          cases hb : ks.getD k false
          · rw [hb] at hkcell
            have HK := Lib.hid (kept_no ks s.c k (by rw [HQ.out.len]; exact hkn) hkc hb)
            clear hca hF hL hrow df hwat hrd hb hlc' hlf' hst hcp' hfp x1 x2
            go_wp2
            go_roundw
            case rel => exact ⟨k + 1, by omega, by go_num, HF.out, by rw [HK.out]; exact HL.out⟩
            case measure => simp [intOf]; omega
          · rw [hb] at hkcell
            have HK := Lib.hid (kept_yes ks s.c k (by rw [HQ.out.len]; exact hkn) hkc hb)
            clear hca hF hL hrow df hwat hrd hb hlc' hlf'
            go_wp2_with fail
            go_still_tail 22, mixed
            go_wp2
            go_roundw
            case rel => exact ⟨k + 1, by omega, by go_num, (HF.out.setCell (.inl rfl) _).drew, by rw [HK.out, cur_snoc, HWA.out]; exact HL.out.set p hp bs⟩
            case measure => simp [intOf]; omega
        · have HK := Lib.hid (kept_more ks s.c k (by rw [HQ.out.len]; omega))
          clear hF hL hrow df hwat hrd hlc' hlf' hst hcp' hfp x1 x2
          go_wp2
          go_roundw
          case rel => exact ⟨k + 1, by omega, by go_num, HF.out, by rw [HK.out]; exact HL.out⟩
          case measure => simp [intOf]; omega
      · obtain rfl : k = len := by omega
        have hke : kept (ks.take k) s.c = kept ks s.c := by rw [← HLEN.out]; exact kept_end ks s.c
        rw [hke] at hL
        have HL2 := Lib.hid hL
        clear hF hL hrow df hke
        go_wp2
        go_end0
        refine ⟨⟨_, rfl⟩, ?_⟩
        have hs' : s.crash ks = { s with L := cur s.L (kept ks s.c), c := [], up := false } := by unfold S.crash; rw [if_pos HU.out]
        have hrow2 := rc_set HRW.out 2 (.slice none 0 0) s _ (.slice none 0 0) kv rfl
        have hrow3 := rc_set hrow2 3 (.bool false) (s.crash ks) _ (.slice none 0 0) kv (by rw [hs']; rfl)
        have hfr : Fr (fun j => j = r ∨ Value.ownBlock (.slice (some ⟨lb, 0, none⟩) s.sectors lcap) = some j) w ((wr.setCell ⟨r, 2, none⟩ (.slice none 0 0)).setCell ⟨r, 3, none⟩ (.bool false)) :=
          ((HF.out.mono (fun j e => (by subst e; exact .inr rfl))).setCell (.inl (.inl rfl)) _).setCell (.inl (.inl rfl)) _
        refine texts_at HB.out (s.crash ks) (HB.out.ok.crash ks) (by rw [hs']) (by rw [hs']) (by rw [hs']) (by rw [hs']) hrow3 ?_ hfr
        rw [hs']
        exact ownsRow_keepB HL2.out fun j e => by
          have hj : j ≠ r := fun e2 => by
            subst e2
            exact (HB.out.lD j e).2 rfl
          rw [setCell_other _ _ _ _ _ hj, setCell_other _ _ _ _ _ hj]

set_option maxHeartbeats 2000000 in
theorem rdeed_any (w : World) (r : Nat) (s : S) (D : Nat → Prop) (h : RefAt w r s D) (hd : s.deeds < 800000) :
    Calls Try.prog 33 #[.pointer (some ⟨r, 0, none⟩)] w fun e w' => e = .returned (.int .i64 s.deed.2) ∧ RDid D r s.deed.1 w w' := by
  obtain ⟨Lv, cv, kv, kl, E, h⟩ := h
  obtain ⟨_, _, _, _, c4, c5, c6, hf⟩ := rc_cells h.row
  have hf6 := hf 6
  have hf4 := hf 4
  have hok := h.ok
  have hcd := h.ok.cd
  have hlf := h.ok.lf
  have hkk := h.kk
  have hrow1 := rc_set h.row 6 (.int .i64 ((s.deeds + 1 : Nat) : Int)) { s with deeds := s.deeds + 1 } Lv cv kv rfl
  have h1 : RB (w.setCell ⟨r, 6, none⟩ (.int .i64 ((s.deeds + 1 : Nat) : Int))) r { s with deeds := s.deeds + 1 } D Lv cv kv kl E :=
    h.own' ⟨hok.s0, hok.s1, hok.b0, hok.b1, Nat.le_succ_of_le hcd, hok.lf, hok.cs, hok.ls⟩ rfl rfl rfl rfl hkk hrow1 (setCell_size _ _ _).symm (fun k hk => setCell_other _ _ _ _ _ hk)
  obtain ⟨W1, hW1⟩ : ∃ W1, w.setCell ⟨r, 6, none⟩ (.int .i64 ((s.deeds + 1 : Nat) : Int)) = W1 := ⟨_, rfl⟩
  have hfr1 : Fr D w W1 := by rw [← hW1]; exact (Fr.refl _ _).setCell (.inl h.rD) _
  rw [hW1] at h1 hrow1
  have hW1' : w.setCell ⟨r, 6, none⟩ (.int .i64 ((s.deeds : Int) + 1)) = W1 := by rw [← hW1]; rfl
  obtain ⟨_, _, _, _, b4, b5, _, bf⟩ := rc_cells hrow1
  have bf4 := bf 4
  by_cases hl1 : s.left = 1
  · have hrow2 := rc_set hrow1 4 (.int .i64 0) { s with deeds := s.deeds + 1, left := 0 } Lv cv kv rfl
    have h2 : RB (W1.setCell ⟨r, 4, none⟩ (.int .i64 0)) r { s with deeds := s.deeds + 1, left := 0 } D Lv cv kv kl E :=
      h1.own' ⟨hok.s0, hok.s1, hok.b0, hok.b1, Nat.le_succ_of_le hcd, Nat.zero_le _, hok.cs, hok.ls⟩ rfl rfl rfl rfl (.inl rfl) hrow2 (setCell_size _ _ _).symm (fun k hk => setCell_other _ _ _ _ _ hk)
    obtain ⟨W2, hW2⟩ : ∃ W2, W1.setCell ⟨r, 4, none⟩ (.int .i64 0) = W2 := ⟨_, rfl⟩
    have hfr2 : Fr D w W2 := by rw [← hW2]; exact hfr1.setCell (.inl h.rD) _
    rw [hW2] at h2 hrow2
    obtain ⟨_, _, _, _, _, d5, _, _⟩ := rc_cells hrow2
    have e : s.deed = (({ s with deeds := s.deeds + 1, left := 0 } : S).crash s.keep, 50) := by unfold S.deed; rw [if_neg (by omega), if_pos hl1]
    have hkl : kl = s.keep := hkk.resolve_left (by omega)
    obtain ⟨kA, kc, hkv, hkr, hkD⟩ := h2.keep
    rw [hkl] at hkv hkr
    have HC := Lib.hid (rCrash_any W2 r _ D ⟨Lv, cv, kv, kl, E, h2⟩ (by show s.deeds + 1 < 900000; omega) kA _ kc s.keep hkr (fun _ a ea Lv' cv' kv' kl' E' h' => by
      obtain ⟨_, x1, _⟩ := rc_cells h'.row
      obtain ⟨_, y1, _⟩ := rc_cells h2.row
      rw [x1] at y1
      cases y1
      exact (hkD a ea).2.2.1))
    rw [e]
    rw [hkv] at d5
    rw [hl1] at b4
    have HFR2 := Lib.hid hfr2
    clear h h1 h2 hfr1 hfr2 hrow1 hrow2 hok bf hf e hW1 hkr hkv c5 b5 hkD hkk hkl hl1 c4 hlf hcd
    go_enter Try.func33, Try.ntmps33
    go_wp2_with fail
    refine HC.out.mono ?_
    rintro e w3 ⟨⟨v, rfl⟩, hdid⟩
    have HDD := Lib.hid hdid
    clear hdid
    go_wp2
    go_ret
    exact ⟨rfl, RDid.step (fun _ h => .inl h) HFR2.out HDD.out⟩
  · by_cases hl0 : s.left = 0
    · have e : s.deed = ({ s with deeds := s.deeds + 1 }, 0) := by unfold S.deed; rw [if_pos hl0]
      rw [e]
      have HD1 := Lib.hid h1
      have HFR1 := Lib.hid hfr1
      rw [hl0] at b4
      clear h h1 hfr1 hrow1 hok bf hf e hW1 hl0 hlf c4 c5 b5 hkk hcd hl1
      go_enter Try.func33, Try.ntmps33
      go_wp2
      go_ret
      exact ⟨rfl, D, ⟨Lv, cv, kv, kl, E, HD1.out⟩, fun _ h => .inl h, HFR1.out⟩
    · obtain ⟨lf, hlfe⟩ : ∃ lf, s.left = lf + 1 := ⟨s.left - 1, by omega⟩
      have hrow2 := rc_set hrow1 4 (.int .i64 (lf : Int)) { s with deeds := s.deeds + 1, left := lf } Lv cv kv rfl
      have h2 : RB (W1.setCell ⟨r, 4, none⟩ (.int .i64 (lf : Int))) r { s with deeds := s.deeds + 1, left := lf } D Lv cv kv kl E :=
        h1.own' ⟨hok.s0, hok.s1, hok.b0, hok.b1, Nat.le_succ_of_le hcd, by show lf ≤ _; omega, hok.cs, hok.ls⟩ rfl rfl rfl rfl (.inr (hkk.resolve_left hl0)) hrow2 (setCell_size _ _ _).symm (fun k hk => setCell_other _ _ _ _ _ hk)
      have e : s.deed = ({ s with deeds := s.deeds + 1, left := lf }, 0) := by unfold S.deed; rw [if_neg hl0, if_neg hl1, hlfe]; rfl
      rw [e]
      have HD2 := Lib.hid h2
      have HFR2 : Hid (Fr D w (W1.setCell ⟨r, 4, none⟩ (.int .i64 (lf : Int)))) := hfr1.setCell (.inl h.rD) _
      have hlp : 0 < lf := by omega
      have hlr : lf + 1 ≤ 9223372036854775807 := by omega
      rw [hlfe] at b4
      have hne1 : ¬ ((lf + 1 : Nat) : Int) = 1 := by omega
      clear h h1 h2 hfr1 hrow1 hrow2 hok bf hf e hW1 hl0 hl1 hlfe hlf c4 c5 b5 hkk hcd
      go_enter Try.func33, Try.ntmps33
      go_wp2
      go_ret
      exact ⟨rfl, D, ⟨Lv, cv, kv, kl, E, HD2.out⟩, fun _ h => .inl h, HFR2.out⟩
end Go.Proofs.Ytikajhfaoccicaa
