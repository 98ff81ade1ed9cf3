/- The document's disk: Flush, Write. Conditions: none. -/
import Derived.Test.YtikajhfaoccicaaRf3
namespace Go.Proofs.Ytikajhfaoccicaa
open Go.RowKit Go.Bs Go.Dk

theorem deed_flush (s : S) (hu : s.up = true) : s.flush = ({ s.deed.1 with L := cur s.deed.1.L s.deed.1.c, c := [] }, s.deed.2) := by
  unfold S.flush
  rw [if_neg (by rw [hu]; simp)]
  by_cases h0 : s.deed.2 = 0
  · rw [if_pos h0, h0, (deed_zero h0).1, (deed_zero h0).2]
  · rw [if_neg h0]
    unfold S.deed at h0 ⊢
    by_cases h1 : s.left = 0
    · rw [if_pos h1] at h0; exact absurd rfl h0
    · rw [if_neg h1] at h0 ⊢
      by_cases h2 : s.left = 1
      · rw [if_pos h2]
        unfold S.crash
        simp only [hu, if_true]
        rfl
      · rw [if_neg h2] at h0; exact absurd rfl h0
theorem take_all_cur (L : Nat → List UInt8) (c : List Wr) (k : Nat) (h : k = c.length) : cur L (c.take k) = cur L c := by rw [h, List.take_length]
theorem take_more (c : List Wr) (k : Nat) (h : k < c.length) : c.take (k + 1) = c.take k ++ [wAt c k] := by
  rw [List.take_succ_eq_append_getElem h, wAt, List.getD, List.getElem?_eq_getElem h]; rfl

set_option maxRecDepth 100000 in
set_option maxHeartbeats 4000000 in
theorem rFlush_any (w : World) (r : Nat) (s : S) (D : Nat → Prop) (h : RefAt w r s D) (hd : s.deeds < 800000) :
    Calls Try.prog 16 #[.pointer (some ⟨r, 0, none⟩)] w fun e w' => e = .returned (.int .i64 s.flush.2) ∧ RDid D r s.flush.1 w w' := by
  have HR := Lib.hid h
  have HDE := Lib.hid (rdeed_any w r s D h hd)
  obtain ⟨Lv, cv, kv, kl, E, h⟩ := h
  obtain ⟨_, _, _, c3, _, _, _, _⟩ := rc_cells h.row
  cases hu : s.up
  · rw [hu] at c3
    have HE : Hid (s.flush = (s, 50)) := by show s.flush = (s, 50); unfold S.flush; rw [if_pos hu]
    clear h hd hu
    go_enter Try.func16, Try.ntmps16
    go_wp2
    go_ret
    rw [HE.out]
    exact ⟨rfl, RDid.refl HR.out⟩
  · rw [hu] at c3
    have hfe := deed_flush s hu
    have HFE := Lib.hid hfe
    have hdd := S.deed_deeds s
    obtain ⟨er, her⟩ : ∃ er, s.deed.2 = er := ⟨_, rfl⟩
    rw [her] at HDE
    have HER := Lib.hid her
    obtain ⟨s1, hs1⟩ : ∃ s1, s.deed.1 = s1 := ⟨_, rfl⟩
    rw [hs1] at HDE hdd
    have HS1 := Lib.hid hs1
    clear h hu hfe her hs1
    go_enter Try.func16, Try.ntmps16
    go_wp2_with fail
    refine HDE.out.mono ?_
    rintro e w1 ⟨rfl, D1, ⟨Lv1, cv1, kv1, kl1, E1, h1⟩, hk1, hf1⟩
    have HK1 := Lib.hid hk1
    have HF1 := Lib.hid hf1
    clear hk1 hf1 c3
    obtain ⟨lb, lcap, rfl, hlc, hlb, hlcell, _⟩ := h1.lrow.form h1.ok.s0
    obtain ⟨Ac, ccap, rfl⟩ := cv_form h1.cache
    obtain ⟨_, c1, c2, _, _, _, _, _⟩ := rc_cells h1.row
    have hss := h1.ok.s1
    have hcd := h1.ok.cd
    have hrlb : r ≠ lb := fun e => (h1.lD lb rfl).2 e.symm
    have HB := Lib.hid h1
    obtain ⟨len, hlen⟩ : ∃ len, s1.c.length = len := ⟨_, rfl⟩
    have HLEN := Lib.hid hlen
    have HEL : Hid (E1.length = len) := by show E1.length = len; rw [h1.elen]; exact hlen
    rw [HEL.out] at c2
    have hll : len ≤ 1000000 := by omega
    have HLR := Lib.hid h1.lrow
    clear h1 hlcell hcd hlen hdd
    go_wp2
    go_loopw [4] (fun i wr => ∃ k : Nat, k ≤ len ∧ i = .int .i64 k ∧ Fr (fun k => k = lb) w1 wr ∧ lS wr (.slice (some ⟨lb, 0, none⟩) s1.sectors lcap) s1.sectors (cur s1.L (s1.c.take k))) (fun i _ => len - (intOf i).toNat)
    case atStart => exact ⟨0, Nat.zero_le _, rfl, Fr.refl _ _, by rw [List.take_zero]; exact HLR.out⟩
    case round =>
      obtain ⟨k, hk, rfl, hF, hL⟩ := hrel
      have hrow := (hF.block r (HB.out.lt r HB.out.rD) hrlb).trans HB.out.row
      obtain ⟨_, d1, d2, d3, _, _, _, df⟩ := rc_cells hrow
      have df2 := df 2
      rw [HEL.out] at d2
      have HF := Lib.hid hF
      have HL := Lib.hid hL
      have HRW := Lib.hid hrow
      by_cases hlt : k < len
      · obtain ⟨b, cap, p, gx, cx, bs, ecv, hcp, x1, x2, hrd, hwat, hp⟩ := HB.out.at hF k (by rw [HLEN.out]; exact hlt)
        rw [HLEN.out] at ecv hcp
        cases ecv
        have hst := string_rd wr.drew _ _ _ _ hrd.drew
        obtain ⟨lb', lcap', ee, _, hlb', hlc', hlf'⟩ := hL.form HB.out.ok.s0
        cases ee
        have hcp' := hlc' p hp
        have hfp := hlf' p
        have HWA := Lib.hid hwat
        have HTK := Lib.hid (take_more s1.c k (by rw [HLEN.out]; exact hlt))
        clear hF hL hrow df hwat hrd hlc' hlf'
        go_wp2_with fail
        go_still_tail 22, mixed
        go_wp2
        go_roundw
        case rel => exact ⟨k + 1, by omega, by go_num, (HF.out.setCell (.inl rfl) _).drew, by rw [HTK.out, cur_snoc, HWA.out]; exact HL.out.set p hp bs⟩
        case measure => simp [intOf]; omega
      · obtain rfl : k = len := by omega
        rw [take_all_cur _ _ k HLEN.out.symm] at hL
        have HL2 := Lib.hid hL
        clear hF hL hrow df
        go_wp2
        go_ret
        rw [HFE.out, HER.out, HS1.out]
        refine ⟨rfl, ?_⟩
        refine RDid.step HK1.out HF1.out ?_
        have hrow2 := rc_set HRW.out 2 (.slice none 0 0) { s1 with L := cur s1.L s1.c, c := [] } _ (.slice none 0 0) kv1 rfl
        have hfr : Fr (fun j => j = r ∨ Value.ownBlock (.slice (some ⟨lb, 0, none⟩) s1.sectors lcap) = some j) w1 (wr.setCell ⟨r, 2, none⟩ (.slice none 0 0)) :=
          ((HF.out.mono (fun j e => (by subst e; exact .inr rfl))).setCell (.inl (.inl rfl)) _)
        have hok := HB.out.ok
        refine texts_at HB.out { s1 with L := cur s1.L s1.c, c := [] } ⟨hok.s0, hok.s1, hok.b0, hok.b1, Nat.zero_le _, hok.lf, fun p hp => (by cases hp), fun k => hok.curLen k⟩ rfl rfl rfl rfl hrow2 ?_ hfr
        exact ownsRow_keepB HL2.out fun j e => by
          have hj : j ≠ r := fun e2 => by
            subst e2
            exact (HB.out.lD j e).2 rfl
          rw [setCell_other _ _ _ _ _ hj]

theorem change_info : (Try.prog.info? 68).map (fun i => (i.zero, i.size, i.bytes)) = some (some (.agg #[.int .i64 0, .slice none 0 0]), 2, 32) := by kernel_rfl
theorem eAt2_old (E : List En2) (e : En2) (i : Nat) (h : i < E.length) : eAt2 (E ++ [e]) i = eAt2 E i := by simp [eAt2, List.getD, List.getElem?_append_left h]
theorem eAt2_new (E : List En2) (e : En2) : eAt2 (E ++ [e]) E.length = e := by simp [eAt2, List.getD]

/-- one write more in the cache. -/
theorem rwrite_at {w w' : World} {r : Nat} {s : S} {D : Nat → Prop} {Lv cv kv : Value} {kl : List Bool} {E : List En2} (h : RB w r s D Lv cv kv kl E) (hfine : s.c.length ≤ s.deeds) (k : Nat) (hk : k < s.sectors) (bs : List UInt8) (hbs : bs.length = s.bytes) (g' cap' gc cc : Nat)
    (hown : w'.ownsRow 0 68 2 (.slice (some ⟨g', 0, none⟩) (E.length + 1) cap') (E.length + 1) (E.flatMap ent2 ++ [.int .i64 (k : Int), .slice (some ⟨gc, 0, none⟩) s.bytes cc]))
    (hg' : cv.ownBlock = some g' ∨ w.heap.size ≤ g') (hg'lt : g' < w'.heap.size) (hgc : w.heap.size ≤ gc) (hgcg : gc ≠ g') (hgclt : gc < w'.heap.size) (hrc : Rd w' (some ⟨gc, 0, none⟩) s.bytes cc bs)
    (hrow : w'.heap[r]? = some (.cells (rc s Lv (.slice (some ⟨g', 0, none⟩) (E.length + 1) cap') kv) 49 (0, 0)))
    (hfr : Fr (fun j => j = r ∨ cv.ownBlock = some j) w w') :
    RB w' r { s with c := s.c ++ [(k, bs)] } (fun j => D j ∨ (w.heap.size ≤ j ∧ j < w'.heap.size)) Lv (.slice (some ⟨g', 0, none⟩) (E.length + 1) cap') kv kl (E ++ [(k, (some ⟨gc, 0, none⟩, s.bytes, cc))]) := by
  have hsz := hfr.size
  have hrlt := h.lt r h.rD
  have hkD : ∀ j, De D r Lv cv j → w'.heap[j]? = w.heap[j]? := fun j hd => hfr.block j (h.lt j hd.1) (by rintro (e | e); exact hd.2.1 e; exact hd.2.2.2 e)
  have hdd : ∀ j, De D r Lv cv j → De (fun j => D j ∨ (w.heap.size ≤ j ∧ j < w'.heap.size)) r Lv (.slice (some ⟨g', 0, none⟩) (E.length + 1) cap') j := fun j hd => ⟨.inl hd.1, hd.2.1, hd.2.2.1, fun e => by
    have e' : g' = j := by simpa [Value.ownBlock] using e
    subst e'
    rcases hg' with h1 | h1
    · exact hd.2.2.2 h1
    · have := h.lt g' hd.1; omega⟩
  have hLc : ∀ j, Lv.ownBlock = some j → cv.ownBlock ≠ some j := fun j e e2 => (h.cD j e2).2.2 e
  refine ⟨⟨h.ok.s0, h.ok.s1, h.ok.b0, h.ok.b1, by simp; exact hfine, h.ok.lf, fun p hp => ?_, h.ok.ls⟩, hrow, ownsRow_keepB h.lrow fun j e => hfr.block j (h.lt j (h.lD j e).1) (by rintro (e2 | e2); exact (h.lD j e).2 e2; exact hLc j e e2), fun j e => ⟨.inl (h.lD j e).1, (h.lD j e).2⟩, ?_, fun j e => ?_, by simp [h.elen], fun i hi => ?_, h.keep.keep hsz hkD hdd, h.kk, .inl h.rD, fun j hd => ?_⟩
  · rcases List.mem_append.1 hp with hp | hp
    · exact h.ok.cs p hp
    · obtain rfl : p = (k, bs) := by simpa using hp
      exact ⟨hk, hbs⟩
  · rw [List.length_append, List.flatMap_append]
    simpa [ent2, sv] using hown
  · have e' : g' = j := by simpa [Value.ownBlock] using e
    subst e'
    rcases hg' with h1 | h1
    · exact ⟨.inl (h.cD g' h1).1, (h.cD g' h1).2⟩
    · exact ⟨.inr ⟨h1, hg'lt⟩, by omega, fun e => by have := h.lt _ (h.lD _ e).1; omega⟩
  · show (eAt2 _ i).1 = (wAt (s.c ++ [(k, bs)]) i).1 ∧ RdN w' _ (sv (eAt2 _ i).2) s.bytes (wAt (s.c ++ [(k, bs)]) i).2
    have hi' : i < s.c.length + 1 := by simpa using hi
    by_cases hic : i < s.c.length
    · rw [eAt2_old _ _ _ (by rw [h.elen]; exact hic), wAt_old _ _ _ hic]
      have := h.ents i hic
      exact ⟨this.1, this.2.keep hsz hkD hdd⟩
    · obtain rfl : i = s.c.length := by omega
      rw [wAt_new]
      have e2 : eAt2 (E ++ [(k, (some ⟨gc, 0, none⟩, s.bytes, cc))]) s.c.length = (k, (some ⟨gc, 0, none⟩, s.bytes, cc)) := by rw [← h.elen]; exact eAt2_new _ _
      rw [e2]
      refine ⟨rfl, gc, cc, rfl, ⟨.inr ⟨hgc, hgclt⟩, by omega, fun e => by have := h.lt _ (h.lD _ e).1; omega, fun e => hgcg (by
        have : g' = gc := by simpa [Value.ownBlock] using e
        exact this.symm)⟩, hrc⟩
  · rcases hd with hd | hd
    · have := h.lt j hd; omega
    · exact hd.2

set_option maxRecDepth 100000 in
set_option maxHeartbeats 2000000 in
theorem rWrite_yes (w : World) (r : Nat) (s : S) (D : Nat → Prop) (h : RefAt w r s D) (hfine : s.c.length ≤ s.deeds) (hd : s.deeds < 800000) (hu : s.up = true) (k : Nat) (hk : k < s.sectors) (A : Option Addr) (n c : Nat) (bs : List UInt8) (hr : Rd w A n c bs) (hn : n = s.bytes) :
    Calls Try.prog 14 #[.pointer (some ⟨r, 0, none⟩), .int .i64 (k : Int), .slice A n c] w fun e w' => e = .returned (.int .i64 ({ s with c := s.c ++ [(k, bs)] } : S).deed.2) ∧ RDid D r ({ s with c := s.c ++ [(k, bs)] } : S).deed.1 w w' := by
  obtain ⟨Lv, cv, kv, kl, E, hb⟩ := h
  have HB := Lib.hid hb
  have hb1 := hb.ok.b1
  have hb0 := hb.ok.b0
  have hs1 := hb.ok.s1
  have hel := hb.elen
  obtain ⟨lb, lcap, rfl, hlc, hlb, _, _⟩ := hb.lrow.form hb.ok.s0
  obtain ⟨Ac, len, ccap, rfl, hEl⟩ : ∃ A len cap, cv = .slice A len cap ∧ E.length = len := by
    obtain ⟨A, cap, e⟩ := cv_form hb.cache
    exact ⟨A, _, cap, e, rfl⟩
  obtain ⟨c0, c1, c2, c3, _, _, _, hf⟩ := rc_cells hb.row
  rw [hu] at c3
  have HLB := Lib.hid hr.len
  have HN := Lib.hid hn
  rw [← hn] at c0 hb1 hb0
  have HEL := Lib.hid hEl
  have hlen : len ≤ 800000 := by omega
  obtain ⟨v, w2, hrun1, ho, hbel⟩ := run_app (P := Try.prog) w w.heap.size 32 32 5 Try.underlying32 u8_info (.slice none 0 0) [] (Own.nil _ _ _) A n c bs hr (by simp; omega) (Nat.le_refl _)
  rw [List.nil_append] at ho
  obtain ⟨gc, cc, rfl, hgc, hgc2, hrc⟩ : ∃ gc cc, v = .slice (some ⟨gc, 0, none⟩) n cc ∧ w.heap.size ≤ gc ∧ gc < w2.heap.size ∧ Rd w2 (some ⟨gc, 0, none⟩) n cc bs := by
    obtain ⟨A, c', hv, hrd⟩ := ho.slice n HLB.out
    rcases ho.2 with ⟨e1, e2⟩ | ⟨b, cap, cur, e1, e2, e3, _⟩
    · rw [HLB.out] at e2; omega
    · rw [hv] at e1
      cases e1
      exact ⟨b, _, hv, e2, (Array.getElem?_eq_some_iff.1 e3).1, hrd⟩
  have hrow2 := (hbel.block r (hb.lt r hb.rD)).trans hb.row
  obtain ⟨_, _, a2, _, _, _, _, af⟩ := rc_cells hrow2
  have hcache2 := ownsRow_keepB (w' := w2) hb.cache fun k e => hbel.block k (hb.lt k (hb.cD k e).1)
  obtain ⟨i0, hi, hz0, hz1, hz2⟩ := info_parts change_info
  obtain ⟨z2, hz2'⟩ : ∃ z2, w2.heap.size = z2 := ⟨_, rfl⟩
  obtain ⟨X, hX⟩ : ∃ X, w2.alloc (.cells #[.int .i64 (k : Int), .slice (some ⟨gc, 0, none⟩) n cc] 68) = X := ⟨_, rfl⟩
  have hXb : Below w2.heap.size w2 X := by rw [← hX]; exact (Below.refl _ w2).alloc (Nat.le_refl _) _
  have hXn : X.heap[z2]? = some (.cells #[.int .i64 (k : Int), .slice (some ⟨gc, 0, none⟩) n cc] 68 (0, 0)) := by rw [← hX, ← hz2']; exact heap_alloc_new w2 _
  have hXs : X.heap.size = z2 + 1 := by rw [← hX, World.size_alloc, ← hz2']
  have hcX := ownsRow_keepB (w' := X) hcache2 fun j e => hXb.block j (Nat.lt_of_lt_of_le (hb.lt j (hb.cD j e).1) hbel.size)
  rw [hEl] at hcX
  obtain ⟨g', cap', w4, hrun, hown4, hgr4, hat, hlt⟩ := run_append_lies (P := Try.prog) X 47 47 0 68 i0 _ 2 32 Try.underlying47 hi hz0 hz1 hz2 rfl (by omega) (.slice Ac len ccap) len (E.flatMap ent2) hcX ⟨z2, 0, none⟩ 1 1 [.int .i64 (k : Int), .slice (some ⟨gc, 0, none⟩) n cc] rfl
    (fun j u hj => by rw [addr_add, Nat.zero_add, cell_of_row X z2 j _ 68 (0, 0) hXn, ← hj]; exact List.getElem?_toArray) (by simp [Value.oneCell']) (by omega) (by unfold maxLen; omega) (by omega) (by omega) _ hXs
  have hoc : ∀ j, Value.ownBlock (.slice Ac len ccap) = some j → j < w.heap.size := fun j e => hb.lt j (hb.cD j e).1
  have hsz2 := hbel.size
  have hsz4 := hgr4.size
  have hrlt := hb.lt r hb.rD
  have hrow4 : w4.heap[r]? = some (.cells (rc s (.slice (some ⟨lb, 0, none⟩) s.sectors lcap) (.slice Ac len ccap) kv) 49 (0, 0)) := by
    exact (hgr4.block r (by omega) (fun e => (hb.cD r e.symm).2.1 rfl)).trans ((hXb.block r (by omega)).trans hrow2)
  obtain ⟨_, _, d2, _, _, _, _, df⟩ := rc_cells hrow4
  have df2 := df 2
  have hrow5 := rc_set hrow4 2 (.slice (some ⟨g', 0, none⟩) (len + 1) cap') s _ (.slice (some ⟨g', 0, none⟩) (len + 1) cap') kv rfl
  obtain ⟨W5, hW5⟩ : ∃ W5, w4.setCell ⟨r, 2, none⟩ (.slice (some ⟨g', 0, none⟩) (len + 1) cap') = W5 := ⟨_, rfl⟩
  have h5 : ∀ j, j ≠ r → W5.heap[j]? = w4.heap[j]? := fun j hj => by rw [← hW5]; exact setCell_other _ _ _ _ _ hj
  have hs5 : W5.heap.size = w4.heap.size := by rw [← hW5]; exact setCell_size _ _ _
  rw [hW5] at hrow5
  have hg'w : Value.ownBlock (.slice Ac len ccap) = some g' ∨ w.heap.size ≤ g' := hat.imp id (fun e => by omega)
  have hg'r : g' ≠ r := by
    rcases hat with e | e
    · exact (hb.cD g' e).2.1
    · omega
  have hfr4 : Fr (fun j => j = r ∨ Value.ownBlock (.slice Ac len ccap) = some j) w w4 := ((Fr.of hbel).trans (Fr.of hXb)).grown hgr4 (fun j e => .inl (.inr e))
  have hfr5 : Fr (fun j => j = r ∨ Value.ownBlock (.slice Ac len ccap) = some j) w W5 := by rw [← hW5]; exact hfr4.setCell (.inl (.inl rfl)) _
  have hrc5 : Rd W5 (some ⟨gc, 0, none⟩) n cc bs := Rd.keepB (hrc.keep hXb) (by omega) (fun a e => by
    cases e
    exact (h5 gc (by omega)).trans (hgr4.block gc (by omega) (fun e => by have := hoc gc e.symm; omega)))
  have hRB5 : RefAt W5 r { s with c := s.c ++ [(k, bs)] } (fun j => D j ∨ (w.heap.size ≤ j ∧ j < W5.heap.size)) := by
    refine ⟨_, _, _, _, _, rwrite_at hb hfine k hk bs (by rw [HLB.out]; exact hn) g' cap' gc cc ?_ hg'w (by omega) hgc ?_ (by omega) (by rw [← hn]; exact hrc5) ?_ hfr5⟩
    · rw [hEl, ← hn]
      exact ownsRow_keepB hown4 fun j e => by
        have e' : g' = j := by simpa [Value.ownBlock] using e
        subst e'
        exact h5 g' hg'r
    · rcases hat with e | e
      · have := hoc g' e; omega
      · omega
    · rw [hEl]
      exact hrow5
  have HDE := Lib.hid (rdeed_any W5 r _ _ hRB5 hd)
  have HFR5 : Hid (Fr D w W5) := hfr5.mono (by
    rintro j (e | e)
    · subst e; exact hb.rD
    · exact (hb.cD j e).1)
  have hrun1' : ∀ ty, (Builtin.append_ #[32, 32] ty #[.slice none 0 0, .slice A n c]).run Try.prog w = .ok (.slice (some ⟨gc, 0, none⟩) n cc) w2 := fun _ => hrun1
  have hrun' : ∀ ty, (Builtin.append_ #[47, 47] ty #[.slice Ac len ccap, .slice (some ⟨z2, 0, none⟩) 1 1]).run Try.prog X = .ok (.slice (some ⟨g', 0, none⟩) (len + 1) cap') w4 := fun _ => hrun
  have HRUN1 := Lib.hid hrun1'
  have HRUN := Lib.hid hrun'
  have hkk : ¬ ((k : Int) < 0) := by omega
  have hks : (k : Int) < (s.sectors : Int) := by omega
  clear hb hr hu hn hEl hel hrun1 ho hbel hrc hrow2 af hcache2 hi hz0 hz1 hz2 hXb hXn hXs hcX hrun hown4 hgr4 hat hlt hoc hsz2 hsz4 hrlt hrow4 df hrow5 h5 hs5 hg'w hg'r hfr4 hfr5 hrc5 hRB5 hf hrun1' hrun' hfine
  go_enter Try.func14, Try.ntmps14
  go_wp2_with (first | (at_builtin; refine wpList_run_app _ rfl _ _ 32 rfl _ _ _ _ rfl rfl HRUN1.out ?_) | (at_builtin; refine wpList_run_app _ rfl _ _ 47 rfl _ _ _ _ rfl rfl HRUN.out ?_) | (at_builtin; go_in))
  refine HDE.out.mono ?_
  rintro e w7 ⟨rfl, hd7⟩
  have HD7 := Lib.hid hd7
  clear hd7
  go_wp2
  go_ret
  exact ⟨rfl, RDid.step (fun j h => h.imp id (·.1)) HFR5.out HD7.out⟩
end Go.Proofs.Ytikajhfaoccicaa
