/- Pages are opened; the document's examples. Conditions: none. The document's examples are answered. Conditions: none. -/
import Derived.Test.YtephmcbofcfpmaaGreatJ30
import Derived.Test.YtephmcbofcfpmaaGreatJ20
set_option maxRecDepth 8000
set_option linter.unusedSimpArgs false
set_option linter.unusedVariables false
namespace Go.Proofs.YtephmcbofcfpmaaGreat
open Go.RowKit Go.Bs Go.Dk Rp

theorem pOpen_nil (w : World) : Calls Tryz.prog 54 #[.pointer none] w fun e w' => e = .returned (.tuple #[.pointer none, .int .i64 3]) ∧ w = w' := by
  go_enter Tryz.func54, Tryz.ntmps54
  go_wp2
  go_ret2
  exact ⟨rfl, rfl⟩
theorem zero61 (w : World) : (zeroValue 106).run Tryz.prog w = .ok (.agg #[.pointer none, .pointer none]) w := by kernel_rfl
set_option maxHeartbeats 1000000 in
theorem pOpen_any (w : World) (q g : Nat) (s : S) (log : Nat) (Dw : Nat → Prop) (h : WalAt w q g s log false Dw) (N M : Nat) (hN : nbl s log = N) (hM : mapN N s.bytes = M) :
    Calls Tryz.prog 54 #[.pointer (some ⟨q, 0, none⟩)] w fun e w' => (if M + 2 ≤ N then e = .returned (.tuple #[.pointer (some ⟨w.heap.size, 0, none⟩), .int .i64 0]) ∧ w'.heap[w.heap.size]? = some (.cells (pgr q (.pointer none)) 106 (0, 0)) else e = .returned (.tuple #[.pointer none, .int .i64 1])) ∧ Below w.heap.size w w' := by
  obtain ⟨z, hz⟩ : ∃ z, w.heap.size = z := ⟨_, rfl⟩
  obtain ⟨W1, hW1⟩ : ∃ W1, w.alloc (.cells #[.pointer (some ⟨q, 0, none⟩), .pointer none] 106) = W1 := ⟨_, rfl⟩
  have hb1 : Below w.heap.size w W1 := by rw [← hW1]; exact (Below.refl _ _).alloc (Nat.le_refl _) _
  have hrow : W1.heap[z]? = some (.cells (pgr q (.pointer none)) 106 (0, 0)) := by rw [← hW1, ← hz]; exact heap_alloc_new w _
  have HS := Lib.hid (pSize_any W1 z q g _ s log false Dw hrow (h.below hb1))
  have hs1 := h.disk.ok.s1
  have hb0 := h.disk.ok.b0
  have hml := mapN_le (nbl s log) s.bytes (by omega)
  have hNl : N ≤ 65536 := by rw [← hN]; unfold nbl; omega
  rw [hN, hM] at HS
  rw [hN, hM] at hml
  have HB1 := Lib.hid hb1
  have HROW := Lib.hid hrow
  have HZ := Lib.hid hz
  obtain ⟨b, hb⟩ : ∃ b, s.bytes = b := ⟨_, rfl⟩
  rw [hb] at HS
  obtain ⟨M1, hM1⟩ : ∃ M1, M + 1 = M1 := ⟨_, rfl⟩
  rw [hM1] at HS
  rw [hz]
  have hzero := zero61
  by_cases hc : M + 2 ≤ N
  · simp only [if_pos hc]
    have hle : (1 : Int) ≤ (N : Int) - (M1 : Int) := by omega
    clear h hb1 hrow hN hM hs1 hb0 hb hc hml
    go_enter Tryz.func54, Tryz.ntmps54
    go_wp2_with fail
    refine HS.out.mono ?_
    rintro e w1 ⟨rfl, k, rfl⟩
    go_wp2
    go_ret2
    exact ⟨⟨rfl, HROW.out⟩, by rw [← HZ.out]; exact below_drewN HB1.out k⟩
  · simp only [if_neg hc]
    have hle : (N : Int) - (M1 : Int) < 1 := by omega
    clear h hb1 hrow hN hM hs1 hb0 hb hc hml
    go_enter Tryz.func54, Tryz.ntmps54
    go_wp2_with fail
    refine HS.out.mono ?_
    rintro e w1 ⟨rfl, k, rfl⟩
    go_wp2
    go_ret2
    exact ⟨rfl, by rw [← HZ.out]; exact below_drewN HB1.out k⟩
set_option maxHeartbeats 1000000 in
/-- a disk, its wal, its pages. -/
theorem lopen_any (w : World) (g : Nat) (s s' : S) (D : Nat → Prop) (h : DiskAt w g s D) (hf : s.Fine) (log N Bz M : Nat) (L : Nat → List UInt8) (hm : may s log = true) (hd : s.deeds + 4 * (log + 1) < 900000) (hr : s.redo log = (s', 0)) (hu : s'.up = true) (hc : s'.c = []) (hun : unset s'.L)
    (hN : nbl s' log = N) (hB : s'.bytes = Bz) (hM : mapN N Bz = M) (hL : ∀ k, k < N → L k = wl s' log k) (hdL : M + 2 ≤ N → Dm N Bz M L) (hroot : M + 2 ≤ N → ∃ r, r ≤ 100000 ∧ L M = encR Bz r) :
    Calls Tryz.prog 13 #[.pointer (some ⟨g, 0, none⟩), .int .i64 (log : Int)] w fun e w' => (if M + 2 ≤ N then ∃ pp q D', e = .returned (.pointer (some ⟨pp, 0, none⟩)) ∧ Sp w' pp q g s' log N Bz M L D' ∧ (∀ k, D' k → D k ∨ w.heap.size ≤ k) else e = .returned (.pointer none)) ∧ Fr D w w' := by
  have HO := Lib.hid (Open_any w g s D h hf log hm hd)
  rw [hr] at HO
  have HDL := Lib.hid h.lt
  have HHN := Lib.hid hN
  have HHB := Lib.hid hB
  have HHM := Lib.hid hM
  have HHL := Lib.hid hL
  have HDM := Lib.hid hdL
  have HRT := Lib.hid hroot
  clear h hN hB hM hL hdL hroot hm hd hr hf
  by_cases hc2 : M + 2 ≤ N
  · simp only [if_pos hc2]
    go_enter Tryz.func13, Tryz.ntmps13
    go_wp2_with fail
    refine HO.out.mono ?_
    rintro e w1 ⟨v, rfl, hopen⟩
    rcases hopen with ⟨_, q, D1, rfl, hq, hwal, hD1, hfr⟩ | ⟨hne, _⟩
    · have HP := Lib.hid (pOpen_any w1 q g s' log D1 hwal N M HHN.out (by rw [HHB.out]; exact HHM.out))
      simp only [if_pos hc2] at HP
      have HW := Lib.hid hwal
      have HD1 := Lib.hid hD1
      have HFR := Lib.hid hfr
      have HQ := Lib.hid hq
      clear hwal hD1 hfr hq
      go_wp2_with fail
      refine HP.out.mono ?_
      rintro e w2 ⟨⟨rfl, hrow⟩, hb2⟩
      have HROW := Lib.hid hrow
      have HB2 := Lib.hid hb2
      clear hrow hb2
      go_wp2
      go_ret
      have hs1 := HFR.out.size
      have hs2 := HB2.out.size
      have hpl := (Array.getElem?_eq_some_iff.1 HROW.out).1
      have hql := (Array.getElem?_eq_some_iff.1 HW.out.row).1
      refine ⟨⟨w1.heap.size, q, fun k => D1 k ∨ k = w1.heap.size ∨ k = q, rfl, ⟨D1, ⟨HW.out.below HB2.out, hu, hc, hun, HHN.out, HHB.out, HHM.out, HHL.out, ⟨_, HROW.out⟩, ⟨fun hd => by have := HW.out.disk.lt _ hd; omega, by omega⟩, HDM.out hc2, HRT.out hc2⟩, fun k hk => hk, fun k hk => ?_⟩, fun k hk => ?_⟩, HFR.out.trans (Fr.of HB2.out)⟩
      · rcases hk with hk | hk | hk
        · have := HW.out.disk.lt k hk; omega
        · omega
        · omega
      · rcases hk with hk | hk | hk
        · exact HD1.out k hk
        · exact .inr (by omega)
        · exact .inr (by have := HQ.out; omega)
    · exact absurd rfl hne
  · simp only [if_neg hc2]
    go_enter Tryz.func13, Tryz.ntmps13
    go_wp2_with fail
    refine HO.out.mono ?_
    rintro e w1 ⟨v, rfl, hopen⟩
    rcases hopen with ⟨_, q, D1, rfl, hq, hwal, hD1, hfr⟩ | ⟨hne, _⟩
    · have HP := Lib.hid (pOpen_any w1 q g s' log D1 hwal N M HHN.out (by rw [HHB.out]; exact HHM.out))
      simp only [if_neg hc2] at HP
      have HFR := Lib.hid hfr
      clear hwal hD1 hfr hq
      go_wp2_with fail
      refine HP.out.mono ?_
      rintro e w2 ⟨rfl, hb2⟩
      have HB2 := Lib.hid hb2
      clear hb2
      go_wp2
      go_ret
      exact ⟨rfl, HFR.out.trans (Fr.of HB2.out)⟩
    · exact absurd rfl hne
end Go.Proofs.YtephmcbofcfpmaaGreat

set_option maxRecDepth 8000
set_option linter.unusedSimpArgs false
set_option linter.unusedVariables false
namespace Go.Proofs.YtephmcbofcfpmaaGreat
open Go.RowKit Go.Bs Go.Dk Rp

/-- all of it lies in new memory. -/
def SyB (w0 a : World) (pp t q g : Nat) (s : S) (log N Bz M : Nat) (L : Nat → List UInt8) (T : TX) : Prop := ∃ D, Sy a pp t q g s log N Bz M L T D ∧ (∀ k, D k → w0.heap.size ≤ k) ∧ Below w0.heap.size w0 a
def SpB (w0 a : World) (pp q g : Nat) (s : S) (log N Bz M : Nat) (L : Nat → List UInt8) : Prop := ∃ D, Sp a pp q g s log N Bz M L D ∧ (∀ k, D k → w0.heap.size ≤ k) ∧ Below w0.heap.size w0 a
theorem SyB.step {w0 a b : World} {pp t q g : Nat} {s : S} {log N Bz M : Nat} {L : Nat → List UInt8} {T : TX} {D : Nat → Prop} (hD : ∀ k, D k → w0.heap.size ≤ k) (hb : Below w0.heap.size w0 a) (h : SyD D pp t q g s log N Bz M L T a b) : SyB w0 b pp t q g s log N Bz M L T := by
  obtain ⟨D', h1, h2, h3⟩ := h
  exact ⟨D', h1, fun k hk => (h2 k hk).elim (hD k) (fun e => by have := hb.size; omega), hb.trans (h3.below hD (by exact hb.size))⟩
theorem SyB.sp {w0 a : World} {pp t q g : Nat} {s : S} {log N Bz M : Nat} {L : Nat → List UInt8} {T : TX} (h : SyB w0 a pp t q g s log N Bz M L T) : SpB w0 a pp q g s log N Bz M L := by
  obtain ⟨D, h1, h2, h3⟩ := h
  exact ⟨D, h1.sp, h2, h3⟩
section
variable (w0 a : World) (pp t q g : Nat) (s : S) (log N Bz M : Nat) (L : Nat → List UInt8) (T : TX)
theorem bTake (h : SyB w0 a pp t q g s log N Bz M L T) : Calls Tryz.prog 19 #[.pointer (some ⟨t, 0, none⟩)] a fun e w' => e = .returned (.tuple #[.int .i64 (T.take N Bz M).2.1, .int .i64 (T.take N Bz M).2.2]) ∧ SyB w0 w' pp t q g s log N Bz M L (T.take N Bz M).1 := by
  obtain ⟨D, h1, h2, h3⟩ := h
  refine (sTake a pp t q g s log N Bz M L T D h1).mono ?_
  rintro e w' ⟨rfl, hp⟩
  exact ⟨rfl, SyB.step h2 h3 hp⟩
theorem bGive (h : SyB w0 a pp t q g s log N Bz M L T) (p : Int) : Calls Tryz.prog 21 #[.pointer (some ⟨t, 0, none⟩), .int .i64 p] a fun e w' => e = .returned (.int .i64 (T.give N Bz M p).2) ∧ SyB w0 w' pp t q g s log N Bz M L (T.give N Bz M p).1 := by
  obtain ⟨D, h1, h2, h3⟩ := h
  refine (sGive a pp t q g s log N Bz M L T D h1 p).mono ?_
  rintro e w' ⟨rfl, hp⟩
  exact ⟨rfl, SyB.step h2 h3 hp⟩
theorem bSetRoot (h : SyB w0 a pp t q g s log N Bz M L T) (p : Int) : Calls Tryz.prog 27 #[.pointer (some ⟨t, 0, none⟩), .int .i64 p] a fun e w' => e = .returned (.int .i64 (T.setRoot N Bz M p).2) ∧ SyB w0 w' pp t q g s log N Bz M L (T.setRoot N Bz M p).1 := by
  obtain ⟨D, h1, h2, h3⟩ := h
  refine (sSetRoot a pp t q g s log N Bz M L T D h1 p).mono ?_
  rintro e w' ⟨rfl, hp⟩
  exact ⟨rfl, SyB.step h2 h3 hp⟩
theorem bCommit (h : SyB w0 a pp t q g s log N Bz M L T) (hl0 : s.left = 0) (hdeeds : s.deeds + 8 * (log + 1) < 900000) : Calls Tryz.prog 29 #[.pointer (some ⟨t, 0, none⟩)] a fun e w' => e = .returned (.int .i64 (T.commit N Bz M log L).2.2) ∧ ∃ s', SyB w0 w' pp t q g s' log N Bz M (T.commit N Bz M log L).1 (T.commit N Bz M log L).2.1 ∧ s'.left = 0 ∧ s'.deeds ≤ s.deeds + 8 * (log + 1) := by
  obtain ⟨D, h1, h2, h3⟩ := h
  refine (sCommit a pp t q g s log N Bz M L T D h1 hl0 hdeeds).mono ?_
  rintro e w' ⟨rfl, s', hp, hx⟩
  exact ⟨rfl, s', SyB.step h2 h3 hp, hx⟩
theorem bBegin (h : SpB w0 a pp q g s log N Bz M L) : Calls Tryz.prog 16 #[.pointer (some ⟨pp, 0, none⟩)] a fun e w' => ∃ t, e = .returned (.pointer (some ⟨t, 0, none⟩)) ∧ SyB w0 w' pp t q g s log N Bz M L (TX.new L) := by
  obtain ⟨D, h1, h2, h3⟩ := h
  refine (sBegin a pp q g s log N Bz M L D h1).mono ?_
  rintro e w' ⟨t, rfl, _, hp, _⟩
  exact ⟨t, rfl, SyB.step h2 h3 hp⟩
theorem bFree (h : SpB w0 a pp q g s log N Bz M L) : Calls Tryz.prog 31 #[.pointer (some ⟨pp, 0, none⟩)] a fun e w' => e = .returned (.tuple #[.int .i64 (freeN N Bz M L N : Int), .int .i64 0]) ∧ SpB w0 w' pp q g s log N Bz M L := by
  obtain ⟨D, h1, h2, h3⟩ := h
  refine (sFree a pp q g s log N Bz M L D h1).mono ?_
  rintro e w' ⟨rfl, hp, hf, _⟩
  exact ⟨rfl, D, hp, h2, h3.trans (hf.below h2 h3.size)⟩
end
/-- a new disk, opened. -/
theorem new_redo (sec Bz log : Nat) (hb : 16 ≤ Bz) : (S.new sec Bz).redo log = (S.new sec Bz, 0) := by
  unfold S.redo
  rw [if_neg (by simp [S.new]), if_pos]
  show (zeros Bz).getD 0 0 ≠ 1
  obtain ⟨n, rfl⟩ : ∃ n, Bz = n + 1 := ⟨Bz - 1, by omega⟩
  simp [zeros, List.replicate_succ]
theorem zeros_enc (Bz : Nat) (hb : 4 ≤ Bz) : zeros Bz = encR Bz 0 := by
  obtain ⟨n, rfl⟩ : ∃ n, Bz = n + 4 := ⟨Bz - 4, by omega⟩
  unfold encR
  simp [putK, zeros, List.replicate_succ, byteAt]
theorem mapN_dm {N Bz : Nat} (hb0 : 16 ≤ Bz) (hb1 : Bz ≤ 4096) (hn : N ≤ 65536) (hm : mapN N Bz + 2 ≤ N) (L : Nat → List UInt8) (hL : ∀ k, k < N → (L k).length = Bz) : Dm N Bz (mapN N Bz) L :=
  ⟨by omega, by omega, by omega, mapN_ge N Bz (by omega), hm, hL⟩
/-- a new disk of so many blocks, its wal, its pages. -/
theorem lopen_new (w : World) (g : Nat) (D : Nat → Prop) (N Bz log : Nat) (h : DiskAt w g (S.new (N + 1 + log) Bz) D) (hb0 : 16 ≤ Bz) (hb1 : Bz ≤ 4096) (hn : N + 1 + log ≤ 65536) (hn1 : 1 ≤ N) (hl : 1 ≤ log) (h3 : 3 + 3 * log ≤ Bz) :
    Calls Tryz.prog 13 #[.pointer (some ⟨g, 0, none⟩), .int .i64 (log : Int)] w fun e w' => (if mapN N Bz + 2 ≤ N then ∃ pp q D', e = .returned (.pointer (some ⟨pp, 0, none⟩)) ∧ Sp w' pp q g (S.new (N + 1 + log) Bz) log N Bz (mapN N Bz) (fun _ => zeros Bz) D' ∧ (∀ k, D' k → D k ∨ w.heap.size ≤ k) else e = .returned (.pointer none)) ∧ Fr D w w' := by
  refine lopen_any w g (S.new (N + 1 + log) Bz) (S.new (N + 1 + log) Bz) D h (Nat.zero_le _) log N Bz (mapN N Bz) (fun _ => zeros Bz) ?_ (by show 0 + 4 * (log + 1) < 900000; omega) (new_redo _ Bz log hb0) rfl rfl ?_ ?_ rfl rfl (fun k _ => rfl) (fun hm => mapN_dm hb0 hb1 (by omega) hm _ (fun _ _ => zeros_length _)) (fun _ => ⟨0, by omega, zeros_enc Bz (by omega)⟩)
  · unfold may S.new
    simp
    omega
  · show (zeros Bz).getD 0 0 ≠ 1
    obtain ⟨n, rfl⟩ : ∃ n, Bz = n + 1 := ⟨Bz - 1, by omega⟩
    simp [zeros, List.replicate_succ]
  · show N + 1 + log - 1 - log = N
    omega
def aT0 : TX := TX.new fun _ => zeros 16
def aT1 : TX := (aT0.take 16 16 1).1
def aT2 : TX := (aT1.take 16 16 1).1
def aT3 : TX := (aT2.setRoot 16 16 1 2).1
def aL : Nat → List UInt8 := (aT3.commit 16 16 1 4 fun _ => zeros 16).1
theorem a_take1 : (aT0.take 16 16 1).2 = (2, 0) := by kernel_rfl
theorem a_take2 : (aT1.take 16 16 1).2 = (3, 0) := by kernel_rfl
theorem a_root : (aT2.setRoot 16 16 1 2).2 = 0 := by kernel_rfl
theorem a_commit : (aT3.commit 16 16 1 4 fun _ => zeros 16).2.2 = 0 := by kernel_rfl
theorem a_free : freeN 16 16 1 aL 16 = 12 := by kernel_rfl
theorem a_give : ((TX.new aL).give 16 16 1 2).2 = 1 := by kernel_rfl
set_option maxHeartbeats 1000000 in
theorem awake_any (w : World) : Calls Tryz.prog 15 #[] w fun e w' => e = .returned (.bool true) ∧ Below w.heap.size w w' := by
  have HN := Lib.hid (New_any 21 16 (by omega) (by omega) (by omega) (by omega) w)
  go_enter Tryz.func15, Tryz.ntmps15
  go_wp2_with fail
  refine HN.out.mono ?_
  rintro e w1 ⟨g, D, rfl, hdisk, hD, hb1⟩
  have HO := Lib.hid (lopen_new w1 g D 16 16 4 hdisk (by omega) (by omega) (by omega) (by omega) (by omega) (by omega))
  simp only [show mapN 16 16 + 2 ≤ 16 by decide, if_true] at HO
  have HD := Lib.hid hD
  have HB1 := Lib.hid hb1
  clear hdisk hD hb1
  go_wp2_with fail
  refine HO.out.mono ?_
  rintro e w2 ⟨⟨pp, q, D2, rfl, hsp, hD2⟩, hf2⟩
  have hsp2 : SpB w w2 pp q g (S.new 21 16) 4 16 16 1 (fun _ => zeros 16) := ⟨D2, hsp, fun k hk => (hD2 k hk).elim (HD.out k) (fun e => by have := HB1.out.size; omega), HB1.out.trans (hf2.below HD.out HB1.out.size)⟩
  have HBG := Lib.hid (bBegin w w2 pp q g (S.new 21 16) 4 16 16 1 (fun _ => zeros 16) hsp2)
  clear hsp hD2 hf2 hsp2
  go_wp2_with fail
  refine HBG.out.mono ?_
  rintro e w3 ⟨t, rfl, hy3⟩
  have H1 := Lib.hid (bTake w w3 pp t q g (S.new 21 16) 4 16 16 1 (fun _ => zeros 16) aT0 hy3)
  rw [a_take1] at H1
  clear hy3
  go_wp2_with fail
  refine H1.out.mono ?_
  rintro e w4 ⟨rfl, hy4⟩
  have H2 := Lib.hid (bTake w w4 pp t q g (S.new 21 16) 4 16 16 1 (fun _ => zeros 16) aT1 hy4)
  rw [a_take2] at H2
  clear hy4
  go_wp2_with fail
  refine H2.out.mono ?_
  rintro e w5 ⟨rfl, hy5⟩
  have H3 := Lib.hid (bSetRoot w w5 pp t q g (S.new 21 16) 4 16 16 1 (fun _ => zeros 16) aT2 hy5 2)
  rw [a_root] at H3
  clear hy5
  go_wp2_with fail
  refine H3.out.mono ?_
  rintro e w6 ⟨rfl, hy6⟩
  have H4 := Lib.hid (bCommit w w6 pp t q g (S.new 21 16) 4 16 16 1 (fun _ => zeros 16) aT3 hy6 rfl (by show 0 + 8 * (4 + 1) < 900000; omega))
  rw [a_commit] at H4
  clear hy6
  go_wp2_with fail
  refine H4.out.mono ?_
  rintro e w7 ⟨rfl, s7, hy7, _, _⟩
  have H5 := Lib.hid (bFree w w7 pp q g s7 4 16 16 1 aL hy7.sp)
  rw [a_free] at H5
  clear hy7
  go_wp2_with fail
  refine H5.out.mono ?_
  rintro e w8 ⟨rfl, hy8⟩
  have H6 := Lib.hid (bBegin w w8 pp q g s7 4 16 16 1 aL hy8)
  clear hy8
  go_wp2_with fail
  refine H6.out.mono ?_
  rintro e w9 ⟨u, rfl, hy9⟩
  have H7 := Lib.hid (bGive w w9 pp u q g s7 4 16 16 1 aL (TX.new aL) hy9 2)
  rw [a_give] at H7
  clear hy9
  go_wp2_with fail
  refine H7.out.mono ?_
  rintro e w10 ⟨rfl, hy10⟩
  have HY := Lib.hid hy10
  clear hy10
  go_wp2
  go_ret
  obtain ⟨_, _, _, hb⟩ := HY.out
  exact ⟨rfl, hb⟩
end Go.Proofs.YtephmcbofcfpmaaGreat

