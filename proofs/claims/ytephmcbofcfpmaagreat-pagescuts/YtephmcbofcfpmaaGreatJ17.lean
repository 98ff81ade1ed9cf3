/- The map's bits are read; how many pages are free. Conditions: none. How many pages are free. Conditions: none. -/
import Derived.Test.YtephmcbofcfpmaaGreatJ09
import Derived.Test.YtephmcbofcfpmaaGreatJ16
set_option maxRecDepth 8000
set_option linter.unusedSimpArgs false
set_option linter.unusedVariables false
namespace Go.Proofs.YtephmcbofcfpmaaGreat
open Go.RowKit Go.Bs Go.Dk Rp

/-- a wal's blocks. -/
def wl (s : S) (log : Nat) : Nat → List UInt8 := fun k => cur s.L s.c (1 + log + k)
theorem wl_len {s : S} (h : s.Ok) (log k : Nat) : (wl s log k).length = s.bytes := h.curLen _
theorem rdB_ok {s : S} {log : Nat} (hu : s.up = true) (hl : log + 1 < s.sectors) (k : Nat) (hk : k < nbl s log) : s.rdB log false (k : Int) = (wl s log k, 0) := by
  unfold nbl at hk
  unfold S.rdB S.read S.has
  rw [if_neg (by simp), if_pos (by omega), if_neg (by simp [hu]), if_neg (by simp; omega)]
  have : (1 + (log : Int) + (k : Int)).toNat = 1 + log + k := by omega
  rw [this]
  rfl
theorem wRead_ok (w : World) (q g : Nat) (s : S) (log : Nat) (D : Nat → Prop) (h : WalAt w q g s log false D) (hu : s.up = true) (k : Nat) (hk : k < nbl s log) :
    Calls Tryz.prog 57 #[.pointer (some ⟨q, 0, none⟩), .int .i64 (k : Int)] w fun e w' => ∃ b, e = .returned (.tuple #[.slice (some ⟨b, 0, none⟩) s.bytes s.bytes, .int .i64 0]) ∧ Blk w' b 5 (wl s log k) ∧ w.heap.size ≤ b ∧ WalAt w' q g s log false D ∧ Fr (fun k => k = q) w w' := by
  have hr := rdB_ok (log := log) hu h.l1 k hk
  refine (wRead_any w q g s log false D h (k : Int)).mono ?_
  rw [hr]
  have hlen := wl_len h.disk.ok log k
  have hb0 := h.disk.ok.b0
  rintro e w' ⟨v, rfl, h1, h2, h3⟩
  rcases h1 with ⟨_, h1⟩ | ⟨b, rfl, h4, h5⟩
  · have h1' : wl s log k = [] := h1
    rw [h1'] at hlen
    simp at hlen
    omega
  · exact ⟨b, by rw [show (wl s log k, (0 : Int)).1.length = s.bytes from hlen], h4, h5, h2, h3⟩
theorem own_fr {w w' : World} {base e : Nat} {v : Value} {bs : List UInt8} {D : Nat → Prop} (h : Bs.Own w base e v bs) (hf : Fr D w w') (hD : ∀ k, D k → k < base) : Bs.Own w' base e v bs := by
  refine ownsRow_keepB h fun k hk => ?_
  have hb := h.base k hk
  rcases h.2 with ⟨e1, _⟩ | ⟨g, cap, cur, e1, e2, e3, e4⟩
  · subst e1; cases hk
  · subst e1
    have : g = k := by simpa [Value.ownBlock] using hk
    subst this
    exact hf.block g (Array.getElem?_eq_some_iff.1 e3).1 (fun hd => by have := hD g hd; omega)
theorem fr_row {w w' : World} {D : Nat → Prop} {k : Nat} {o : Obj} (hf : Fr D w w') (h : w.heap[k]? = some o) (hD : ¬ D k) : w'.heap[k]? = some o := (hf.block k (Array.getElem?_eq_some_iff.1 h).1 hD).trans h
/-- the map's bits in memory: as they were, as they are. -/
structure BitsAt (w : World) (bb : Nat) (n : Nat) (was now : List UInt8) (K : Nat → Prop) (wb wcap nb ncap base : Nat) : Prop where
  row : w.heap[bb]? = some (.cells #[.slice (some ⟨wb, 0, none⟩) n wcap, .slice (some ⟨nb, 0, none⟩) n ncap] 165 (0, 0))
  wasR : Bs.Own w base 5 (.slice (some ⟨wb, 0, none⟩) n wcap) was
  nowR : Bs.Own w base 5 (.slice (some ⟨nb, 0, none⟩) n ncap) now
  ne : wb ≠ nb
  len : was.length = n ∧ now.length = n
  n0 : 0 < n
  inK : K bb ∧ K wb ∧ K nb
theorem own_form {w : World} {base : Nat} {v : Value} {bs : List UInt8} (h : Bs.Own w base 5 v bs) (n : Nat) (hn : bs.length = n) (h0 : 0 < n) : ∃ g c, v = .slice (some ⟨g, 0, none⟩) n c ∧ base ≤ g ∧ g < w.heap.size ∧ Rd w (some ⟨g, 0, none⟩) n c bs := by
  rcases h.2 with ⟨e1, e2⟩ | ⟨g, cap, cur, e1, e2, e3, e4⟩
  · omega
  · obtain ⟨A, c, e5, hr⟩ := h.slice n hn
    subst e5
    subst hn
    cases e1
    exact ⟨g, cap, rfl, e2, (Array.getElem?_eq_some_iff.1 e3).1, hr⟩
theorem cloneB_any (A : Option Addr) (n c : Nat) (bs : List UInt8) (w : World) (h : Rd w A n c bs) (hn : n ≤ 17592186044416) (hA : A.isSome) :
    Calls Tryz.prog 69 #[.slice A n c] w fun e w' => ∃ v, e = .returned v ∧ Bs.Own w' w.heap.size 5 v bs ∧ Below w.heap.size w w' := by
  obtain ⟨a, rfl⟩ := Option.isSome_iff_exists.1 hA
  have he := nil_ne a n c
  have HR := Lib.hid h
  have HO := Lib.hid (Bs.Own.empty w 5)
  clear h
  go_enter Tryz.func69, Tryz.ntmps69
  go_wp2_with (first | (at_builtin; refine wpList_app _ rfl _ _ 39 rfl w.heap.size 5 Tryz.underlying39 u8_info _ [] rfl HO.out _ n c bs rfl (HR.out.alloc _) (by simp; omega) (by simp) ?_; intro v' w1 ho hb) | go_in)
  go_ret
  exact ⟨_, rfl, ho, ((Below.refl _ _).alloc (Nat.le_refl _) _).trans hb⟩
theorem WalAt.keepN {w w' : World} {p g N : Nat} {s : S} {log : Nat} {down : Bool} {D : Nat → Prop} (h : WalAt w p g s log down D) (hb : Below N w w') (hp : p < N) (hD : ∀ k, D k → k < N) : WalAt w' p g s log down D :=
  ⟨(hb.block p hp).trans h.row, h.disk.keep hb.size fun k hd => hb.block k (hD k hd), h.pD, h.l0, h.l1, h.l2⟩
theorem fr_belowN {D : Nat → Prop} {a b c : World} {N : Nat} (h : Fr D a b) (k : Below N b c) (hN : a.heap.size ≤ N) : Fr D a c :=
  ⟨k.os.trans h.os, k.tape.trans h.tape, k.output.trans h.output, Nat.le_trans h.size k.size, fun i hi hn => (k.block i (by omega)).trans (h.block i hi hn)⟩
theorem zero79 (w : World) : (zeroValue 165).run Tryz.prog w = .ok (.agg #[.slice none 0 0, .slice none 0 0]) w := by kernel_rfl
/-- what readBits leaves. -/
def BitsNew (w w' : World) (bb : Nat) (n : Nat) (bs : List UInt8) : Prop := ∃ wb wcap nb ncap, BitsAt w' bb n bs bs (fun k => w.heap.size ≤ k ∧ k < w'.heap.size) wb wcap nb ncap w.heap.size
set_option maxHeartbeats 4000000 in
theorem readBits_any (w : World) (pp q g : Nat) (now : Value) (s : S) (log : Nat) (D : Nat → Prop) (hp : w.heap[pp]? = some (.cells (pgr q now) 106 (0, 0))) (h : WalAt w q g s log false D) (hu : s.up = true) (hn : 1 ≤ nbl s log) (m : Nat) (hm : mapN (nbl s log) s.bytes = m) :
    Calls Tryz.prog 76 #[.pointer (some ⟨pp, 0, none⟩)] w fun e w' => ∃ bb, e = .returned (.tuple #[.pointer (some ⟨bb, 0, none⟩), .int .i64 0]) ∧ BitsNew w w' bb (m * s.bytes) (cat m (wl s log)) ∧ WalAt w' q g s log false D ∧ Fr (fun k => k = q) w w' := by
  have hpq : pp ≠ q := fun e => by
    subst e
    have := h.row
    rw [hp] at this
    simp at this
  have hql := (Array.getElem?_eq_some_iff.1 h.row).1
  have HRB := Lib.hid (rootBlock_any w pp q g now s log false D hp h)
  rw [hm] at HRB
  have hb0 := h.disk.ok.b0
  have hb1 := h.disk.ok.b1
  have hs1 := h.disk.ok.s1
  have hml : m ≤ nbl s log := by rw [← hm]; exact mapN_le _ _ (by omega)
  have hm1 : 1 ≤ m := by
    rcases Nat.eq_zero_or_pos m with e | e
    · have := mapN_ge (nbl s log) s.bytes (by omega)
      rw [hm, e] at this
      omega
    · exact e
  have hnl : nbl s log ≤ 65536 := by unfold nbl; omega
  have hm65 : m ≤ 65536 := Nat.le_trans hml hnl
  have HDL := Lib.hid h.disk.lt
  have HLEN := Lib.hid (fun k (hk : k ≤ m) => cat_len (M := k) (L := wl s log) (fun j _ => wl_len h.disk.ok log j))
  have HP := Lib.hid hp
  have HW := Lib.hid h
  have hmb : m * s.bytes ≤ 65536 * 4096 := Nat.mul_le_mul (by omega) hb1
  have hmb0 : 0 < m * s.bytes := Nat.mul_pos (by omega) (by omega)
  obtain ⟨z, hz⟩ : ∃ z, w.heap.size = z := ⟨_, rfl⟩
  have HZ := Lib.hid hz
  have HLE := Lib.hid hml
  obtain ⟨b, hb⟩ : ∃ b, s.bytes = b := ⟨_, rfl⟩
  have HBB := Lib.hid hb
  rw [hb] at HLEN hmb hmb0 hb0 hb1 ⊢
  obtain ⟨mb, hmbe⟩ : ∃ mb, m * b = mb := ⟨_, rfl⟩
  have HMB := Lib.hid hmbe
  rw [hmbe] at hmb hmb0 ⊢
  obtain ⟨R, hR⟩ : ∃ R : Ending → World → Prop, R = fun e w' => ∃ bb, e = .returned (.tuple #[.pointer (some ⟨bb, 0, none⟩), .int .i64 0]) ∧ BitsNew w w' bb mb (cat m (wl s log)) ∧ WalAt w' q g s log false D ∧ Fr (fun k => k = q) w w' := ⟨_, rfl⟩
  rw [← hR]
  have HRR := Lib.hid hR
  rw [hz] at hql
  clear h hp hs1 hml hm hn hnl hz hb hmbe hR
  go_enter Tryz.func76, Tryz.ntmps76
  go_wp2_with fail
  refine HRB.out.mono ?_
  rintro e w1 ⟨rfl, k1, rfl⟩
  go_wp2
  go_loopw [10, 4] (fun i v wr => ∃ k : Nat, k ≤ m ∧ i = .int .i64 k ∧ Bs.Own wr z 5 v (cat k (wl s log)) ∧ WalAt wr q g s log false D ∧ Fr (fun k => k = q) w wr) (fun i _ _ => m - (RowKit.intOf i).toNat)
  case atStart => exact ⟨0, Nat.zero_le _, rfl, Bs.Own.nil _ _ _, HW.out.drewN k1, Fr.of (below_drewN (Below.refl _ _) k1)⟩
  case round =>
    rename_i v0
    obtain ⟨k, hk, rfl, hown, hwal, hfr⟩ := hrel
    have hpr := fr_row hfr HP.out hpq
    obtain ⟨c0, _, _⟩ := pgr_cells hpr
    have hsz : z ≤ wr.heap.size := by rw [← HZ.out]; exact hfr.size
    have hl1 := HLEN.out k hk
    have HO := Lib.hid hown
    have HWA := Lib.hid hwal
    have HF := Lib.hid hfr
    by_cases hlt : k < m
    · have hkn : k < nbl s log := Nat.lt_of_lt_of_le hlt HLE.out
      have HRD := Lib.hid (wRead_ok wr q g s log D hwal hu k hkn)
      rw [HBB.out] at HRD
      have hkb : k * b ≤ 65536 * 4096 := Nat.le_trans (Nat.mul_le_mul_right b hk) (by rw [HMB.out]; exact hmb)
      have HKB := Lib.hid hkb
      have HL1 := Lib.hid hl1
      clear hown hwal hfr hpr hl1 hkn hkb
      go_wp2_with fail
      refine HRD.out.mono ?_
      rintro e w2 ⟨rb, rfl, hblk, hrb, hw2, hf2⟩
      have hown2 := own_fr HO.out hf2 (fun k hk => by subst hk; exact hql)
      have hrd : Rd w2 (some ⟨rb, 0, none⟩) b b (wl s log k) := hblk.all' b b (by rw [← HBB.out]; exact wl_len HW.out.disk.ok log k) (Nat.le_refl _)
      have HO2 := Lib.hid hown2
      have HRd := Lib.hid hrd
      have HW2 := Lib.hid hw2
      have HF2 := Lib.hid (HF.out.trans hf2)
      have hsz2 : z ≤ w2.heap.size := by have := hf2.size; omega
      clear hblk hw2 hf2 hown2 hrd
      go_wp2_with (at_builtin; refine wpList_app _ rfl _ _ 39 rfl z 5 Tryz.underlying39 u8_info _ (cat k (wl s log)) rfl HO2.out _ b b (wl s log k) rfl HRd.out (by rw [HL1.out]; have := HKB.out; omega) hsz2 ?_; intro v' w3 ho3 hb3)
      have HO3 := Lib.hid ho3
      have HB3 := Lib.hid hb3
      clear ho3 hb3
      go_wp2
      go_roundw
      case rel =>
        exact ⟨k + 1, by omega, by go_num, by rw [cat_succ]; exact HO3.out, HW2.out.keepN HB3.out hql (fun j hj => by rw [← HZ.out]; exact HDL.out j hj), fr_belowN HF2.out HB3.out (by rw [HZ.out]; exact Nat.le_refl _)⟩
      case measure => simp [RowKit.intOf]; omega
    · have hkm : k = m := by omega
      subst hkm
      rw [HMB.out] at hl1
      obtain ⟨wb, wcap, rfl, hwb1, hwb2, hrd⟩ := own_form hown mb hl1 hmb0
      have HCL := Lib.hid (cloneB_any (some ⟨wb, 0, none⟩) mb wcap _ wr hrd (by omega) rfl)
      have HL1 := Lib.hid hl1
      clear hown hwal hfr hpr hl1 hrd
      go_wp2_with fail
      refine HCL.out.mono ?_
      rintro e w2 ⟨v2, rfl, ho2, hb2⟩
      obtain ⟨nb, ncap, rfl, hnb1, hnb2, hrd2⟩ := own_form ho2 mb HL1.out hmb0
      have HO2 := Lib.hid ho2
      have HB2 := Lib.hid hb2
      clear ho2 hrd2 hb2
      have hzero := zero79 w2
      go_wp2
      rw [HRR.out]
      obtain ⟨o, ho⟩ : ∃ o : Obj, Obj.cells #[Value.slice (some ⟨wb, 0, none⟩) mb wcap, Value.slice (some ⟨nb, 0, none⟩) mb ncap] 165 = o := ⟨_, rfl⟩
      have hbl : Below w2.heap.size w2 (w2.alloc o) := (Below.refl _ _).alloc (Nat.le_refl _) o
      have hB := HB2.out.trans (hbl.mono HB2.out.size)
      have hsz2 := HB2.out.size
      have e0 := HZ.out
      have hsa : (w2.alloc o).heap.size = w2.heap.size + 1 := by simp
      refine ⟨w2.heap.size, rfl, ⟨wb, wcap, nb, ncap, ?_, ?_, ?_, by omega, ⟨HL1.out, HL1.out⟩, hmb0, ?_⟩, ?_, ?_⟩
      · exact heap_alloc_new w2 _
      · rw [e0, ho]; exact (HO.out.keep HB2.out).alloc o
      · rw [ho]
        refine ⟨(HO2.out.alloc o).1, ?_⟩
        rcases (HO2.out.alloc o).2 with x | ⟨g', cap', cur', y1, y2, y3⟩
        · exact .inl x
        · exact .inr ⟨g', cap', cur', y1, by omega, y3⟩
      · rw [ho, hsa, e0]; exact ⟨⟨by omega, by omega⟩, ⟨by omega, by omega⟩, ⟨by omega, by omega⟩⟩
      · rw [ho]; exact HWA.out.below hB
      · rw [ho]; exact HF.out.trans (Fr.of hB)
end Go.Proofs.YtephmcbofcfpmaaGreat

set_option maxRecDepth 8000
set_option linter.unusedSimpArgs false
set_option linter.unusedVariables false
namespace Go.Proofs.YtephmcbofcfpmaaGreat
open Go.RowKit Go.Bs Go.Dk Rp

theorem free_first {N B M : Nat} {L : Nat → List UInt8} : freeN N B M L (M + 1) = 0 := by
  unfold freeN
  rw [List.filter_eq_nil_iff.2 ?_]
  · rfl
  · intro i hi
    have := List.mem_range.1 hi
    unfold freeAt
    simp
    omega
theorem bit_used {N B M : Nat} {L : Nat → List UInt8} (h : Dm N B M L) (p : Nat) (h1 : M < p) (h2 : p < N) : usedP N B M L (p : Int) = bitOf (cat M L) p := by
  unfold bitOf
  rw [bit_cat h p (page_lt h p h2)]
  unfold usedP
  simp [h1, h2]
theorem pFree_nil (w : World) : Calls Tryz.prog 31 #[.pointer none] w fun e w' => e = .returned (.tuple #[.int .i64 0, .int .i64 3]) ∧ w = w' := by
  go_enter Tryz.func31, Tryz.ntmps31
  go_wp2
  go_ret2
  exact ⟨rfl, rfl⟩
set_option maxHeartbeats 4000000 in
theorem pFree_any (w : World) (pp q g : Nat) (now : Value) (s : S) (log : Nat) (D : Nat → Prop) (hp : w.heap[pp]? = some (.cells (pgr q now) 106 (0, 0))) (h : WalAt w q g s log false D) (hu : s.up = true) (N Bz M : Nat) (hN : nbl s log = N) (hB : s.bytes = Bz) (hM : mapN N Bz = M) (hd : Dm N Bz M (wl s log)) :
    Calls Tryz.prog 31 #[.pointer (some ⟨pp, 0, none⟩)] w fun e w' => e = .returned (.tuple #[.int .i64 (freeN N Bz M (wl s log) N : Int), .int .i64 0]) ∧ WalAt w' q g s log false D ∧ Fr (fun k => k = q) w w' := by
  have hpq : pp ≠ q := fun e => by
    subst e
    have := h.row
    rw [hp] at this
    simp at this
  have hmn := hd.mn
  have hn1 := hd.n1
  have HRB := Lib.hid (readBits_any w pp q g now s log D hp h hu (by omega) M (by rw [hN, hB]; exact hM))
  have hMB : M * Bz ≤ 10000000000 := Nat.mul_le_mul (Nat.le_trans (by omega) hn1) hd.b1
  obtain ⟨F, hF⟩ : ∃ F, freeN N Bz M (wl s log) N = F := ⟨_, rfl⟩
  rw [hF]
  have HFF := Lib.hid hF
  have HP := Lib.hid hp
  have HD := Lib.hid hd
  have HN := Lib.hid hN
  have HB := Lib.hid hB
  have HM := Lib.hid hM
  obtain ⟨R, hR⟩ : ∃ R : Ending → World → Prop, R = fun e w' => e = .returned (.tuple #[.int .i64 (F : Int), .int .i64 0]) ∧ WalAt w' q g s log false D ∧ Fr (fun k => k = q) w w' := ⟨_, rfl⟩
  rw [← hR]
  have HRR := Lib.hid hR
  clear h hp hF hd hN hB hM hR
  go_enter Tryz.func31, Tryz.ntmps31
  go_wp2_with fail
  refine HRB.out.mono ?_
  rintro e w1 ⟨bb, rfl, hbits, hwal, hfr⟩
  have hp1 := fr_row hfr HP.out hpq
  obtain ⟨c0, _, _⟩ := pgr_cells hp1
  have HS := Lib.hid (wSize_any w1 q g s log false D hwal)
  have HFP := Lib.hid (fun k => firstPage_any (w1.drewN k) pp q g now s log false D hp1 (hwal.drewN k))
  rw [HN.out, HB.out] at HS HFP
  rw [HM.out] at HFP
  have HBI := Lib.hid hbits
  have HWA := Lib.hid hwal
  have HFR := Lib.hid hfr
  clear hbits hwal hfr hp1
  go_wp2_with fail
  refine HS.out.mono ?_
  rintro e w2 ⟨rfl, k2, rfl⟩
  go_wp2_with fail
  refine (HFP.out k2).mono ?_
  rintro e w3 ⟨rfl, k3, rfl⟩
  rw [World.drewN_drewN]
  go_wp2
  go_loopw [9, 6] (fun i v wr => ∃ k : Nat, M + 1 ≤ k ∧ k ≤ N ∧ i = .int .i64 k ∧ v = .int .i64 (freeN N Bz M (wl s log) k : Int) ∧ ∃ n, wr = w1.drewN n) (fun i _ _ => N - (RowKit.intOf i).toNat)
  case atStart => exact ⟨M + 1, Nat.le_refl _, by omega, rfl, by rw [free_first]; rfl, _, rfl⟩
  case round =>
    obtain ⟨k, hk1, hk, rfl, rfl, n0, hwr⟩ := hrel
    have hsu := freeN_succ N Bz M (wl s log) k
    have hfl := freeN_le N Bz M (wl s log) k
    obtain ⟨f, hf⟩ : ∃ f, freeN N Bz M (wl s log) k = f := ⟨_, rfl⟩
    rw [hf] at hsu hfl
    rw [hf]
    have HFK := Lib.hid hf
    have HW := Lib.hid hwr
    clear hf
    by_cases hlt : k < N
    · have hbu := bit_used HD.out k (by omega) hlt
      have hpl := page_lt HD.out k hlt
      obtain ⟨wb, wcap, nb, ncap, hb⟩ := HBI.out
      have hb' := hb.nowR.slice (M * s.bytes) hb.len.2
      obtain ⟨A, c, e1, hrd⟩ := hb'
      cases e1
      rw [HB.out] at hrd
      have hrow := hb.row
      rw [HB.out] at hrow
      have HU := Lib.hid (used_any wr bb nb (M * Bz) ncap _ _ (by rw [hwr]; exact hrow) (by rw [hwr]; exact hrd.drewN n0) k hpl (by omega))
      rw [← hbu] at HU
      cases hus : usedP N Bz M (wl s log) (k : Int)
      · rw [hus] at HU
        have hfr : freeAt N Bz M (wl s log) k = true := by unfold freeAt; rw [hus]; simp; omega
        rw [hfr, if_pos rfl] at hsu
        have HSU := Lib.hid hsu
        clear hus hfr hsu hwr hbu hpl hb hrd hrow
        go_wp2_with fail
        refine HU.out.mono ?_
        rintro e w4 ⟨rfl, k4, rfl⟩
        go_wp2
        go_roundw
        case rel => exact ⟨k + 1, by omega, by omega, by go_num, by rw [HSU.out]; go_num, n0 + k4, by rw [HW.out, World.drewN_drewN]⟩
        case measure => simp [RowKit.intOf]; omega
      · rw [hus] at HU
        have hfr : freeAt N Bz M (wl s log) k = false := by unfold freeAt; rw [hus]; simp
        rw [hfr, if_neg (by simp)] at hsu
        have HSU := Lib.hid hsu
        clear hus hfr hsu hwr hbu hpl hb hrd hrow
        go_wp2_with fail
        refine HU.out.mono ?_
        rintro e w4 ⟨rfl, k4, rfl⟩
        go_wp2
        go_roundw
        case rel => exact ⟨k + 1, by omega, by omega, by go_num, by rw [HSU.out]; go_num, n0 + k4, by rw [HW.out, World.drewN_drewN]⟩
        case measure => simp [RowKit.intOf]; omega
    · have hkN : k = N := by omega
      subst hkN
      clear hsu hwr
      go_wp2
      rw [HRR.out]
      refine ⟨?_, by rw [HW.out]; exact HWA.out.drewN _, by rw [HW.out]; exact HFR.out.trans (Fr.of (below_drewN (Below.refl _ _) _))⟩
      rw [← HFF.out, HFK.out]
      rfl
end Go.Proofs.YtephmcbofcfpmaaGreat

