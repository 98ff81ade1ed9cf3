/- the closure that mixes a word in. Conditions: none. -/
import Derived.Test.YtmimffbjghhdhaaDoorS4a
import Derived.Test.YtmimffbjghhdhaaDoorVar8
import Derived.StillTailTactics
import Derived.Deep.CutRange
namespace Go.Proofs.YtmimffbjghhdhaaDoor
open Go.RowKit Go.Bs Go.Sha Go.Inv

theorem not_nat (e : Nat) (he : e < 4294967296) : bits .xor .u32 IntKind.u32.max (e : Int) = ((4294967295 - e : Nat) : Int) := by
  have h1 : IntKind.u32.max = ((4294967295 : Nat) : Int) := by decide
  rw [h1, u32_xor_nat _ _ (by decide) he]
  congr 1
  have h2 : (BitVec.ofNat 32 e ^^^ BitVec.allOnes 32).toNat = (~~~ BitVec.ofNat 32 e).toNat := by rw [BitVec.xor_allOnes]
  rw [BitVec.toNat_xor, BitVec.toNat_not, BitVec.toNat_ofNat, BitVec.toNat_allOnes, Nat.mod_eq_of_lt (by omega)] at h2
  rw [Nat.xor_comm]
  exact h2

theorem first_sum (e f g h x : Nat) (he : e < 4294967296) (hf : f < 4294967296) (hg : g < 4294967296) :
    IntKind.u32.wrap (IntKind.u32.wrap (IntKind.u32.wrap ((h : Int) + bits .xor .u32 (bits .xor .u32 (rotr e 6 : Nat) (rotr e 11 : Nat)) (rotr e 25 : Nat)) + bits .xor .u32 (bits .and .u32 (e : Int) (f : Int)) (bits .and .u32 (bits .xor .u32 IntKind.u32.max (e : Int)) (g : Int))) + (x : Int))
      = (((h + bs1 e + ch e f g + x) % 4294967296 : Nat) : Int) := by
  rw [xor3 _ _ _ (rotr_lt _ _ he (by omega)) (rotr_lt _ _ he (by omega)) (rotr_lt _ _ he (by omega)), not_nat e he, u32_and_nat e f he hf, u32_and_nat _ g (by omega) hg, u32_xor_nat _ _ (and_lt hf) (and_lt hg), IntKind.wrap_u32', IntKind.wrap_u32', IntKind.wrap_u32']
  have f1 : rotr e 6 ^^^ rotr e 11 ^^^ rotr e 25 = bs1 e := rfl
  have f2 : (e &&& f) ^^^ ((4294967295 - e) &&& g) = ch e f g := rfl
  rw [f1, f2]
  omega
theorem second_sum (a b c : Nat) (ha : a < 4294967296) (hb : b < 4294967296) (hc : c < 4294967296) :
    IntKind.u32.wrap (bits .xor .u32 (bits .xor .u32 (rotr a 2 : Nat) (rotr a 13 : Nat)) (rotr a 22 : Nat) + bits .xor .u32 (bits .xor .u32 (bits .and .u32 (a : Int) (b : Int)) (bits .and .u32 (a : Int) (c : Int))) (bits .and .u32 (b : Int) (c : Int)))
      = (((bs0 a + maj a b c) % 4294967296 : Nat) : Int) := by
  rw [xor3 _ _ _ (rotr_lt _ _ ha (by omega)) (rotr_lt _ _ ha (by omega)) (rotr_lt _ _ ha (by omega)), u32_and_nat a b ha hb, u32_and_nat a c ha hc, u32_and_nat b c hb hc, xor3 _ _ _ (and_lt hb) (and_lt hc) (and_lt hc), IntKind.wrap_u32']
  have f1 : rotr a 2 ^^^ rotr a 13 ^^^ rotr a 22 = bs0 a := rfl
  have f2 : (a &&& b) ^^^ (a &&& c) ^^^ (b &&& c) = maj a b c := rfl
  rw [f1, f2]
  omega

set_option maxRecDepth 100000 in
set_option maxHeartbeats 2000000 in
theorem mix1_any (x : Nat) (hx : x < 4294967296) (p : Nat → Nat) (s : St) (hs : s.ok) (w : World) (hv : Vars w p s) :
    Calls Tryd.prog 41 #[U x, .pointer (some ⟨p 0, 0, none⟩), .pointer (some ⟨p 3, 0, none⟩), .pointer (some ⟨p 2, 0, none⟩), .pointer (some ⟨p 1, 0, none⟩), .pointer (some ⟨p 7, 0, none⟩), .pointer (some ⟨p 6, 0, none⟩), .pointer (some ⟨p 5, 0, none⟩), .pointer (some ⟨p 4, 0, none⟩)] w fun e w' => e = .returned (.tuple #[]) ∧ Vars w' p (rnd s x) ∧ Only (ps8 p) w w' := by
  obtain ⟨a, b, c, d, e, f, g, z⟩ := s
  have hs' := hs
  obtain ⟨ha, hb, hc, hd, he, hf, hg, hh⟩ := hs
  simp only at ha hb hc hd he hf hg hh
  have c0 := (hv.cel 0 (by omega)).cell
  have c1 := (hv.cel 1 (by omega)).cell
  have c2 := (hv.cel 2 (by omega)).cell
  have c3 := (hv.cel 3 (by omega)).cell
  have c4 := (hv.cel 4 (by omega)).cell
  have c5 := (hv.cel 5 (by omega)).cell
  have c6 := (hv.cel 6 (by omega)).cell
  have c7 := (hv.cel 7 (by omega)).cell
  simp only [St.at] at c0 c1 c2 c3 c4 c5 c6 c7
  have HVV := Lib.hid hv
  clear hv
  obtain ⟨F, hF⟩ : ∃ F, (z + bs1 e + ch e f g + x) % 4294967296 = F := ⟨_, rfl⟩
  obtain ⟨G, hG⟩ : ∃ G, (bs0 a + maj a b c) % 4294967296 = G := ⟨_, rfl⟩
  have HF := Lib.hid hF
  have HG := Lib.hid hG
  have hFM : F < 4294967296 := by rw [← hF]; exact mod_lt' _
  have hGM : G < 4294967296 := by rw [← hG]; exact mod_lt' _
  have hmax : (if IntKind.u32.signed = true then (-1 : Int) else IntKind.u32.max) = IntKind.u32.max := rfl
  have HFS := Lib.hid (first_sum e f g z x he hf hg)
  have HGS := Lib.hid (second_sum a b c ha hb hc)
  rw [hF] at HFS
  rw [hG] at HGS
  have HMX := Lib.hid hmax
  clear hF hG hmax
  go_enter Tryd.func41, Tryd.ntmps41
  go_upto_region 0 with fail
  go_cut [10] from 12 (fun s10 wx => s10 = U F ∧ Vars wx p ⟨a, b, c, d, e, f, g, z⟩ ∧ Only (ps8 p) w wx)
  case first =>
    refine wp_region_still_lit (by kernel_rfl) (by kernel_rfl) ?_
    repeat still_step
    still_call (rot_st 6 6 rfl e he (by omega) (by omega) _)
    repeat still_step
    still_call (rot_st 11 11 rfl e he (by omega) (by omega) _)
    repeat still_step
    still_call (rot_st 25 25 rfl e he (by omega) (by omega) _)
    repeat still_step
    refine wpStill_nil ?_
    simp only [HMX.out, HFS.out]
    go_wp2_with fail
    go_meet
    exact ⟨rfl, HVV.out.drew, (Only.refl _ w).drew⟩
  case rest =>
  clear c0 c1 c2 c3 c4 c5 c6 c7 HVV
  obtain ⟨rfl, hv, ho⟩ := hcut
  have c5 := (hv.cel 5 (by omega)).cell
  have c6 := (hv.cel 6 (by omega)).cell
  have c7 := (hv.cel 7 (by omega)).cell
  simp only [St.at] at c5 c6 c7
  have HVV := Lib.hid hv
  have HO := Lib.hid ho
  clear hv ho
  go_upto_region 1 with fail
  go_cut [11] from 12 (fun s11 wx => s11 = U G ∧ Vars wx p ⟨a, b, c, d, e, f, g, z⟩ ∧ Only (ps8 p) w wx)
  case first =>
    refine wp_region_still_lit (by kernel_rfl) (by kernel_rfl) ?_
    repeat still_step
    still_call (rot_st 2 2 rfl a ha (by omega) (by omega) _)
    repeat still_step
    still_call (rot_st 13 13 rfl a ha (by omega) (by omega) _)
    repeat still_step
    still_call (rot_st 22 22 rfl a ha (by omega) (by omega) _)
    repeat still_step
    refine wpStill_nil ?_
    simp only [HGS.out]
    go_wp2_with fail
    go_meet
    exact ⟨rfl, HVV.out.drew, HO.out.drew⟩
  case rest =>
  clear c5 c6 c7 HVV HO
  obtain ⟨rfl, hv, ho⟩ := hcut
  go_upto_region 2 with fail
  obtain ⟨D, hD⟩ : ∃ D, (d + F) % 4294967296 = D := ⟨_, rfl⟩
  obtain ⟨A, hA⟩ : ∃ A, (F + G) % 4294967296 = A := ⟨_, rfl⟩
  have wD : IntKind.u32.wrap ((d : Int) + (F : Int)) = (D : Int) := by rw [← hD, IntKind.wrap_u32']; rfl
  have wA : IntKind.u32.wrap ((F : Int) + (G : Int)) = (A : Int) := by rw [← hA, IntKind.wrap_u32']; rfl
  have HD := Lib.hid hD
  have HA := Lib.hid hA
  clear hD hA
  obtain ⟨val, hval⟩ : ∃ val : Nat → Value, (fun k => U ([g, f, e, d, F, D, c, b, a, F, G, A].getD k 0)) = val := ⟨_, rfl⟩
  obtain ⟨nw, hnw⟩ : ∃ nw : Nat → Nat, (fun j => [g, f, e, D, c, b, a, A].getD j 0) = nw := ⟨_, rfl⟩
  have hat : ∀ j, j < 8 → St.at ⟨a, b, c, d, e, f, g, z⟩ j = [z, g, f, e, d, c, b, a].getD j 0 := by
    intro j hj
    have : j = 0 ∨ j = 1 ∨ j = 2 ∨ j = 3 ∨ j = 4 ∨ j = 5 ∨ j = 6 ∨ j = 7 := by omega
    rcases this with h | h | h | h | h | h | h | h <;> subst h <;> rfl
  have v0 : val 0 = U g := by rw [← hval]; rfl
  have v1 : val 1 = U f := by rw [← hval]; rfl
  have v2 : val 2 = U e := by rw [← hval]; rfl
  have v3 : val 3 = U d := by rw [← hval]; rfl
  have v4 : val 4 = U F := by rw [← hval]; rfl
  have v5 : val 5 = U D := by rw [← hval]; rfl
  have v6 : val 6 = U c := by rw [← hval]; rfl
  have v7 : val 7 = U b := by rw [← hval]; rfl
  have v8 : val 8 = U a := by rw [← hval]; rfl
  have v9 : val 9 = U F := by rw [← hval]; rfl
  have v10 : val 10 = U G := by rw [← hval]; rfl
  have v11 : val 11 = U A := by rw [← hval]; rfl
  have HV := Lib.hid hv
  have HO := Lib.hid ho
  have HVAL := Lib.hid hval
  have HNW := Lib.hid hnw
  clear hv ho hval hnw
  obtain ⟨v, hvv⟩ : ∃ v : Nat → Value, (fun k => [u12, u13, u14, u15, u16, u17, u18, u19, u20, u21, u22, u23, u24, u25, u26, u27, u28, u29, u30, u31, u32, u33, u34, u35, u36, u37, u38, u39, u40, u41, u42, u43, u44, u45, u46, u47, u48, u49, u50, u51, u52].getD (k - 12) undef) = v := ⟨_, rfl⟩
  refine wp_region_inv (ops := ops36) [[], [], [], [], [], [3, 4], [], [], [], [], [], [9, 10], [0, 0], [1, 12, 0, 1, 12], [2, 13, 0, 1, 2, 12, 13], [5, 14, 0, 1, 2, 3, 4, 5, 12, 13, 14], [6, 15, 0, 1, 2, 3, 4, 5, 6, 12, 13, 14, 15], [7, 16, 0, 1, 2, 3, 4, 5, 6, 7, 12, 13, 14, 15, 16], [8, 17, 0, 1, 2, 3, 4, 5, 6, 7, 8, 12, 13, 14, 15, 16, 17], [11, 18, 0, 1, 2, 3, 4, 5, 6, 7, 8, 9, 10, 11, 12, 13, 14, 15, 16, 17, 18]] 20 (by kernel_rfl) (by kernel_rfl) (by decide) (by kernel_rfl)
    (fun t a' w' => ∃ u : Nat → Value, a' = Fr x F G p v u ∧ (∀ k, k < 12 → t k = true → u k = val k) ∧ Mid w p (St.at ⟨a, b, c, d, e, f, g, z⟩) nw t w') ?_ ?_ ?_
  · refine ⟨fun k => [u53, u54, u55, u56, u57, u58, u59, u60, u61, u62, u63, u64].getD k undef, ?_, (fun _ _ h => by cases h), ?_⟩
    · rw [← hvv]; rfl
    · exact { cel := fun j hj => HV.out.drew.cel j hj, only := HO.out.drew, chain := (fun _ _ h => by cases h), l0 := (fun h => by cases h), l1 := (fun h => by cases h), l2 := (fun h => by cases h), l3 := (fun h => by cases h), l4 := (fun h => by cases h), l5 := (fun h => by cases h), l6 := (fun h => by cases h) }
  · rintro t a' w' i ⟨u, rfl, hu, hM⟩ hi hbi hn
    have hcs : i = 0 ∨ i = 1 ∨ i = 2 ∨ i = 3 ∨ i = 4 ∨ i = 5 ∨ i = 6 ∨ i = 7 ∨ i = 8 ∨ i = 9 ∨ i = 10 ∨ i = 11 ∨ i = 12 ∨ i = 13 ∨ i = 14 ∨ i = 15 ∨ i = 16 ∨ i = 17 ∨ i = 18 ∨ i = 19 := by omega
    rcases hcs with rfl | rfl | rfl | rfl | rfl | rfl | rfl | rfl | rfl | rfl | rfl | rfl | rfl | rfl | rfl | rfl | rfl | rfl | rfl | rfl
    · exact op36_0 x F G p v u w' g (hM.old 1 0 (by omega) (by omega) hbi) ⟨_, rfl, (by rw [← v0]; exact upd_slots hu 0), hM.slot 0 (by omega)⟩
    · exact op36_1 x F G p v u w' f (hM.old 2 1 (by omega) (by omega) hbi) ⟨_, rfl, (by rw [← v1]; exact upd_slots hu 1), hM.slot 1 (by omega)⟩
    · exact op36_2 x F G p v u w' e (hM.old 3 2 (by omega) (by omega) hbi) ⟨_, rfl, (by rw [← v2]; exact upd_slots hu 2), hM.slot 2 (by omega)⟩
    · exact op36_3 x F G p v u w' d (hM.old 4 3 (by omega) (by omega) hbi) ⟨_, rfl, (by rw [← v3]; exact upd_slots hu 3), hM.slot 3 (by omega)⟩
    · exact op36_4 x F G p v u w' ⟨_, rfl, (by rw [← v4]; exact upd_slots hu 4), hM.slot 4 (by omega)⟩
    · exact op36_5 x F G p v u w' d F D ((hu 3 (by omega) (hn 3 (by decide))).trans v3) ((hu 4 (by omega) (hn 4 (by decide))).trans v4) wD ⟨_, rfl, (by rw [← v5]; exact upd_slots hu 5), hM.slot 5 (by omega)⟩
    · exact op36_6 x F G p v u w' c (hM.old 5 6 (by omega) (by omega) hbi) ⟨_, rfl, (by rw [← v6]; exact upd_slots hu 6), hM.slot 6 (by omega)⟩
    · exact op36_7 x F G p v u w' b (hM.old 6 7 (by omega) (by omega) hbi) ⟨_, rfl, (by rw [← v7]; exact upd_slots hu 7), hM.slot 7 (by omega)⟩
    · exact op36_8 x F G p v u w' a (hM.old 7 8 (by omega) (by omega) hbi) ⟨_, rfl, (by rw [← v8]; exact upd_slots hu 8), hM.slot 8 (by omega)⟩
    · exact op36_9 x F G p v u w' ⟨_, rfl, (by rw [← v9]; exact upd_slots hu 9), hM.slot 9 (by omega)⟩
    · exact op36_10 x F G p v u w' ⟨_, rfl, (by rw [← v10]; exact upd_slots hu 10), hM.slot 10 (by omega)⟩
    · exact op36_11 x F G p v u w' F G A ((hu 9 (by omega) (hn 9 (by decide))).trans v9) ((hu 10 (by omega) (hn 10 (by decide))).trans v10) wA ⟨_, rfl, (by rw [← v11]; exact upd_slots hu 11), hM.slot 11 (by omega)⟩
    · have hst := hM.store HV.out.inj 0 (by omega) (fun h => absurd h (by omega)) (fun k hk h => by obtain rfl : k = 0 := (by omega); exact hn 0 (by decide))
      rw [show nw 0 = g by rw [← HNW.out]; rfl] at hst
      exact op36_12 x F G p v u w' g _ ((hu 0 (by omega) (hn 0 (by decide))).trans v0) (hM.cel 0 (by omega)).cell (hM.cel 0 (by omega)).frozen ⟨u, rfl, upd_store hu 12 (by omega), hst⟩
    · have hst := hM.store HV.out.inj 1 (by omega) (fun _ => hn 12 (by decide)) (fun k hk h => by obtain rfl : k = 1 := (by omega); exact hn 1 (by decide))
      rw [show nw 1 = f by rw [← HNW.out]; rfl] at hst
      exact op36_13 x F G p v u w' f _ ((hu 1 (by omega) (hn 1 (by decide))).trans v1) (hM.cel 1 (by omega)).cell (hM.cel 1 (by omega)).frozen ⟨u, rfl, upd_store hu 13 (by omega), hst⟩
    · have hst := hM.store HV.out.inj 2 (by omega) (fun _ => hn 13 (by decide)) (fun k hk h => by obtain rfl : k = 2 := (by omega); exact hn 2 (by decide))
      rw [show nw 2 = e by rw [← HNW.out]; rfl] at hst
      exact op36_14 x F G p v u w' e _ ((hu 2 (by omega) (hn 2 (by decide))).trans v2) (hM.cel 2 (by omega)).cell (hM.cel 2 (by omega)).frozen ⟨u, rfl, upd_store hu 14 (by omega), hst⟩
    · have hst := hM.store HV.out.inj 3 (by omega) (fun _ => hn 14 (by decide)) (fun k hk h => by obtain rfl : k = 3 := (by omega); exact hn 3 (by decide))
      rw [show nw 3 = D by rw [← HNW.out]; rfl] at hst
      exact op36_15 x F G p v u w' D _ ((hu 5 (by omega) (hn 5 (by decide))).trans v5) (hM.cel 3 (by omega)).cell (hM.cel 3 (by omega)).frozen ⟨u, rfl, upd_store hu 15 (by omega), hst⟩
    · have hst := hM.store HV.out.inj 4 (by omega) (fun _ => hn 15 (by decide)) (fun k hk h => by obtain rfl : k = 6 := (by omega); exact hn 6 (by decide))
      rw [show nw 4 = c by rw [← HNW.out]; rfl] at hst
      exact op36_16 x F G p v u w' c _ ((hu 6 (by omega) (hn 6 (by decide))).trans v6) (hM.cel 4 (by omega)).cell (hM.cel 4 (by omega)).frozen ⟨u, rfl, upd_store hu 16 (by omega), hst⟩
    · have hst := hM.store HV.out.inj 5 (by omega) (fun _ => hn 16 (by decide)) (fun k hk h => by obtain rfl : k = 7 := (by omega); exact hn 7 (by decide))
      rw [show nw 5 = b by rw [← HNW.out]; rfl] at hst
      exact op36_17 x F G p v u w' b _ ((hu 7 (by omega) (hn 7 (by decide))).trans v7) (hM.cel 5 (by omega)).cell (hM.cel 5 (by omega)).frozen ⟨u, rfl, upd_store hu 17 (by omega), hst⟩
    · have hst := hM.store HV.out.inj 6 (by omega) (fun _ => hn 17 (by decide)) (fun k hk h => by obtain rfl : k = 8 := (by omega); exact hn 8 (by decide))
      rw [show nw 6 = a by rw [← HNW.out]; rfl] at hst
      exact op36_18 x F G p v u w' a _ ((hu 8 (by omega) (hn 8 (by decide))).trans v8) (hM.cel 6 (by omega)).cell (hM.cel 6 (by omega)).frozen ⟨u, rfl, upd_store hu 18 (by omega), hst⟩
    · have hst := hM.store HV.out.inj 7 (by omega) (fun _ => hn 18 (by decide)) (fun k hk h => by omega)
      rw [show nw 7 = A by rw [← HNW.out]; rfl] at hst
      exact op36_19 x F G p v u w' A _ ((hu 11 (by omega) (hn 11 (by decide))).trans v11) (hM.cel 7 (by omega)).cell (hM.cel 7 (by omega)).frozen ⟨u, rfl, upd_store hu 19 (by omega), hst⟩
  · rintro t a' w' ⟨u, rfl, hu, hM⟩ hall
    have hfin : Vars w' p (rnd ⟨a, b, c, d, e, f, g, z⟩ x) := by
      rw [rnd_eq a b c d e f g z x F G D A HF.out HG.out HD.out HA.out]
      refine ⟨fun j hj => ?_, HV.out.inj⟩
      have h1 := hM.cel j hj
      rw [hall (12 + j) (by omega), if_pos rfl, ← HNW.out] at h1
      have : j = 0 ∨ j = 1 ∨ j = 2 ∨ j = 3 ∨ j = 4 ∨ j = 5 ∨ j = 6 ∨ j = 7 := by omega
      rcases this with h | h | h | h | h | h | h | h <;> subst h <;> exact h1
    have HFIN := Lib.hid hfin
    have HON := Lib.hid hM.only
    clear hfin hM hu hall
    go_wp2
    exact bodyPost_end (results_none rfl _ _ _) rfl ⟨rfl, HFIN.out, HON.out⟩
end Go.Proofs.YtmimffbjghhdhaaDoor
