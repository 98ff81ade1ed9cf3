/- A node's bytes, the document's answer. Conditions: none. -/
import Derived.Test.YtedhcohpcdkgnaaN8
import Derived.Test.YtedhcohpcdkgnaaN1
namespace Go.Bs
open Go.RowKit
theorem byte_val (n : Nat) : Value.int .u8 ((n : Int) % 256) = B (byteAt n 0) := by
  have := byteAt_val n 0
  simpa using this
theorem rd_three (w : World) (t : Nat) (v1 v2 v3 : Value) (x y z : UInt8) (h1 : v1 = B x) (h2 : v2 = B y) (h3 : v3 = B z) : Rd (w.alloc (.cells #[v1, v2, v3] t)) (some ⟨w.heap.size, 0, none⟩) 3 3 [x, y, z] := by
  subst h1 h2 h3
  exact (Blk.new w t [x, y, z]).all 3 (Nat.le_refl _)
theorem own_three (w : World) (v1 v2 v3 : Value) (x y z : UInt8) (h1 : v1 = B x) (h2 : v2 = B y) (h3 : v3 = B z) : Own (w.alloc (.cells #[v1, v2, v3] 5)) w.heap.size 5 (.slice (some ⟨w.heap.size, 0, none⟩) 3 3) [x, y, z] := by
  subst h1 h2 h3
  exact ⟨by simp, .inr ⟨w.heap.size, 3, #[B x, B y, B z], rfl, Nat.le_refl _, heap_alloc_new w _, by simp, by simp [maxLen], by simp, by simp⟩⟩
theorem zeros_snoc (j : Nat) : zeros j ++ [0] = zeros (j + 1) := by simp [zeros, List.replicate_succ']
theorem beB_two (n : Nat) : beB n 2 = [byteAt n 1, byteAt n 0] := rfl
theorem beB_three (n : Nat) : beB n 3 = [byteAt n 2, byteAt n 1, byteAt n 0] := rfl
theorem val_hi (n : Nat) (h : n < 65536) : Value.int .u8 ((n : Int) / 256) = B (byteAt n 1) := by
  have := byteAt_val n 1
  rw [← this]; congr 1
  rw [Int.emod_eq_of_lt (by omega) (by omega)]; rfl
theorem val_top (n : Nat) (h : n < 16777216) : Value.int .u8 ((n : Int) / 65536) = B (byteAt n 2) := by
  have := byteAt_val n 2
  rw [← this]; congr 1
  rw [Int.emod_eq_of_lt (by omega) (by omega)]; rfl
theorem val_mid (n : Nat) : Value.int .u8 ((n : Int) / 256 % 256) = B (byteAt n 1) := by
  have := byteAt_val n 1
  rw [← this]; rfl
theorem chk_leaf {N : Nd} {m : Nat} (h : N.fits m = true) (hl : N.leaf = true) : N.ks.length = 0 ∧ N.cs.length = 0 := by
  unfold Nd.fits at h
  rw [hl] at h
  simp only [if_true, Bool.and_eq_true, beq_iff_eq] at h
  exact h.1
theorem chk_inner {N : Nd} {m : Nat} (h : N.fits m = true) (hl : N.leaf = false) : N.ps.length = 0 ∧ N.cs.length = N.ks.length + 1 ∧ ∀ j, j < N.cs.length → 1 ≤ N.cs.getD j 0 ∧ N.cs.getD j 0 ≤ 16777215 := by
  unfold Nd.fits at h
  rw [hl] at h
  simp only [Bool.false_eq_true, if_false, Bool.and_eq_true, beq_iff_eq] at h
  refine ⟨h.1.1.1, h.1.2, fun j hj => ?_⟩
  have := allOk_at h.2 j hj
  simp only [badC, Bool.or_eq_false_iff, decide_eq_false_iff_not] at this
  omega
end Go.Bs
namespace Go.Proofs.Ytedhcohpcdkgnaa
open Go.RowKit Go.Bs

set_option maxRecDepth 100000 in
set_option maxHeartbeats 8000000 in
theorem rBytes_any (w : World) (h : Hd) (N : Nd) (H : NdAt w h N) (hF : N.Few 7000) (n : Nat) (hz0 : N.chk (n : Int) = 0) :
    Calls Try.prog 18 #[nv h N.leaf, .int .i64 (n : Int)] w fun e w' => (∃ A c, e = .returned (.slice A n c) ∧ Rd w' A n c (N.body ++ zeros (n - N.body.length))) ∧ Below w.heap.size w w' := by
  obtain ⟨hr1, hr2, hfit, hsz⟩ := chk_zero hz0
  have hbl := fits_body hfit
  have hn1 : 64 ≤ n := by omega
  have hn2 : n ≤ 4096 := by omega
  have hbn : N.body.length ≤ n := by omega
  have HLF := Lib.hid (chk_leaf hfit)
  have HIN := Lib.hid (chk_inner hfit)
  have hbody : N.body = if N.leaf then leafB N.ps else innB N.cs N.ks := rfl
  obtain ⟨BD, hBD⟩ : ∃ BD, N.body = BD := ⟨_, rfl⟩
  rw [hBD] at hbn hbody ⊢
  clear hz0 hr1 hr2 hfit hsz hbl hBD
  have HH := Lib.hid H
  have HF := Lib.hid hF
  obtain ⟨leaf, ps, ks, cs⟩ := N
  obtain ⟨pA, pl, pc, kA, kl, kc, cA, cl, cc⟩ := h
  have hpl : ps.length = pl := H.p.len
  have hkl : ks.length = kl := H.k.len
  have hcl : cs.length = cl := H.c.len
  have hpc : pl ≤ pc := H.p.cap
  have hkc : kl ≤ kc := H.k.cap
  have hcc : cl ≤ cc := H.c.cap
  have hp := hF.p
  have hk := hF.k
  have hc := hF.c
  simp only at hp hk hc
  rw [hpl] at hp
  rw [hkl] at hk
  rw [hcl] at hc
  clear hF
  have HPL := Lib.hid hpl
  have HKL := Lib.hid hkl
  have HCL := Lib.hid hcl
  clear H hpl hkl hcl
  obtain ⟨g, hg⟩ : ∃ g, w.heap.size = g := ⟨_, rfl⟩
  have HG := Lib.hid hg
  obtain ⟨W, hW⟩ : ∃ W, w.alloc (.cells (ncs ⟨pA, pl, pc, kA, kl, kc, cA, cl, cc⟩ leaf) 26) = W := ⟨_, rfl⟩
  have hbx : Bx W g ⟨pA, pl, pc, kA, kl, kc, cA, cl, cc⟩ leaf := by rw [← hW, ← hg]; exact Bx.new _ _ _
  have hbw : Below g w W := by rw [← hW, ← hg]; exact (Below.refl _ _).alloc (Nat.le_refl _) _
  obtain ⟨c0, c1, c2, c3⟩ := hbx.cells
  have HBX := Lib.hid hbx
  have HBW := Lib.hid hbw
  clear hbx hbw
  simp only [nv]
  rw [hg]
  have hWg : g ≤ W.heap.size := by have := HBW.out.size; rw [HG.out] at this; exact this
  obtain ⟨bs0, hbs0⟩ : ∃ bs0, W.heap.size = bs0 := ⟨_, rfl⟩
  have HBS := Lib.hid hbs0
  have hgb : g ≤ bs0 := by rw [← hbs0]; exact hWg
  have hbw2 : Below w.heap.size w W := by rw [HG.out]; exact HBW.out
  have HPW := Lib.hid (HH.out.p.keep hbw2)
  have HKW := Lib.hid (HH.out.k.keep hbw2)
  have HCW := Lib.hid (HH.out.c.keep hbw2)
  simp only at HPW HKW HCW hbody
  have HSP := Lib.hid HF.out.sp
  have HSK := Lib.hid HF.out.sk
  simp only at HSP HSK
  clear hbw2
  cases leaf with
  | true =>
    obtain ⟨hk0, hc0⟩ := HLF.out rfl
    simp only at hk0 hc0
    rw [HKL.out] at hk0
    rw [HCL.out] at hc0
    subst hk0 hc0
    have HBD : Hid (BD = leafB ps) := hbody
    clear hbody hc hk
    go_enter Try.func18, Try.ntmps18
    go_wp2

    go_loopw [7, 8] (fun x i wr => ∃ k : Nat, k ≤ pl ∧ i = .int .i64 k ∧ Go.Bs.Own wr bs0 5 x (leafTo ps k) ∧ Below bs0 W wr) (fun _ i _ => pl - (intOf i).toNat)
    case atStart =>
      refine ⟨0, Nat.zero_le _, rfl, ?_, ?_⟩
      · rw [show leafTo ps 0 = [1, byteAt pl 1, byteAt pl 0] by simp [leafTo, HPL.out, beB_two]]
        rw [← HBS.out]
        exact own_three W _ _ _ 1 _ _ rfl (val_hi pl (by omega)) (byte_val pl)
      · rw [← HBS.out]; exact (Below.refl _ _).alloc (Nat.le_refl _) _
    case round =>
      obtain ⟨k, hk1, rfl, hO, hbl⟩ := hrel
      have HBL := Lib.hid hbl
      have hsw : bs0 ≤ wr.heap.size := by have := hbl.size; rw [HBS.out] at this; exact this
      have HO := Lib.hid hO
      clear hbl c0 c1 c2 c3 hO
      have hkeep : Below W.heap.size W wr := by rw [HBS.out]; exact HBL.out
      obtain ⟨d0, d1, d2, d3⟩ := (HBX.out.keep hkeep).cells
      clear hkeep

      by_cases hlt : k < pl
      · obtain ⟨q, o, rfl, hq, hcell⟩ := HPW.out.cells (by omega)
        obtain ⟨E0, E1⟩ := hcell k hlt
        have hsz := HSP.out (pAt ps k) (pAt_mem ps k (by rw [HPL.out]; exact hlt))
        have hls := leafTo_succ ps k (by rw [HPL.out]; exact hlt)
        have hll := leafTo_length ps k
        have hll2 := psum_take_le ps 7000 k (by rw [HPL.out]; exact hp) HSP.out
        obtain ⟨x, hx⟩ : ∃ x, (pAt ps k).1 = x := ⟨_, rfl⟩
        obtain ⟨y, hy⟩ : ∃ y, (pAt ps k).2 = y := ⟨_, rfl⟩
        rw [hx] at E0 hsz hls
        rw [hy] at E1 hsz hls
        have HLS := Lib.hid hls
        have HE0 := Lib.hid E0
        have HE1 := Lib.hid E1
        have e0 : wr.cell? ⟨q, o + k * 2, none⟩ = some (.string x) := (HBL.out.cell (p := ⟨q, o + k * 2, none⟩) (by rw [← HBS.out]; exact hq)).trans E0
        obtain ⟨L0, hL0⟩ : ∃ L0, leafTo ps k = L0 := ⟨_, rfl⟩
        rw [hL0] at HO HLS hll
        clear E0 E1 hcell hx hy hls hL0
        have hO := HO.out
        have HB_wr0 : Hid (Below bs0 W (wr.alloc (.cells #[Value.int IntKind.u8 (↑x.size % 256)] 5))) := HBL.out.alloc (by omega) _
        have hx8 : x.data.toList.length = x.size := by simp
        have hy8 : y.data.toList.length = y.size := by simp
        go_wp2_with (first
          | (at_builtin; refine wpList_app _ rfl (.tmp 36) (.tmp 45) 30 rfl bs0 5 Try.underlying30 u8_info u7 L0 rfl (hO.alloc _) _ 1 1 [byteAt x.size 0] rfl (one_rd _ _ _ _ (byte_val x.size)) (by omega) (by simpa using Nat.le_succ_of_le hsw) ?_; intro v1 w1 ho_w1 hb_w1; have HB_w1 := Lib.hid (HB_wr0.out.trans hb_w1); have HO_w1 := Lib.hid ho_w1; have hkeep_w1 : Below W.heap.size W w1 := (by rw [HBS.out]; exact HB_w1.out); obtain ⟨d0_w1, d1_w1, d2_w1, d3_w1⟩ := (HBX.out.keep hkeep_w1).cells; have hs_w1 : bs0 ≤ w1.heap.size := (by have := hkeep_w1.size; rw [HBS.out] at this; exact this); have e0_w1 : w1.cell? ⟨q, o + k * 2, none⟩ = some (.string x) := (HB_w1.out.cell (p := ⟨q, o + k * 2, none⟩) (by rw [← HBS.out]; exact hq)).trans HE0.out; obtain ⟨cv_w1, wc_w1, hcv_w1, hrc_w1, hbc_w1⟩ := run_bytes_str (P := Try.prog) w1 9 30 5 Try.underlying9 Try.underlying30 Try.underlying5 x; have HBC_w1 := Lib.hid (HB_w1.out.trans (hbc_w1.mono hs_w1)); have HRC_w1 := Lib.hid hrc_w1; have hsc_w1 : bs0 ≤ wc_w1.heap.size := Nat.le_trans hs_w1 hbc_w1.size; have hoc_w1 := ho_w1.keep hbc_w1; clear hrc_w1 hbc_w1; clear ho_w1 hb_w1 hkeep_w1)
          | (at_builtin; refine wpList_app _ rfl (.tmp 47) (.tmp 54) 30 rfl bs0 5 Try.underlying30 u8_info v1 (L0 ++ [byteAt x.size 0]) rfl hoc_w1 _ x.size cv_w1 x.data.toList rfl HRC_w1.out (by simp only [List.length_append, List.length_cons, List.length_nil]; omega) hsc_w1 ?_; intro v2 w2 ho_w2 hb_w2; have HB_w1 := HBC_w1; have HB_w2 := Lib.hid (HB_w1.out.trans hb_w2); have HO_w2 := Lib.hid ho_w2; have hkeep_w2 : Below W.heap.size W w2 := (by rw [HBS.out]; exact HB_w2.out); obtain ⟨d0_w2, d1_w2, d2_w2, d3_w2⟩ := (HBX.out.keep hkeep_w2).cells; have hs_w2 : bs0 ≤ w2.heap.size := (by have := hkeep_w2.size; rw [HBS.out] at this; exact this); have e1_w2 : w2.cell? ⟨q, o + k * 2 + 1, none⟩ = some (.string y) := (HB_w2.out.cell (p := ⟨q, o + k * 2 + 1, none⟩) (by rw [← HBS.out]; exact hq)).trans HE1.out; clear ho_w2 hb_w2 hkeep_w2; have HB_w2a : Hid (Below bs0 W (w2.alloc (.cells #[Value.int IntKind.u8 (↑y.size % 256)] 5))) := HB_w2.out.alloc (by omega) _)
          | (at_builtin; refine wpList_app _ rfl (.tmp 56) (.tmp 65) 30 rfl bs0 5 Try.underlying30 u8_info v2 (L0 ++ [byteAt x.size 0] ++ x.data.toList) rfl (HO_w2.out.alloc _) _ 1 1 [byteAt y.size 0] rfl (one_rd _ _ _ _ (byte_val y.size)) (by simp only [List.length_append, List.length_cons, List.length_nil]; omega) (by simpa using Nat.le_succ_of_le hs_w2) ?_; intro v3 w3 ho_w3 hb_w3; have HB_w3 := Lib.hid (HB_w2a.out.trans hb_w3); have HO_w3 := Lib.hid ho_w3; have hkeep_w3 : Below W.heap.size W w3 := (by rw [HBS.out]; exact HB_w3.out); obtain ⟨d0_w3, d1_w3, d2_w3, d3_w3⟩ := (HBX.out.keep hkeep_w3).cells; have hs_w3 : bs0 ≤ w3.heap.size := (by have := hkeep_w3.size; rw [HBS.out] at this; exact this); have e1_w3 : w3.cell? ⟨q, o + k * 2 + 1, none⟩ = some (.string y) := (HB_w3.out.cell (p := ⟨q, o + k * 2 + 1, none⟩) (by rw [← HBS.out]; exact hq)).trans HE1.out; obtain ⟨cv_w3, wc_w3, hcv_w3, hrc_w3, hbc_w3⟩ := run_bytes_str (P := Try.prog) w3 9 30 5 Try.underlying9 Try.underlying30 Try.underlying5 y; have HBC_w3 := Lib.hid (HB_w3.out.trans (hbc_w3.mono hs_w3)); have HRC_w3 := Lib.hid hrc_w3; have hsc_w3 : bs0 ≤ wc_w3.heap.size := Nat.le_trans hs_w3 hbc_w3.size; have hoc_w3 := ho_w3.keep hbc_w3; clear hrc_w3 hbc_w3; clear ho_w3 hb_w3 hkeep_w3)
          | (at_builtin; refine wpList_app _ rfl (.tmp 67) (.tmp 74) 30 rfl bs0 5 Try.underlying30 u8_info v3 (L0 ++ [byteAt x.size 0] ++ x.data.toList ++ [byteAt y.size 0]) rfl hoc_w3 _ y.size cv_w3 y.data.toList rfl HRC_w3.out (by simp only [List.length_append, List.length_cons, List.length_nil]; omega) hsc_w3 ?_; intro v4 w4 ho_w4 hb_w4; have HB_w4 := Lib.hid (HBC_w3.out.trans hb_w4); have HO_w4 := Lib.hid ho_w4; clear ho_w4 hb_w4))
        go_roundw
        case rel => exact ⟨k + 1, by omega, by go_num, by rw [HLS.out]; have := HO_w4.out; simp only [List.append_assoc, List.cons_append, List.nil_append, txt] at this ⊢; exact this, HB_w4.out⟩
        case measure => simp [intOf]; omega
      · obtain rfl : k = pl := by omega
        have hlo : leafTo ps k = BD := by rw [HBD.out, leafTo, ← HPL.out, List.take_length]; rfl
        rw [hlo] at HO
        clear hlo
        go_wp2
        obtain ⟨X7, hX7⟩ : ∃ X7, u7 = X7 := ⟨_, rfl⟩
        rw [hX7] at HO ⊢
        clear hX7
        go_loopw [7, 9] (fun x i wv => i = .int .i64 0 ∧ x = X7 ∧ wv = wr) (fun _ _ _ => 0)
        case atStart => exact ⟨rfl, rfl, rfl⟩
        case round =>
          obtain ⟨rfl, rfl, rfl⟩ := hrel
          go_wp2
          go_loopw [7, 11] (fun x i wv => i = .int .i64 0 ∧ x = u7 ∧ wv = wr) (fun _ _ _ => 0)
          case atStart => exact ⟨rfl, rfl, rfl⟩
          case round =>
            obtain ⟨rfl, rfl, rfl⟩ := hrel
            go_wp2
            go_loopw [7] (fun x wv => ∃ j : Nat, BD.length + j ≤ n ∧ Go.Bs.Own wv bs0 5 x (BD ++ zeros j) ∧ Below bs0 W wv) (fun x _ => n - sliceLen x)
            case atStart => exact ⟨0, hbn, by simpa [zeros] using HO.out, HBL.out⟩
            case round =>
              obtain ⟨j, hj, hO4, hb4⟩ := hrel
              obtain ⟨m, hm⟩ : ∃ m, BD.length + j = m := ⟨_, rfl⟩
              obtain ⟨A, c, rfl, hR4⟩ := hO4.slice m (by rw [List.length_append, zeros_length]; exact hm)
              have HO4 := Lib.hid hO4
              have HB4 := Lib.hid hb4
              have HR4 := Lib.hid hR4
              have hs4 : bs0 ≤ wr.heap.size := by have := hb4.size; rw [HBS.out] at this; exact this
              rw [hm] at hj
              have hl4 : (BD ++ zeros j).length = m := by rw [List.length_append, zeros_length]; exact hm
              have HM := Lib.hid hm
              have HL4 := Lib.hid hl4
              clear hb4 hR4 hm hl4 hO4
              by_cases hjm : m < n
              · go_wp2_with (at_builtin; refine wpList_app _ rfl (.tmp 130) (.tmp 131) 30 rfl bs0 5 Try.underlying30 u8_info _ (BD ++ zeros j) rfl (HO4.out.alloc _) _ 1 1 [0] rfl (one_rd _ _ 0 _ rfl) (by rw [HL4.out]; omega) (by simpa using Nat.le_succ_of_le hs4) ?_; intro v5 w5 ho5 hb5; have HO5 := Lib.hid ho5; have HB5 := Lib.hid ((HB4.out.alloc (by omega) _).trans hb5); clear ho5 hb5)
                go_roundw
                case rel => exact ⟨j + 1, by have := HM.out; omega, by have := HO5.out; rw [List.append_assoc, zeros_snoc] at this; exact this, HB5.out⟩
                case measure =>
                  obtain ⟨A5, c5, e5, _⟩ := HO5.out.slice (m + 1) (by rw [List.length_append, HL4.out]; rfl)
                  rw [e5]; simp [sliceLen]; omega
              · obtain rfl : m = n := by omega
                have he : j = m - BD.length := by have := HM.out; omega
                have HR5 : Hid (Rd wr A m c (BD ++ zeros (m - BD.length))) := by show Rd wr A m c (BD ++ zeros (m - BD.length)); rw [← he]; exact HR4.out
                have HB5 : Hid (Below g w wr) := HBW.out.trans (HB4.out.mono hgb)
                clear he
                go_wp2
                go_ret
                exact ⟨⟨_, _, rfl, HR5.out⟩, HB5.out⟩
  | false =>
    obtain ⟨hp0, hc0, hch⟩ := HIN.out rfl
    simp only at hp0 hc0 hch
    rw [HPL.out] at hp0
    rw [HCL.out, HKL.out] at hc0
    rw [HCL.out] at hch
    subst hp0 hc0
    have HCH := Lib.hid hch
    have HBD : Hid (BD = innB cs ks) := hbody
    clear hbody hp hch
    go_enter Try.func18, Try.ntmps18
    go_wp2

    go_loopw [7, 8] (fun x i wr => i = .int .i64 0 ∧ Go.Bs.Own wr bs0 5 x (innTo cs ks 0 0) ∧ Below bs0 W wr) (fun _ _ _ => 0)
    case atStart =>
      refine ⟨rfl, ?_, ?_⟩
      · rw [show innTo cs ks 0 0 = [2, byteAt kl 1, byteAt kl 0] by simp [innTo, HKL.out, beB_two]]
        rw [← HBS.out]
        exact own_three W _ _ _ 2 _ _ rfl (val_hi kl (by omega)) (byte_val kl)
      · rw [← HBS.out]; exact (Below.refl _ _).alloc (Nat.le_refl _) _
    case round =>
      obtain ⟨rfl, hO, hbl⟩ := hrel
      have HBL := Lib.hid hbl
      have HO := Lib.hid hO
      clear c0 c1 c2 c3 hO
      have hkeep : Below W.heap.size W wr := by rw [HBS.out]; exact HBL.out
      obtain ⟨d0, d1, d2, d3⟩ := (HBX.out.keep hkeep).cells
      clear hkeep

      clear hbl
      go_wp2
      go_loopw [7, 9] (fun x i wr => ∃ k : Nat, k ≤ kl + 1 ∧ i = .int .i64 k ∧ Go.Bs.Own wr bs0 5 x (innTo cs ks k 0) ∧ Below bs0 W wr) (fun _ i _ => kl + 1 - (intOf i).toNat)
      case atStart => exact ⟨0, Nat.zero_le _, rfl, HO.out, HBL.out⟩
      case round =>
        clear HO HBL d0 d1 d2 d3
        obtain ⟨k, hk1, rfl, hO, hbl⟩ := hrel
        have HBL := Lib.hid hbl
        have hsw : bs0 ≤ wr.heap.size := by have := hbl.size; rw [HBS.out] at this; exact this
        have HO := Lib.hid hO
        clear hbl hO
        have hkeep : Below W.heap.size W wr := by rw [HBS.out]; exact HBL.out
        obtain ⟨d0, d1, d2, d3⟩ := (HBX.out.keep hkeep).cells
        clear hkeep

        by_cases hlt : k < kl + 1
        · obtain ⟨q, o, rfl, hq, hcell⟩ := HCW.out.cells (by omega)
          have E0 := hcell k hlt
          have hcb := HCH.out k hlt
          have hls := innTo_child cs ks k (by rw [HCL.out]; exact hlt)
          have hll := innTo_length cs ks k 0
          have htk : (cs.take k).length ≤ k := List.length_take_le _ _
          obtain ⟨x, hx⟩ : ∃ x : Nat, cs.getD k 0 = (x : Int) := ⟨(cs.getD k 0).toNat, by omega⟩
          rw [hx] at E0 hls hcb
          rw [show ((x : Int)).toNat = x from rfl, beB_three] at hls
          have HLS := Lib.hid hls
          have e0 : wr.cell? ⟨q, o + k, none⟩ = some (.int .i64 (x : Int)) := (HBL.out.cell (p := ⟨q, o + k, none⟩) (by rw [← HBS.out]; exact hq)).trans E0
          obtain ⟨L0, hL0⟩ : ∃ L0, innTo cs ks k 0 = L0 := ⟨_, rfl⟩
          rw [hL0] at HO HLS hll
          have hll3 : L0.length ≤ 100000 := by rw [hll]; simp [ssum]; omega
          obtain ⟨hcb1, hcb2⟩ := hcb
          have hxn : x < 16777216 := by omega
          clear E0 hcell hx hls hL0 hll
          have hO := HO.out
          have HB_wr0 : Hid (Below bs0 W (wr.alloc (.cells #[Value.int IntKind.u8 (↑x / 65536), Value.int IntKind.u8 (↑x / 256 % 256), Value.int IntKind.u8 (↑x % 256)] 5))) := HBL.out.alloc (by omega) _
          go_wp2_with (at_builtin; refine wpList_app _ rfl (.tmp 88) (.tmp 99) 30 rfl bs0 5 Try.underlying30 u8_info u7 L0 rfl (hO.alloc _) _ 3 3 [byteAt x 2, byteAt x 1, byteAt x 0] rfl (rd_three _ _ _ _ _ _ _ _ (val_top x hxn) (val_mid x) (byte_val x)) (by omega) (by simpa using Nat.le_succ_of_le hsw) ?_; intro v1 w1 ho_w1 hb_w1; have HB_w1 := Lib.hid (HB_wr0.out.trans hb_w1); have HO_w1 := Lib.hid ho_w1; clear ho_w1 hb_w1)
          go_roundw
          case rel => exact ⟨k + 1, by omega, by go_num, by rw [HLS.out]; exact HO_w1.out, HB_w1.out⟩
          case measure => simp [intOf]; omega
        · obtain rfl : k = kl + 1 := by omega
          go_wp2
          go_loopw [7, 11] (fun x i wr => ∃ j : Nat, j ≤ kl ∧ i = .int .i64 j ∧ Go.Bs.Own wr bs0 5 x (innTo cs ks (kl + 1) j) ∧ Below bs0 W wr) (fun _ i _ => kl - (intOf i).toNat)
          case atStart => exact ⟨0, Nat.zero_le _, rfl, HO.out, HBL.out⟩
          case round =>
            clear HO HBL d0 d1 d2 d3 hlt hk1 hsw
            obtain ⟨k, hk1, rfl, hO, hbl⟩ := hrel
            have HBL := Lib.hid hbl
            have hsw : bs0 ≤ wr.heap.size := by have := hbl.size; rw [HBS.out] at this; exact this
            have HO := Lib.hid hO
            clear hbl hO
            have hkeep : Below W.heap.size W wr := by rw [HBS.out]; exact HBL.out
            obtain ⟨d0, d1, d2, d3⟩ := (HBX.out.keep hkeep).cells
            clear hkeep

            by_cases hlt : k < kl
            · obtain ⟨q, o, rfl, hq, hcell⟩ := HKW.out.cells (by omega)
              have E0 := hcell k hlt
              have hsz := HSK.out (sAt ks k) (sAt_mem ks k (by rw [HKL.out]; exact hlt))
              have hls := innTo_key cs ks (kl + 1) k (by rw [HKL.out]; exact hlt)
              have hll := innTo_length cs ks (kl + 1) k
              have hll2 := ssum_take_le ks 7000 k (by rw [HKL.out]; exact hk) HSK.out
              have htk : (cs.take (kl + 1)).length ≤ kl + 1 := List.length_take_le _ _
              obtain ⟨x, hx⟩ : ∃ x, sAt ks k = x := ⟨_, rfl⟩
              rw [show ks.getD k ByteArray.empty = x from hx] at E0
              rw [hx] at hsz hls
              have HLS := Lib.hid hls
              have HE0 := Lib.hid E0
              have e0 : wr.cell? ⟨q, o + k, none⟩ = some (.string x) := (HBL.out.cell (p := ⟨q, o + k, none⟩) (by rw [← HBS.out]; exact hq)).trans E0
              obtain ⟨L0, hL0⟩ : ∃ L0, innTo cs ks (kl + 1) k = L0 := ⟨_, rfl⟩
              rw [hL0] at HO HLS hll
              have hll3 : L0.length ≤ 100000000 := by omega
              clear E0 hcell hx hls hL0 hll hll2
              have hO := HO.out
              have hx8 : x.data.toList.length = x.size := by simp
              have HB_wr0 : Hid (Below bs0 W (wr.alloc (.cells #[Value.int IntKind.u8 (↑x.size % 256)] 5))) := HBL.out.alloc (by omega) _
              go_wp2_with (first
                | (at_builtin; refine wpList_app _ rfl (.tmp 108) (.tmp 116) 30 rfl bs0 5 Try.underlying30 u8_info u7 L0 rfl (hO.alloc _) _ 1 1 [byteAt x.size 0] rfl (one_rd _ _ _ _ (byte_val x.size)) (by omega) (by simpa using Nat.le_succ_of_le hsw) ?_; intro v1 w1 ho_w1 hb_w1; have HB_w1 := Lib.hid (HB_wr0.out.trans hb_w1); have HO_w1 := Lib.hid ho_w1; have hkeep_w1 : Below W.heap.size W w1 := (by rw [HBS.out]; exact HB_w1.out); obtain ⟨d0_w1, d1_w1, d2_w1, d3_w1⟩ := (HBX.out.keep hkeep_w1).cells; have hs_w1 : bs0 ≤ w1.heap.size := (by have := hkeep_w1.size; rw [HBS.out] at this; exact this); have e0_w1 : w1.cell? ⟨q, o + k, none⟩ = some (.string x) := (HB_w1.out.cell (p := ⟨q, o + k, none⟩) (by rw [← HBS.out]; exact hq)).trans HE0.out; obtain ⟨cv_w1, wc_w1, hcv_w1, hrc_w1, hbc_w1⟩ := run_bytes_str (P := Try.prog) w1 9 30 5 Try.underlying9 Try.underlying30 Try.underlying5 x; have HBC_w1 := Lib.hid (HB_w1.out.trans (hbc_w1.mono hs_w1)); have HRC_w1 := Lib.hid hrc_w1; have hsc_w1 : bs0 ≤ wc_w1.heap.size := Nat.le_trans hs_w1 hbc_w1.size; have hoc_w1 := ho_w1.keep hbc_w1; clear hrc_w1 hbc_w1; clear ho_w1 hb_w1 hkeep_w1)
                | (at_builtin; refine wpList_app _ rfl (.tmp 118) (.tmp 124) 30 rfl bs0 5 Try.underlying30 u8_info v1 (L0 ++ [byteAt x.size 0]) rfl hoc_w1 _ x.size cv_w1 x.data.toList rfl HRC_w1.out (by simp only [List.length_append, List.length_cons, List.length_nil]; omega) hsc_w1 ?_; intro v2 w2 ho_w2 hb_w2; have HB_w2 := Lib.hid (HBC_w1.out.trans hb_w2); have HO_w2 := Lib.hid ho_w2; clear ho_w2 hb_w2))
              go_roundw
              case rel => exact ⟨k + 1, by omega, by go_num, by rw [HLS.out]; have := HO_w2.out; simp only [List.append_assoc, List.cons_append, List.nil_append, txt] at this ⊢; exact this, HB_w2.out⟩
              case measure => simp [intOf]; omega
            · obtain rfl : k = kl := by omega
              have hlo : innTo cs ks (k + 1) k = BD := by
                rw [HBD.out, innTo, innB]
                rw [show cs.take (k + 1) = cs by rw [← HCL.out, List.take_length], show ks.take k = ks by rw [← HKL.out, List.take_length]]
              rw [hlo] at HO
              clear hlo
              go_wp2
              go_loopw [7] (fun x wv => ∃ j : Nat, BD.length + j ≤ n ∧ Go.Bs.Own wv bs0 5 x (BD ++ zeros j) ∧ Below bs0 W wv) (fun x _ => n - sliceLen x)
              case atStart => exact ⟨0, hbn, by simpa [zeros] using HO.out, HBL.out⟩
              case round =>
                obtain ⟨j, hj, hO4, hb4⟩ := hrel
                obtain ⟨m, hm⟩ : ∃ m, BD.length + j = m := ⟨_, rfl⟩
                obtain ⟨A, c, rfl, hR4⟩ := hO4.slice m (by rw [List.length_append, zeros_length]; exact hm)
                have HO4 := Lib.hid hO4
                have HB4 := Lib.hid hb4
                have HR4 := Lib.hid hR4
                have hs4 : bs0 ≤ wr.heap.size := by have := hb4.size; rw [HBS.out] at this; exact this
                rw [hm] at hj
                have hl4 : (BD ++ zeros j).length = m := by rw [List.length_append, zeros_length]; exact hm
                have HM := Lib.hid hm
                have HL4 := Lib.hid hl4
                clear hb4 hR4 hm hl4 hO4
                by_cases hjm : m < n
                · go_wp2_with (at_builtin; refine wpList_app _ rfl (.tmp 130) (.tmp 131) 30 rfl bs0 5 Try.underlying30 u8_info _ (BD ++ zeros j) rfl (HO4.out.alloc _) _ 1 1 [0] rfl (one_rd _ _ 0 _ rfl) (by rw [HL4.out]; omega) (by simpa using Nat.le_succ_of_le hs4) ?_; intro v5 w5 ho5 hb5; have HO5 := Lib.hid ho5; have HB5 := Lib.hid ((HB4.out.alloc (by omega) _).trans hb5); clear ho5 hb5)
                  go_roundw
                  case rel => exact ⟨j + 1, by have := HM.out; omega, by have := HO5.out; rw [List.append_assoc, zeros_snoc] at this; exact this, HB5.out⟩
                  case measure =>
                    obtain ⟨A5, c5, e5, _⟩ := HO5.out.slice (m + 1) (by rw [List.length_append, HL4.out]; rfl)
                    rw [e5]; simp [sliceLen]; omega
                · obtain rfl : m = n := by omega
                  have he : j = m - BD.length := by have := HM.out; omega
                  have HR5 : Hid (Rd wr A m c (BD ++ zeros (m - BD.length))) := by show Rd wr A m c (BD ++ zeros (m - BD.length)); rw [← he]; exact HR4.out
                  have HB5 : Hid (Below g w wr) := HBW.out.trans (HB4.out.mono hgb)
                  clear he
                  go_wp2
                  go_ret
                  exact ⟨⟨_, _, rfl, HR5.out⟩, HB5.out⟩
end Go.Proofs.Ytedhcohpcdkgnaa
