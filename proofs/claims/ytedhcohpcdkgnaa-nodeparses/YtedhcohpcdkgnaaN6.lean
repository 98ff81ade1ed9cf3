/- A leaf's and another node's bytes. Conditions: none. -/
import Derived.Test.YtedhcohpcdkgnaaN5
namespace Go.Bs
open Go.RowKit
theorem txt_length (s : ByteArray) : (txt s).length = 1 + s.size := by simp [txt]; omega
def ptx (p : Pr) : List UInt8 := txt p.1 ++ txt p.2
def leafTo (ps : List Pr) (k : Nat) : List UInt8 := 1 :: (beB ps.length 2 ++ (ps.take k).flatMap ptx)
def leafB (ps : List Pr) : List UInt8 := 1 :: (beB ps.length 2 ++ ps.flatMap ptx)
def chB (c : Int) : List UInt8 := beB c.toNat 3
def innTo (cs : List Int) (ks : List ByteArray) (i j : Nat) : List UInt8 := 2 :: (beB ks.length 2 ++ ((cs.take i).flatMap chB ++ (ks.take j).flatMap txt))
def innB (cs : List Int) (ks : List ByteArray) : List UInt8 := 2 :: (beB ks.length 2 ++ (cs.flatMap chB ++ ks.flatMap txt))
theorem ptx_sum (ps : List Pr) : (ps.flatMap ptx).length = psum ps := by
  induction ps with
  | nil => rfl
  | cons a l ih => simp only [List.flatMap_cons, List.length_append, ih, ptx, txt_length, psum, List.map_cons, List.sum_cons, psz]; omega
theorem txt_sum (ks : List ByteArray) : (ks.flatMap txt).length = ssum ks := by
  induction ks with
  | nil => rfl
  | cons a l ih => simp only [List.flatMap_cons, List.length_append, ih, txt_length, ssum, List.map_cons, List.sum_cons]
theorem chB_sum (cs : List Int) : (cs.flatMap chB).length = 3 * cs.length := by
  induction cs with
  | nil => rfl
  | cons a l ih => simp only [List.flatMap_cons, List.length_append, ih, chB, beB_length, List.length_cons]; omega
theorem leafTo_length (ps : List Pr) (k : Nat) : (leafTo ps k).length = 3 + psum (ps.take k) := by
  simp only [leafTo, List.length_cons, List.length_append, beB_length, ptx_sum]; omega
theorem leafB_length (ps : List Pr) : (leafB ps).length = 3 + psum ps := by
  simp only [leafB, List.length_cons, List.length_append, beB_length, ptx_sum]; omega
theorem innTo_length (cs : List Int) (ks : List ByteArray) (i j : Nat) : (innTo cs ks i j).length = 3 + (3 * (cs.take i).length + ssum (ks.take j)) := by
  simp only [innTo, List.length_cons, List.length_append, beB_length, txt_sum, chB_sum]; omega
theorem innB_length (cs : List Int) (ks : List ByteArray) : (innB cs ks).length = 3 + (3 * cs.length + ssum ks) := by
  simp only [innB, List.length_cons, List.length_append, beB_length, txt_sum, chB_sum]; omega
theorem leafTo_succ (ps : List Pr) (k : Nat) (h : k < ps.length) : leafTo ps (k + 1) = leafTo ps k ++ txt (pAt ps k).1 ++ txt (pAt ps k).2 := by
  simp only [leafTo, pTake ps k h, List.flatMap_append, List.flatMap_cons, List.flatMap_nil, ptx, List.append_nil, List.cons_append, List.append_assoc]
theorem cTake (cs : List Int) (k : Nat) (h : k < cs.length) : cs.take (k + 1) = cs.take k ++ [cs.getD k 0] := by
  rw [List.take_succ_eq_append_getElem h]; simp [List.getD, List.getElem?_eq_getElem h]
theorem innTo_child (cs : List Int) (ks : List ByteArray) (k : Nat) (h : k < cs.length) : innTo cs ks (k + 1) 0 = innTo cs ks k 0 ++ beB (cs.getD k 0).toNat 3 := by
  simp only [innTo, cTake cs k h, List.flatMap_append, List.flatMap_cons, List.flatMap_nil, chB, List.append_nil, List.cons_append, List.append_assoc, List.take_zero, List.nil_append]
theorem innTo_key (cs : List Int) (ks : List ByteArray) (i k : Nat) (h : k < ks.length) : innTo cs ks i (k + 1) = innTo cs ks i k ++ txt (sAt ks k) := by
  simp only [innTo, sTake ks k h, List.flatMap_append, List.flatMap_cons, List.flatMap_nil, List.append_nil, List.cons_append, List.append_assoc]
theorem Own.one (w : World) (x : UInt8) : Own (w.alloc (.cells #[B x] 5)) w.heap.size 5 (.slice (some ⟨w.heap.size, 0, none⟩) 1 1) [x] :=
  ⟨by simp, .inr ⟨w.heap.size, 1, #[B x], rfl, Nat.le_refl _, heap_alloc_new w _, by simp, by simp [maxLen], by simp, by simp⟩⟩
end Go.Bs
namespace Go.Proofs.Ytedhcohpcdkgnaa
open Go.RowKit Go.Bs

set_option maxHeartbeats 4000000 in
theorem leafBytes_any (w : World) (A : Option Addr) (n c : Nat) (ps : List Pr) (H : RdP w A n c ps) (hn : n ≤ 7000) (hsz : ∀ p ∈ ps, p.1.size + p.2.size ≤ 2000) :
    Calls Try.prog 25 #[.slice A n c] w fun e w' => ∃ v, e = .returned v ∧ Go.Bs.Own w' w.heap.size 5 v (leafB ps) ∧ Below w.heap.size w w' := by
  have HH := Lib.hid H
  have HPL := Lib.hid H.len
  have HSZ := Lib.hid hsz
  have hcap := H.cap
  obtain ⟨g, hg⟩ : ∃ g, w.heap.size = g := ⟨_, rfl⟩
  have HG := Lib.hid hg
  have HP := Lib.hid (putNumber_any (w.alloc (.cells #[B 1] 5)) g _ [1] (by rw [← hg]; exact Go.Bs.Own.one w 1) (by rw [← hg]; simp) (by simp) n 2 (by omega) (by omega) (by omega))
  have HB0 : Hid (Below g w (w.alloc (.cells #[B 1] 5))) := by rw [← hg]; exact (Below.refl _ _).alloc (Nat.le_refl _) _
  rw [hg] at HP ⊢
  clear H hsz
  go_enter Try.func25, Try.ntmps25
  go_wp2_with fail
  refine HP.out.mono ?_
  rintro e w1 ⟨v1, rfl, hO1, hB1⟩
  have HB1 := Lib.hid (HB0.out.trans (hB1.below (by rw [← HG.out]; exact Go.Bs.Own.one w 1) (by rw [← HG.out]; simp)))
  have HO1 := Lib.hid hO1
  clear HP hO1 hB1
  go_wp2
  go_loopw [3, 12] (fun x i wr => ∃ k : Nat, k ≤ n ∧ i = .int .i64 k ∧ Go.Bs.Own wr g 5 x (leafTo ps k) ∧ Below g w wr) (fun _ i _ => n - (intOf i).toNat)
  case atStart => exact ⟨0, Nat.zero_le _, rfl, by simpa [leafTo, HPL.out] using HO1.out, HB1.out⟩
  case round =>
    obtain ⟨k, hk1, rfl, hO, hbl⟩ := hrel
    have hgs := hbl.size
    rw [HG.out] at hgs
    have HO := Lib.hid hO
    have HBL := Lib.hid hbl
    clear hbl hO
    by_cases hlt : k < n
    · have hRP : RdP wr A n c ps := HH.out.keep (by rw [HG.out]; exact HBL.out)
      have hsz := HSZ.out (pAt ps k) (pAt_mem ps k (by rw [HPL.out]; exact hlt))
      obtain ⟨q, o, rfl, hq, hcell⟩ := hRP.cells (by omega)
      obtain ⟨e0, e1⟩ := hcell k hlt
      have hls := leafTo_succ ps k (by rw [HPL.out]; exact hlt)
      have hll := leafTo_length ps k
      have hll2 := psum_take_le ps 7000 k (by rw [HPL.out]; exact hn) HSZ.out
      obtain ⟨x, hx⟩ : ∃ x, (pAt ps k).1 = x := ⟨_, rfl⟩
      obtain ⟨y, hy⟩ : ∃ y, (pAt ps k).2 = y := ⟨_, rfl⟩
      rw [hx] at hsz e0 hls
      rw [hy] at hsz e1 hls
      have HLS := Lib.hid hls
      obtain ⟨z, hz⟩ : ∃ z, wr.heap.size = z := ⟨_, rfl⟩
      obtain ⟨X, hX⟩ : ∃ X, wr.alloc (.cells #[.string x, .string y] 49) = X := ⟨_, rfl⟩
      have hbX : Below wr.heap.size wr X := by rw [← hX]; exact (Below.refl _ _).alloc (Nat.le_refl _) _
      have hzX : X.heap[z]? = some (.cells #[.string x, .string y] 49 (0, 0)) := by rw [← hX, ← hz]; exact heap_alloc_new wr _
      have z0 : X.cell? ⟨z, 0, none⟩ = some (.string x) := by rw [cell_of_row X z _ _ 49 (0, 0) hzX]; rfl
      have HZX := Lib.hid hzX
      have hgX : g ≤ X.heap.size := Nat.le_trans hgs hbX.size
      have hzl : z < X.heap.size := (Array.getElem?_eq_some_iff.1 hzX).1
      have HBL3 := Lib.hid (HBL.out.trans (hbX.mono hgs))
      have HOX := Lib.hid (HO.out.keep hbX)
      have HP1 := Lib.hid (putText_any X g u3 (leafTo ps k) HOX.out hgX (by omega) x (by omega))
      have hne : u3.ownBlock ≠ some z := fun e => by have := HO.out.block z e; omega
      clear hx hy hls hll hll2 hcell hRP hbX hzX
      go_wp2_with fail
      refine HP1.out.mono ?_
      rintro e w2 ⟨v2, rfl, hO2, hG2⟩
      have hzw : w2.heap[z]? = some (.cells #[.string x, .string y] 49 (0, 0)) := (hG2.block z hzl hne).trans HZX.out
      have y1 : w2.cell? ⟨z, 1, none⟩ = some (.string y) := by rw [cell_of_row w2 z _ _ 49 (0, 0) hzw]; rfl
      have HB2 := Lib.hid (hG2.below HOX.out hgX)
      have hg2 : g ≤ w2.heap.size := Nat.le_trans hgX hG2.1.size
      have hlen2 : (leafTo ps k ++ txt x).length ≤ 100000000 := by
        have h1 := leafTo_length ps k
        have h2 := psum_take_le ps 7000 k (by rw [HPL.out]; exact hn) HSZ.out
        rw [List.length_append, txt_length]
        omega
      have HP2 := Lib.hid (putText_any w2 g v2 (leafTo ps k ++ txt x) hO2 hg2 hlen2 y (by omega))
      have HO2 := Lib.hid hO2
      clear hG2 hzw hO2 hlen2
      go_wp2_with fail
      refine HP2.out.mono ?_
      rintro e w3 ⟨v3, rfl, hO3, hG3⟩
      have HB3 := Lib.hid (HBL3.out.trans (HB2.out.trans (hG3.below HO2.out hg2)))
      have HO3 := Lib.hid hO3
      clear hO3 hG3
      go_wp2
      go_roundw
      case rel => exact ⟨k + 1, by omega, by go_num, by rw [HLS.out]; exact HO3.out, HB3.out⟩
      case measure => simp [intOf]; omega
    · obtain rfl : k = n := by omega
      go_wp2
      go_ret
      refine ⟨_, rfl, ?_, HBL.out⟩
      have := HO.out
      rw [leafTo, ← HPL.out, List.take_length] at this
      exact this

set_option maxHeartbeats 4000000 in
theorem innerBytes_any (w : World) (cA : Option Addr) (m cc : Nat) (cs : List Int) (HC : RdI w cA m cc cs) (hm : m ≤ 7000) (hcs : ∀ j, j < m → 1 ≤ cs.getD j 0 ∧ cs.getD j 0 ≤ 16777215)
    (A : Option Addr) (n c : Nat) (ks : List ByteArray) (H : RdS w A n c ks) (hn : n ≤ 7000) (hsz : ∀ p ∈ ks, p.size ≤ 2000) :
    Calls Try.prog 26 #[.slice cA m cc, .slice A n c] w fun e w' => ∃ v, e = .returned v ∧ Go.Bs.Own w' w.heap.size 5 v (innB cs ks) ∧ Below w.heap.size w w' := by
  have HH := Lib.hid H
  have HCC := Lib.hid HC
  have HPL := Lib.hid H.len
  have HCL := Lib.hid HC.len
  have HSZ := Lib.hid hsz
  have HCS := Lib.hid hcs
  have hcap := H.cap
  have hcap2 := HC.cap
  obtain ⟨g, hg⟩ : ∃ g, w.heap.size = g := ⟨_, rfl⟩
  have HG := Lib.hid hg
  have HP := Lib.hid (putNumber_any (w.alloc (.cells #[B 2] 5)) g _ [2] (by rw [← hg]; exact Go.Bs.Own.one w 2) (by rw [← hg]; simp) (by simp) n 2 (by omega) (by omega) (by omega))
  have HB0 : Hid (Below g w (w.alloc (.cells #[B 2] 5))) := by rw [← hg]; exact (Below.refl _ _).alloc (Nat.le_refl _) _
  rw [hg] at HP ⊢
  clear H HC hsz hcs
  go_enter Try.func26, Try.ntmps26
  go_wp2_with fail
  refine HP.out.mono ?_
  rintro e w1 ⟨v1, rfl, hO1, hB1⟩
  have HB1 := Lib.hid (HB0.out.trans (hB1.below (by rw [← HG.out]; exact Go.Bs.Own.one w 2) (by rw [← HG.out]; simp)))
  have HO1 := Lib.hid hO1
  clear HP hO1 hB1
  go_wp2
  go_loopw [5, 16] (fun x i wr => ∃ k : Nat, k ≤ m ∧ i = .int .i64 k ∧ Go.Bs.Own wr g 5 x (innTo cs ks k 0) ∧ Below g w wr) (fun _ i _ => m - (intOf i).toNat)
  case atStart => exact ⟨0, Nat.zero_le _, rfl, by simpa [innTo, HPL.out] using HO1.out, HB1.out⟩
  case round =>
    obtain ⟨k, hk1, rfl, hO, hbl⟩ := hrel
    have hgs := hbl.size
    rw [HG.out] at hgs
    have HO := Lib.hid hO
    have HBL := Lib.hid hbl
    clear hbl hO
    by_cases hlt : k < m
    · have hRP : RdI wr cA m cc cs := HCC.out.keep (by rw [HG.out]; exact HBL.out)
      obtain ⟨q, o, rfl, hq, hcell⟩ := hRP.cells (by omega)
      have e0 := hcell k hlt
      have hls := innTo_child cs ks k (by rw [HCL.out]; exact hlt)
      have hll := innTo_length cs ks k 0
      have hcb := HCS.out k hlt
      obtain ⟨x, hx⟩ : ∃ x : Nat, cs.getD k 0 = (x : Int) := ⟨(cs.getD k 0).toNat, by omega⟩
      rw [hx] at e0 hls hcb
      rw [show ((x : Int)).toNat = x from rfl] at hls
      have HLS := Lib.hid hls
      have hll2 : (innTo cs ks k 0).length ≤ 100000000 := by
        rw [hll]
        have : (cs.take k).length ≤ k := List.length_take_le _ _
        simp [ssum]; omega
      have HP1 := Lib.hid (putNumber_any wr g u5 (innTo cs ks k 0) HO.out hgs hll2 x 3 (by omega) (by omega) (by omega))
      clear hx hls hll hll2 hcell hRP
      go_wp2_with fail
      refine HP1.out.mono ?_
      rintro e w3 ⟨v3, rfl, hO3, hG3⟩
      have HB3 := Lib.hid (HBL.out.trans (hG3.below HO.out hgs))
      have HO3 := Lib.hid hO3
      clear hO3 hG3
      go_wp2
      go_roundw
      case rel => exact ⟨k + 1, by omega, by go_num, by rw [HLS.out]; exact HO3.out, HB3.out⟩
      case measure => simp [intOf]; omega
    · obtain rfl : k = m := by omega
      go_wp2
      go_loopw [5, 26] (fun x i wr => ∃ j : Nat, j ≤ n ∧ i = .int .i64 j ∧ Go.Bs.Own wr g 5 x (innTo cs ks k j) ∧ Below g w wr) (fun _ i _ => n - (intOf i).toNat)
      case atStart => exact ⟨0, Nat.zero_le _, rfl, HO.out, HBL.out⟩
      case round =>
        clear HO HBL
        obtain ⟨j, hj1, rfl, hO, hbl⟩ := hrel
        have hgs2 := hbl.size
        rw [HG.out] at hgs2
        have HO := Lib.hid hO
        have HBL := Lib.hid hbl
        clear hbl hO
        by_cases hlj : j < n
        · have hRP : RdS wr A n c ks := HH.out.keep (by rw [HG.out]; exact HBL.out)
          have hsz := HSZ.out (sAt ks j) (sAt_mem ks j (by rw [HPL.out]; exact hlj))
          obtain ⟨q, o, rfl, hq, hcell⟩ := hRP.cells (by omega)
          have e0 := hcell j hlj
          have hls := innTo_key cs ks k j (by rw [HPL.out]; exact hlj)
          have hll := innTo_length cs ks k j
          have hll2 := ssum_take_le ks 7000 j (by rw [HPL.out]; exact hn) HSZ.out
          obtain ⟨x, hx⟩ : ∃ x, sAt ks j = x := ⟨_, rfl⟩
          rw [show ks.getD j ByteArray.empty = x from hx] at e0
          rw [hx] at hls hsz
          have HLS := Lib.hid hls
          have hll3 : (innTo cs ks k j).length ≤ 100000000 := by
            rw [hll]
            have : (cs.take k).length ≤ k := List.length_take_le _ _
            omega
          have HP1 := Lib.hid (putText_any wr g u5 (innTo cs ks k j) HO.out hgs2 hll3 x hsz)
          clear hx hls hll hll2 hll3 hcell hRP
          go_wp2_with fail
          refine HP1.out.mono ?_
          rintro e w3 ⟨v3, rfl, hO3, hG3⟩
          have HB3 := Lib.hid (HBL.out.trans (hG3.below HO.out hgs2))
          have HO3 := Lib.hid hO3
          clear hO3 hG3
          go_wp2
          go_roundw
          case rel => exact ⟨j + 1, by omega, by go_num, by rw [HLS.out]; exact HO3.out, HB3.out⟩
          case measure => simp [intOf]; omega
        · obtain rfl : j = n := by omega
          go_wp2
          go_ret
          refine ⟨_, rfl, ?_, HBL.out⟩
          have := HO.out
          rw [innTo, ← HPL.out, ← HCL.out, List.take_length, List.take_length] at this
          exact this
end Go.Proofs.Ytedhcohpcdkgnaa
