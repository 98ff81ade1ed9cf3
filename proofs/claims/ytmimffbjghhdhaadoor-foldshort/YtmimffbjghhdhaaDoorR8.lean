/- the document's Sum. Conditions: none. -/
import Derived.Test.YtmimffbjghhdhaaDoorR7
namespace Go.Proofs.YtmimffbjghhdhaaDoor
open Go.RowKit Go.Bs Go.Sha

set_option maxRecDepth 100000 in
set_option maxHeartbeats 4000000 in
theorem rSum_any (A : Option Addr) (n c : Nat) (bs : List UInt8) (w : World) (h : Rd w A n c bs) (hn : n ≤ 17592186044416) :
    Calls Tryd.prog 28 #[.slice A n c] w fun e w' => ∃ v, e = .returned v ∧ Own w' w.heap.size 5 v (sumB bs) ∧ Below w.heap.size w w' := by
  have HLEN := Lib.hid h.len
  obtain ⟨g, hg⟩ : ∃ g, w.heap.size = g := ⟨_, rfl⟩
  have HG := Lib.hid hg
  have hgw : g ≤ w.heap.size := by omega
  rw [hg]
  go_enter Tryd.func28, Tryd.ntmps28
  go_wp2_with (at_builtin; refine wpList_app _ rfl (.tmp 8) (.tmp 9) _ rfl g 5 Tryd.underlying22 u8_info (.slice none 0 0) [] rfl (Own.nil _ _ _) A n c bs rfl h (by simp; omega) hgw ?_; intro v1 w1 ho1 hb1)
  refine (rPad_any n (by omega) w1).mono ?_
  rintro e w2 ⟨v2, rfl, ho2, hb2⟩
  rw [List.nil_append] at ho1
  obtain ⟨L, hLL⟩ : ∃ L, (padB n).length = L := ⟨_, rfl⟩
  have hLm : (n + L) % 64 = 0 := by rw [← hLL]; exact pad_mod n
  have hL73 : 9 ≤ L ∧ L < 73 := by rw [← hLL, padB_length]; unfold noughts; omega
  obtain ⟨A2, c2, rfl, hr2⟩ := ho2.slice L hLL
  have ho1' := ho1.keep hb2
  have hszw2 : g ≤ w2.heap.size := by have := hb1.size; have := hb2.size; omega
  have hlb : bs.length + L ≤ 70368744177664 := by rw [HLEN.out]; omega
  have HB2 := Lib.hid (hb1.trans (hb2.mono (by have := hb1.size; omega)))
  clear ho1 ho2 hb1 hb2 h
  go_wp2_with (at_builtin; refine wpList_app _ rfl (.tmp 11) (.tmp 14) _ rfl g 5 Tryd.underlying22 u8_info v1 bs rfl ho1' A2 L c2 (padB n) rfl hr2 hlb hszw2 ?_; intro v3 w3 ho3 hb3)
  refine (rStart_any w3).mono ?_
  rintro e w4 ⟨v4, rfl, ho4, hb4⟩
  obtain ⟨all, hall⟩ : ∃ all, bs ++ padB n = all := ⟨_, rfl⟩
  rw [hall] at ho3
  have hNl : all.length = n + L := by rw [← hall, List.length_append, HLEN.out, hLL]
  obtain ⟨A3, c3, rfl, hr3, hc3⟩ := own_slice ho3 (n + L) hNl
  obtain ⟨K, hK⟩ : ∃ K, n + L = 64 * K := ⟨(n + L) / 64, by omega⟩
  rw [hK] at hr3 ⊢
  have hgw3 : g ≤ w3.heap.size := Nat.le_trans hszw2 hb3.size
  have HB3 := Lib.hid (HB2.out.trans hb3)
  have HSUM : Hid (sumB bs = digB (blocks K Sha.start all)) := by
    show sumB bs = _
    unfold sumB Sha.state
    rw [HLEN.out, hall, hNl, hK, Nat.mul_div_cancel_left _ (by omega : 0 < 64)]
  obtain ⟨ga, oa, rfl, hga, _⟩ := hr3.cells (by omega)
  have hcap3 := hr3.cap
  have HR3 := Lib.hid hr3
  have H4 := Lib.hid (And.intro (ho4.le hgw3) hb4)
  have hKs : K ≤ 1000000000000 := by omega
  clear ho3 hr3 ho4 hb4 hb3 ho1' hr2 hLL hLm hL73 hNl hall hK
  go_wp2
  go_loopw [4, 5] (fun v i wr => ∃ k : Nat, k ≤ K ∧ i = .int .i64 ((64 * k : Nat) : Int) ∧ OwnW wr g v (blocks k Sha.start all).l ∧ Below w3.heap.size w3 wr) (fun _ i _ => 64 * K - (intOf i).toNat)
  case atStart => exact ⟨0, Nat.zero_le _, rfl, H4.out.1, H4.out.2⟩
  case round =>
    obtain ⟨k, hk, rfl, hO, hB⟩ := hrel
    by_cases hlt : k < K
    · obtain ⟨S, hS⟩ : ∃ S, blocks k Sha.start all = S := ⟨_, rfl⟩
      have hSok : S.ok := by rw [← hS]; exact blocks_ok _ _ start_ok
      rw [hS] at hO
      obtain ⟨A0, c0, rfl, hRd⟩ := hO.slice 8 rfl
      obtain ⟨i0, hi0⟩ : ∃ i0, 64 * k = i0 := ⟨_, rfl⟩
      obtain ⟨j1, hj1⟩ : ∃ j1, i0 + 64 = j1 := ⟨_, rfl⟩
      have hl1 : (i0 : Int) < ((64 * K : Nat) : Int) := by omega
      have q1 : IntKind.i64.wrap ((i0 : Int) + 64) = (j1 : Int) := by rw [IntWalk.i64_in _ (by omega)]; omega
      have hsl := slice_mid ga oa (64 * K) c3 i0 j1 (by omega) (by omega) (by omega)
      rw [show j1 - i0 = 64 by omega] at hsl
      have hblk : Rd wr (some ⟨ga, oa + i0, none⟩) 64 (c3 - i0) ((all.drop (64 * k)).take 64) := by rw [← hi0]; exact (HR3.out.part (64 * k) 64 (c3 - 64 * k) (by omega) (by omega)).keep hB
      have HM := Lib.hid (rMix_any S hSok A0 c0 (some ⟨ga, oa + i0, none⟩) (c3 - i0) _ wr hRd hblk)
      have HNX : Hid (blocks (k + 1) Sha.start all = mixS S ((all.drop (64 * k)).take 64)) := by rw [← hS]; exact blocks_succ k _ _
      have HBB := Lib.hid hB
      have HI0 := Lib.hid hi0
      have HJ1 := Lib.hid hj1
      clear hB hblk hS hRd hO
      rw [hi0]
      clear hi0
      go_wp2_with fail
      refine HM.out.mono ?_
      rintro e w5 ⟨v5, rfl, ho5, hb5⟩
      go_wp2
      refine ⟨?rel, ?measure⟩
      case rel => exact ⟨k + 1, by omega, by have := HI0.out; have := HJ1.out; congr 1; omega, by rw [HNX.out]; exact ho5.le (by have := HBB.out.size; omega), HBB.out.trans (hb5.mono HBB.out.size)⟩
      case measure => have := HI0.out; have := HJ1.out; simp [intOf]; omega
    · have hkK : k = K := by omega
      have hk8i : ¬ ((64 * k : Nat) : Int) < ((64 * K : Nat) : Int) := by omega
      rw [hkK] at hO
      clear hlt hkK
      obtain ⟨P, hP⟩ : ∃ P, blocks K Sha.start all = P := ⟨_, rfl⟩
      have hPok : P.ok := by rw [← hP]; exact blocks_ok _ _ start_ok
      rw [hP] at hO HSUM
      obtain ⟨A0, c0, rfl, hRd⟩ := hO.slice 8 rfl
      obtain ⟨W6, rfl⟩ : ∃ W6, W6 = wr := ⟨_, rfl⟩
      have HB6 := Lib.hid (HB3.out.trans (hB.mono hgw3))
      have hg6 : g ≤ W6.heap.size := Nat.le_trans hgw3 hB.size
      have HR6 := Lib.hid hRd
      clear hP hO hB hRd
      obtain ⟨g6, hg6'⟩ : ∃ g6, W6.heap.size = g6 := ⟨_, rfl⟩
      have HG6 := Lib.hid hg6'
      go_wp2
      go_loopw [6, 7] (fun v i wr => ∃ k : Nat, k ≤ 8 ∧ i = .int .i64 k ∧ Own wr g6 5 v (digT P k) ∧ Below g6 W6 wr) (fun _ i _ => 8 - (intOf i).toNat)
      case atStart => exact ⟨0, Nat.zero_le _, rfl, Own.nil _ _ _, Below.refl _ _⟩
      case round =>
        obtain ⟨t, ht, rfl, hO, hB⟩ := hrel
        by_cases hlt4 : t < 8
        · obtain ⟨gs, os, rfl, hgs, hcs⟩ := (HR6.out.keep (by rw [HG6.out]; exact hB)).cells (by omega)
          have c1 := hcs t hlt4
          have l1 := l_lt hPok t
          have HDS := Lib.hid (digT_succ P t hlt4)
          have hlen := digT_length P t ht
          obtain ⟨x, hx⟩ : ∃ x, P.l.getD t 0 = x := ⟨_, rfl⟩
          rw [hx] at c1 l1 HDS
          obtain ⟨D, hD⟩ : ∃ D, digT P t = D := ⟨_, rfl⟩
          rw [hD] at hO HDS hlen
          obtain ⟨a1, ha1⟩ : ∃ a, x / 16777216 = a := ⟨_, rfl⟩
          obtain ⟨b1, hb1⟩ : ∃ a, x / 65536 = a := ⟨_, rfl⟩
          obtain ⟨b2, hb2⟩ : ∃ a, b1 % 256 = a := ⟨_, rfl⟩
          obtain ⟨e1, he1⟩ : ∃ a, x / 256 = a := ⟨_, rfl⟩
          obtain ⟨e2, he2⟩ : ∃ a, e1 % 256 = a := ⟨_, rfl⟩
          obtain ⟨f2, hf2⟩ : ∃ a, x % 256 = a := ⟨_, rfl⟩
          have q1 : (x : Int).tdiv 16777216 = (a1 : Int) := by rw [← ha1]; exact Int.ofNat_tdiv _ 16777216
          have q2 : (x : Int).tdiv 65536 = (b1 : Int) := by rw [← hb1]; exact Int.ofNat_tdiv _ 65536
          have q3 : (b1 : Int).tmod 256 = (b2 : Int) := by rw [← hb2]; exact Int.ofNat_tmod _ 256
          have q4 : (x : Int).tdiv 256 = (e1 : Int) := by rw [← he1]; exact Int.ofNat_tdiv _ 256
          have q5 : (e1 : Int).tmod 256 = (e2 : Int) := by rw [← he2]; exact Int.ofNat_tmod _ 256
          have q6 : (x : Int).tmod 256 = (f2 : Int) := by rw [← hf2]; exact Int.ofNat_tmod _ 256
          have la1 : a1 < 256 := by omega
          have lb2 : b2 < 256 := by omega
          have le2 : e2 < 256 := by omega
          have lf2 : f2 < 256 := by omega
          have y0 : Value.int .u8 (a1 : Int) = B (UInt8.ofNat (x / 16777216)) := by
            show _ = Value.int .u8 ((UInt8.ofNat (x / 16777216)).toNat : Int)
            rw [UInt8.toNat_ofNat']; congr 1; omega
          have y1 : Value.int .u8 (b2 : Int) = B (UInt8.ofNat (x / 65536)) := by
            show _ = Value.int .u8 ((UInt8.ofNat (x / 65536)).toNat : Int)
            rw [UInt8.toNat_ofNat']; congr 1; omega
          have y2 : Value.int .u8 (e2 : Int) = B (UInt8.ofNat (x / 256)) := by
            show _ = Value.int .u8 ((UInt8.ofNat (x / 256)).toNat : Int)
            rw [UInt8.toNat_ofNat']; congr 1; omega
          have y3 : Value.int .u8 (f2 : Int) = B (UInt8.ofNat x) := by
            show _ = Value.int .u8 ((UInt8.ofNat x).toNat : Int)
            rw [UInt8.toNat_ofNat']; congr 1; omega
          have p1 : IntKind.i64.wrap (a1 : Int) = (a1 : Int) := IntWalk.i64_in _ (by omega)
          have p2 : IntKind.i64.wrap (b1 : Int) = (b1 : Int) := IntWalk.i64_in _ (by omega)
          have p3 : IntKind.i64.wrap (e1 : Int) = (e1 : Int) := IntWalk.i64_in _ (by omega)
          have p4 : IntKind.u8.wrap (a1 : Int) = (a1 : Int) := IntWalk.u8_in _ (by omega)
          have p5 : IntKind.u8.wrap (b2 : Int) = (b2 : Int) := IntWalk.u8_in _ (by omega)
          have p6 : IntKind.u8.wrap (e2 : Int) = (e2 : Int) := IntWalk.u8_in _ (by omega)
          have p7 : IntKind.u8.wrap (f2 : Int) = (f2 : Int) := IntWalk.u8_in _ (by omega)
          have HY := Lib.hid (And.intro y0 (And.intro y1 (And.intro y2 y3)))
          have bi : (t : Int) < 8 := by omega
          have hszl : D.length + 4 ≤ 70368744177664 := by rw [hlen]; omega
          have hszr : g6 ≤ wr.heap.size := by have := hB.size; rw [HG6.out] at this; exact this
          have HBL := Lib.hid hB
          have hOD : Own wr.drew g6 5 u6 D := hO
          clear hcs hx hD hB ha1 hb1 hb2 he1 he2 hf2 y0 y1 y2 y3 l1
          go_wp2
          go_region_law (refine step_app4 rfl (.tmp 34) (.tmp 61) rfl g6 u6 D rfl hOD _ _ _ _ _ _ _ _ HY.out.1 HY.out.2.1 HY.out.2.2.1 HY.out.2.2.2 rfl hszl hszr ?_; intro v6 w6 ho6 hb6)
          all_goals
            go_wp2
            refine ⟨?rel, ?measure⟩
            case rel => exact ⟨t + 1, by omega, by go_num, by rw [HDS.out]; exact ho6, HBL.out.trans (below_of_drew hb6)⟩
            case measure => simp [intOf]; omega
        · obtain rfl : t = 8 := by omega
          have HO := Lib.hid hO
          have HBL := Lib.hid hB
          clear hO hB
          go_wp2
          go_ret
          refine ⟨_, rfl, ?_, HB6.out.trans (HBL.out.mono (by omega))⟩
          rw [HSUM.out, ← digT_all]
          exact Own.le HO.out (by omega)
end Go.Proofs.YtmimffbjghhdhaaDoor
