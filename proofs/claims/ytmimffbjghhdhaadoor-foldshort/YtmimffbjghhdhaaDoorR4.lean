/- the document's value, Unhex, constants, k, Start. Conditions: none. -/
import Derived.Test.YtmimffbjghhdhaaDoorR3
import Derived.Test.YtmimffbjghhdhaaDoorS11
import Derived.Test.YtmimffbjghhdhaaDoorS13
namespace Go.Proofs.YtmimffbjghhdhaaDoor
open Go.RowKit Go.Bs Go.Sha

set_option maxHeartbeats 400000 in
theorem value_any (s : ByteArray) (c : UInt8) (w : World) (hs : s.size ≤ 1000) :
    Calls Tryd.prog 54 #[B c, .string s] w fun e w' => e = .returned (.int .i64 (Lib.indexByte s.data.toList c)) ∧ w = w' := by
  have hlen : s.data.toList.length = s.size := by simp
  have HL := Lib.hid hlen
  clear hlen
  go_enter Tryd.func54, Tryd.ntmps54
  go_wp2
  go_loop [5] (fun i => ∃ k : Nat, k ≤ s.size ∧ i = .int .i64 k ∧ ∀ j, j < k → s.data.toList.getD j 0 ≠ c) (fun i => s.size - (intOf i).toNat)
  case atStart => exact ⟨0, Nat.zero_le _, rfl, fun j hj => absurd hj (by omega)⟩
  case round =>
    obtain ⟨k, hk, rfl, hz⟩ := hrel
    have HZ := Lib.hid hz
    clear hz
    by_cases hlt : k < s.size
    · obtain ⟨x, hx⟩ : ∃ x, s.data.toList.getD k 0 = x := ⟨_, rfl⟩
      have hsx : s[k] = x := by
        rw [← hx, getD_get _ _ (by rw [HL.out]; exact hlt)]
        rfl
      have HX := Lib.hid hx
      clear hx
      by_cases h0 : x = c
      · subst h0
        go_wp2
        go_ret
        exact ⟨by rw [indexByte_hit _ _ k (by rw [HL.out]; exact hlt) HX.out HZ.out]; rfl, rfl⟩
      · have hne : ((x.toNat : Int) == (c.toNat : Int)) = false := by
          have : x.toNat ≠ c.toNat := fun e => h0 (UInt8.toNat_inj.1 e)
          rw [beq_eq_false_iff_ne]; omega
        go_wp2
        go_round
        case rel =>
          refine ⟨k + 1, by omega, by go_num, fun j hj => ?_⟩
          by_cases hjk : j < k
          · exact HZ.out j hjk
          · obtain rfl : j = k := by omega
            rw [HX.out]; exact h0
        case measure => simp [intOf]; omega
    · go_wp2
      go_ret
      exact ⟨by rw [indexByte_none _ _ (fun j hj => HZ.out j (by rw [HL.out] at hj; omega))]; rfl, rfl⟩

theorem value16_any (c : UInt8) (w : World) :
    Calls Tryd.prog 54 #[B c, .string ⟨#[48, 49, 50, 51, 52, 53, 54, 55, 56, 57, 97, 98, 99, 100, 101, 102]⟩] w fun e w' => e = .returned (.int .i64 (v16 c)) ∧ w = w' := value_any _ c w (by decide)

set_option maxHeartbeats 400000 in
theorem rUnhex_any (s : ByteArray) (l : List UInt8) (w : World) (hsl : s.data.toList = l) (hs : s.size ≤ 17592186044416) :
    Calls Tryd.prog 52 #[.string s] w fun e w' => Below w.heap.size w w' ∧ ((good16 l ∧ ∃ v, e = .returned (.tuple #[v, .bool true]) ∧ Own w' w.heap.size 5 v (unhexL l)) ∨ (¬ good16 l ∧ e = .returned (.tuple #[.slice none 0 0, .bool false]))) := by
  have hlen : l.length = s.size := by rw [← hsl]; simp
  have HLEN := Lib.hid hlen
  have HSL := Lib.hid hsl
  clear hlen hsl
  by_cases h2 : s.size % 2 = 0
  · obtain ⟨n, hn⟩ : ∃ n, s.size = 2 * n := ⟨s.size / 2, by omega⟩
    have hev : ((s.size : Int) % 2 != 0) = false := by rw [bne_eq_false_iff_eq]; omega
    have HUL : Hid ((unhexL l).length = n) := by show _ = n; rw [unhexL_length, HLEN.out]; omega
    go_enter Tryd.func52, Tryd.ntmps52
    go_wp2
    go_loopw [4, 5] (fun v i wr => ∃ k : Nat, k ≤ n ∧ i = .int .i64 (2 * k : Nat) ∧ (∀ j, j < 2 * k → 0 ≤ v16 (l.getD j 0)) ∧ Own wr w.heap.size 5 v ((unhexL l).take k) ∧ Below w.heap.size w wr) (fun _ i _ => 2 * n - (intOf i).toNat)
    case atStart => exact ⟨0, Nat.zero_le _, rfl, fun j hj => absurd hj (by omega), Own.nil _ _ _, Below.refl _ _⟩
    case round =>
      obtain ⟨k, hk, rfl, hval, hO, hG⟩ := hrel
      have HVAL := Lib.hid hval
      clear hval
      by_cases hlt : k < n
      · obtain ⟨x, hx⟩ : ∃ x, l.getD (2 * k) 0 = x := ⟨_, rfl⟩
        obtain ⟨y, hy⟩ : ∃ x, l.getD (2 * k + 1) 0 = x := ⟨_, rfl⟩
        have hsx : s[2 * k] = x := by
          rw [← hx, ← HSL.out, getD_get _ _ (by simp; omega)]
          rfl
        have hsy : s[2 * k + 1] = y := by
          rw [← hy, ← HSL.out, getD_get _ _ (by simp; omega)]
          rfl
        have HX := Lib.hid hx
        have HY := Lib.hid hy
        have HIX := Lib.hid (value16_any x wr)
        have HIY := Lib.hid (value16_any y wr)
        obtain ⟨a, ha⟩ : ∃ v, v16 x = v := ⟨_, rfl⟩
        obtain ⟨b, hb⟩ : ∃ v, v16 y = v := ⟨_, rfl⟩
        rw [ha] at HIX
        rw [hb] at HIY
        have HA := Lib.hid ha
        have HBB := Lib.hid hb
        have ha16 : a < 16 := by rw [← ha]; exact v16_lt x
        have hb16 : b < 16 := by rw [← hb]; exact v16_lt y
        clear hx hy ha hb
        by_cases ha0 : a < 0
        · go_wp2_with fail
          refine HIX.out.mono ?_
          rintro e w' ⟨rfl, rfl⟩
          go_wp2_with fail
          refine HIY.out.mono ?_
          rintro e w' ⟨rfl, rfl⟩
          go_wp2
          go_ret2
          refine ⟨hG, .inr ⟨fun hgd => ?_, rfl⟩⟩
          have h3 := hgd.2 (2 * k) (by rw [HLEN.out]; omega)
          rw [HX.out, HA.out] at h3
          omega
        · obtain ⟨a, rfl⟩ := Int.eq_ofNat_of_zero_le (show 0 ≤ a by omega)
          by_cases hb0 : b < 0
          · go_wp2_with fail
            refine HIX.out.mono ?_
            rintro e w' ⟨rfl, rfl⟩
            go_wp2_with fail
            refine HIY.out.mono ?_
            rintro e w' ⟨rfl, rfl⟩
            go_wp2
            go_ret2
            refine ⟨hG, .inr ⟨fun hgd => ?_, rfl⟩⟩
            have h3 := hgd.2 (2 * k + 1) (by rw [HLEN.out]; omega)
            rw [HY.out, HBB.out] at h3
            omega
          · obtain ⟨b, rfl⟩ := Int.eq_ofNat_of_zero_le (show 0 ≤ b by omega)
            have hv : Value.int .u8 (16 * (a : Int) + (b : Int)) = B (pairB l k) := by
              rw [← pairB_val l k a b (by rw [HX.out]; exact HA.out) (by rw [HY.out]; exact HBB.out) (by omega) (by omega)]
              congr 1
              omega
            have HV := Lib.hid hv
            clear hv
            have hlen : ((unhexL l).take k).length + 1 ≤ 70368744177664 := by rw [List.length_take]; omega
            have hsz : w.heap.size ≤ wr.heap.size + 1 := by have := hG.size; omega
            go_wp2_with fail
            refine HIX.out.mono ?_
            rintro e w' ⟨rfl, rfl⟩
            go_wp2_with fail
            refine HIY.out.mono ?_
            rintro e w' ⟨rfl, rfl⟩
            go_wp2_with (at_builtin; refine wpList_app _ rfl (.tmp 33) (.tmp 39) _ rfl w.heap.size 5 Tryd.underlying22 u8_info u4 ((unhexL l).take k) rfl (hO.alloc _) _ 1 1 [pairB l k] rfl (one_rd _ _ _ _ HV.out) hlen (by simpa using hsz) ?_; intro v1 w1 ho1 hb1)
            go_roundw
            case rel =>
              refine ⟨k + 1, by omega, by go_num, ?_, ?_, (hG.alloc hG.size _).trans hb1⟩
              · intro j hj
                by_cases hj2 : j < 2 * k
                · exact HVAL.out j hj2
                · by_cases hj3 : j = 2 * k
                  · subst hj3; rw [HX.out, HA.out]; omega
                  · obtain rfl : j = 2 * k + 1 := by omega
                    rw [HY.out, HBB.out]; omega
              · rw [take_snoc (unhexL l) k (by rw [HUL.out]; exact hlt), unhexL_getD l k (by rw [HLEN.out]; omega)]; exact ho1
            case measure => simp [intOf]; omega
      · obtain rfl : k = n := by omega
        have HO := Lib.hid hO
        clear hO
        go_wp2
        go_ret2
        refine ⟨hG, .inl ⟨⟨by rw [HLEN.out]; exact h2, fun j hj => HVAL.out j (by rw [HLEN.out] at hj; omega)⟩, _, rfl, ?_⟩⟩
        have := HO.out
        rwa [List.take_of_length_le (by rw [HUL.out]; exact Nat.le_refl _)] at this
  · have hev : ((s.size : Int) % 2 != 0) = true := by rw [bne_iff_ne]; omega
    go_enter Tryd.func52, Tryd.ntmps52
    go_wp2
    go_ret2
    exact ⟨Below.refl _ _, .inr ⟨fun hgd => h2 (by have := hgd.1; rwa [HLEN.out] at this), rfl⟩⟩


def wordsL (bs : List UInt8) (k : Nat) : List Nat := (List.range k).map fun j => wordN bs (4 * j)
theorem wordsL_length (bs : List UInt8) (k : Nat) : (wordsL bs k).length = k := by simp [wordsL]
theorem wordsL_succ (bs : List UInt8) (k : Nat) : wordsL bs (k + 1) = wordsL bs k ++ [wordN bs (4 * k)] := by simp [wordsL, List.range_succ]
theorem wordN_drop (bs : List UInt8) (i : Nat) : wordN (bs.drop i) 0 = wordN bs i := by
  unfold wordN
  simp [List.getD, List.getElem?_drop]

set_option maxHeartbeats 1000000 in
theorem constants_any (s : ByteArray) (l : List UInt8) (w : World) (hsl : s.data.toList = l) (hs : s.size ≤ 1000) (hg : good16 l) (K : Nat) (hK : (unhexL l).length = 4 * K) (hK2 : K ≤ 200) :
    Calls Tryd.prog 44 #[.string s] w fun e w' => ∃ v, e = .returned v ∧ OwnW w' w.heap.size v (wordsL (unhexL l) K) ∧ Below w.heap.size w w' := by
  have HU : Hid (Calls Tryd.prog 52 #[.string s] w fun e w' => ∃ v, e = .returned (.tuple #[v, .bool true]) ∧ Own w' w.heap.size 5 v (unhexL l) ∧ Below w.heap.size w w') := by
    refine (rUnhex_any s l w hsl (by omega)).mono ?_
    rintro e w' ⟨hb, ⟨_, v, rfl, ho⟩ | ⟨hn, _⟩⟩
    · exact ⟨v, rfl, ho, hb⟩
    · exact absurd hg hn
  obtain ⟨bs, hbs⟩ : ∃ bs, unhexL l = bs := ⟨_, rfl⟩
  rw [hbs] at HU hK ⊢
  clear hbs hsl hg
  go_enter Tryd.func44, Tryd.ntmps44
  go_wp2_with fail
  refine HU.out.mono ?_
  rintro e w1 ⟨v1, rfl, ho1, hb1⟩
  obtain ⟨A, c, rfl, hr, hc63⟩ := own_slice ho1 (4 * K) hK
  have HR := Lib.hid hr
  have hcap := hr.cap
  have HB1 := Lib.hid hb1
  obtain ⟨g, hg⟩ : ∃ g, w1.heap.size = g := ⟨_, rfl⟩
  have HG := Lib.hid hg
  clear ho1 hb1 hr
  go_wp2
  go_loopw [5, 6] (fun v i wr => ∃ k : Nat, k ≤ K ∧ i = .int .i64 ((4 * k : Nat) : Int) ∧ OwnW wr g v (wordsL bs k) ∧ Below g w1 wr) (fun _ i _ => 1000 - (intOf i).toNat)
  case atStart => exact ⟨0, Nat.zero_le _, rfl, OwnW.nil _ _, Below.refl _ _⟩
  case round =>
    obtain ⟨k, hk, rfl, hO, hB1⟩ := hrel
    obtain ⟨i0, hi0⟩ : ∃ i0, 4 * k = i0 := ⟨_, rfl⟩
    rw [hi0]
    by_cases hlt : k < K
    · have hl1 : (i0 : Int) < (4 * K : Int) := by omega
      have hsf := slice_from A (4 * K) c i0 (by omega)
      have HW := Lib.hid (rword_any (tailA A c i0) (4 * K - i0) (c - i0) (bs.drop i0) wr (rd_tail (HR.out.keep (by rw [HG.out]; exact hB1)) i0 (by omega)) (by omega))
      rw [wordN_drop, ← hi0] at HW
      have HWS := Lib.hid (wordsL_succ bs k)
      obtain ⟨x, hx⟩ : ∃ x, wordN bs (4 * k) = x := ⟨_, rfl⟩
      rw [hx] at HW HWS
      rw [hi0] at HW
      have hszl : (wordsL bs k).length + 1 ≤ 1048576 := by rw [wordsL_length]; omega
      have hsz : g ≤ wr.heap.size := by have := hB1.size; rw [← HG.out]; exact this
      have HI := Lib.hid hi0
      clear hi0 hx
      go_wp2_with fail
      refine HW.out.mono ?_
      rintro e w5 ⟨rfl, rfl⟩
      go_wp2_with (at_builtin; go_loud (refine wpList_appW wr.drew rfl (.tmp 18) (.tmp 23) rfl g u5 (wordsL bs k) rfl hO _ x rfl rfl hszl hsz ?_); intro v6 w6 ho6 hb6)
      go_roundw
      case rel =>
        refine ⟨k + 1, by omega, by have := HI.out; congr 1; omega, by rw [HWS.out]; exact ho6, hB1.trans (below_of_drew hb6)⟩
      case measure => simp [intOf]; omega
    · obtain rfl : k = K := by omega
      have HO := Lib.hid hO
      clear hO
      go_wp2
      go_ret
      have hge := HB1.out.size
      exact ⟨_, rfl, HO.out.le (by rw [← HG.out]; exact hge), HB1.out.trans (hB1.mono (by rw [← HG.out]; exact hge))⟩
end Go.Proofs.YtmimffbjghhdhaaDoor
