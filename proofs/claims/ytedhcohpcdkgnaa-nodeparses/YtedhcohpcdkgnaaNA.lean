/- awake. Conditions: none. -/
import Derived.Test.YtedhcohpcdkgnaaN8
import Derived.Test.YtedhcohpcdkgnaaN9
namespace Go.Bs
open Go.RowKit
def nd1 : Nd := ⟨true, [(⟨#[97]⟩, ⟨#[120]⟩)], [], []⟩
def nd2 : Nd := ⟨false, [], [⟨#[98]⟩, ⟨#[100]⟩], [1, 2, 3]⟩
theorem nd1_few : nd1.Few 7000 := ⟨by decide, by decide, by decide, by decide, by decide⟩
theorem nd2_few : nd2.Few 7000 := ⟨by decide, by decide, by decide, by decide, by decide⟩
theorem tl1 (x : UInt8) : (⟨#[x]⟩ : ByteArray).toList = [x] := by rw [ByteArray.toList_eq]
theorem tl0 : (⟨#[]⟩ : ByteArray).toList = [] := by rw [ByteArray.toList_eq]
theorem nd1_fits : nd1.fits 8 = true := by
  have h : badP 8 nd1.ps 0 = false := by
    have : sle (pAt nd1.ps 0).1 (lastP nd1.ps 0) = false := by
      show sle ⟨#[97]⟩ ⟨#[]⟩ = false
      unfold sle
      rw [tl1, tl0]
      rfl
    unfold badP
    rw [this]
    rfl
  have h2 : allOk 1 (badP 8 nd1.ps) = true := allOk_good fun j hj => by
    obtain rfl : j = 0 := by omega
    exact h
  show ((([] : List ByteArray).length == 0 && ([] : List Int).length == 0) && allOk 1 (badP 8 nd1.ps)) = true
  rw [h2]
  rfl
theorem nd1_chk : nd1.chk ((64 : Nat) : Int) = 0 := by
  unfold Nd.chk
  rw [if_pos (by omega), show mostN ((64 : Nat) : Int).toNat = 8 from rfl, nd1_fits, if_pos rfl]
  rfl
theorem nd1_body : nd1.body = [1, 0, 1, 1, 97, 1, 120] := by decide
end Go.Bs
namespace Go.Proofs.Ytedhcohpcdkgnaa
open Go.RowKit Go.Bs
theorem nd2_cnt : cntS nd2.ks ⟨#[98]⟩ 2 = 1 ∧ isS nd2.ks ⟨#[98]⟩ 2 = true := by
  have a : sle (sAt nd2.ks 0) ⟨#[98]⟩ = true := by
    show sle ⟨#[98]⟩ ⟨#[98]⟩ = true
    unfold sle; rw [tl1]; rfl
  have b : sle (sAt nd2.ks 1) ⟨#[98]⟩ = false := by
    show sle ⟨#[100]⟩ ⟨#[98]⟩ = false
    unfold sle; rw [tl1, tl1]; rfl
  refine ⟨by rw [cntS_no _ _ 1 b, cntS_yes _ _ 0 a]; rfl, ?_⟩
  rw [isS_succ, isS_succ]
  have c : ((sAt nd2.ks 0).toList == (⟨#[98]⟩ : ByteArray).toList) = true := by
    show ((⟨#[98]⟩ : ByteArray).toList == (⟨#[98]⟩ : ByteArray).toList) = true
    simp
  rw [c]
  simp
theorem rdP1 (w : World) (k v : ByteArray) (hk : k.size ≤ 140737488351232) (hv : v.size ≤ 140737488351232) : RdP (w.alloc (.cells #[.string k, .string v] 49)) (some ⟨w.heap.size, 0, none⟩) 1 1 [(k, v)] := by
  have hb := heap_alloc_new w (.cells #[.string k, .string v] 49)
  refine ⟨rfl, Nat.le_refl _, fun p hp => ?_, fun _ => ⟨w.heap.size, 0, rfl, by simp, fun j hj => ?_⟩⟩
  · simp at hp; subst hp; exact ⟨hk, hv⟩
  · obtain rfl : j = 0 := by omega
    constructor <;> (rw [cell_of_row _ w.heap.size _ _ 49 (0, 0) hb]; rfl)
theorem rdS2 (w : World) (a b : ByteArray) (ha : a.size ≤ 100) (hb : b.size ≤ 100) : RdS (w.alloc (.cells #[.string a, .string b] 9)) (some ⟨w.heap.size, 0, none⟩) 2 2 [a, b] := by
  have hx := heap_alloc_new w (.cells #[.string a, .string b] 9)
  refine ⟨rfl, Nat.le_refl _, fun p hp => ?_, fun _ => ⟨w.heap.size, 0, rfl, by simp, fun j hj => ?_⟩⟩
  · simp at hp; unfold maxLen; rcases hp with rfl | rfl <;> omega
  · obtain rfl | rfl : j = 0 ∨ j = 1 := by omega
    all_goals (rw [cell_of_row _ w.heap.size _ _ 9 (0, 0) hx]; rfl)
theorem rdI3 (w : World) : RdI (w.alloc (.cells #[.int .i64 1, .int .i64 2, .int .i64 3] 3)) (some ⟨w.heap.size, 0, none⟩) 3 3 [1, 2, 3] := by
  have hx := heap_alloc_new w (.cells #[.int .i64 1, .int .i64 2, .int .i64 3] 3)
  refine ⟨rfl, Nat.le_refl _, fun p hp => ?_, fun _ => ⟨w.heap.size, 0, rfl, by simp, fun j hj => ?_⟩⟩
  · simp at hp; rcases hp with rfl | rfl | rfl <;> omega
  · obtain rfl | rfl | rfl : j = 0 ∨ j = 1 ∨ j = 2 := by omega
    all_goals (rw [cell_of_row _ w.heap.size _ _ 3 (0, 0) hx]; rfl)

set_option maxHeartbeats 4000000 in
theorem awake_any (w : World) : Calls Try.prog 16 #[] w fun e w' => e = .returned (.bool true) ∧ Below w.heap.size w w' := by
  have HM := Lib.hid (Most_yes 128 (by omega) (by omega) w)
  obtain ⟨W, hW⟩ : ∃ W, w.alloc (.cells #[.string ⟨#[97]⟩, .string ⟨#[120]⟩] 49) = W := ⟨_, rfl⟩
  obtain ⟨g, hg⟩ : ∃ g, w.heap.size = g := ⟨_, rfl⟩
  have hr1 : RdP W (some ⟨g, 0, none⟩) 1 1 nd1.ps := by rw [← hW, ← hg]; exact rdP1 w _ _ (by decide) (by decide)
  have HBW : Hid (Below g w W) := by rw [← hW, ← hg]; exact (Below.refl _ _).alloc (Nat.le_refl _) _
  have hWs : g ≤ W.heap.size := by have := HBW.out.size; omega
  have HB : Hid (Calls Try.prog 11 #[.agg #[.bool true, .slice (some ⟨g, 0, none⟩) 1 1, .slice none 0 0, .slice none 0 0], .int .i64 64] W fun e w' =>
      (∃ z, e = .returned (.tuple #[.slice (some ⟨z, 0, none⟩) 64 64, .int .i64 0]) ∧ W.heap.size ≤ z ∧ Blk w' z 5 (nd1.body ++ zeros (64 - nd1.body.length))) ∧ Below W.heap.size W w') :=
    Bytes_yes W ⟨some ⟨g, 0, none⟩, 1, 1, none, 0, 0, none, 0, 0⟩ nd1 ⟨hr1, RdS.nil _ _ _, RdI.nil _ _ _⟩ nd1_few 64 nd1_chk
  rw [nd1_body] at HB
  clear hr1
  go_enter Try.func16, Try.ntmps16
  go_wp2_with fail
  refine HM.out.mono ?_
  rintro e w0 ⟨rfl, rfl⟩
  go_wp2_with fail
  refine HB.out.mono ?_
  rintro e w1 ⟨⟨z, rfl, hz, hblk⟩, hb1⟩
  have HB1 := Lib.hid (HBW.out.trans (hb1.mono hWs))
  have hg1 : g ≤ w1.heap.size := Nat.le_trans hWs hb1.size
  have hz1 : z < w1.heap.size := hblk.lt
  have HBLK := Lib.hid hblk
  clear hb1 hblk HB HM
  obtain ⟨h1, hh1⟩ : ∃ h1, w1.heap.size = h1 := ⟨_, rfl⟩
  obtain ⟨X, hX⟩ : ∃ X, w1.alloc (.cells #[.string ⟨#[98]⟩, .string ⟨#[100]⟩] 9) = X := ⟨_, rfl⟩
  have hbX : Below w1.heap.size w1 X := by rw [← hX]; exact (Below.refl _ _).alloc (Nat.le_refl _) _
  have hrs : RdS X (some ⟨h1, 0, none⟩) 2 2 nd2.ks := by rw [← hX, ← hh1]; exact rdS2 w1 _ _ (by decide) (by decide)
  obtain ⟨h2, hh2⟩ : ∃ h2, X.heap.size = h2 := ⟨_, rfl⟩
  obtain ⟨Y, hY⟩ : ∃ Y, X.alloc (.cells #[.int .i64 1, .int .i64 2, .int .i64 3] 3) = Y := ⟨_, rfl⟩
  have hbY : Below X.heap.size X Y := by rw [← hY]; exact (Below.refl _ _).alloc (Nat.le_refl _) _
  have hri : RdI Y (some ⟨h2, 0, none⟩) 3 3 nd2.cs := by rw [← hY, ← hh2]; exact rdI3 X
  have HBY := Lib.hid (HB1.out.trans ((bstep hbX hbY).mono hg1))
  have hgY : g ≤ Y.heap.size := Nat.le_trans hg1 (bstep hbX hbY).size
  have HBLK2 := Lib.hid (HBLK.out.keep (bstep hbX hbY) hz1)
  have HP : Hid (Calls Try.prog 22 #[.agg #[.bool false, .slice none 0 0, .slice (some ⟨h1, 0, none⟩) 2 2, .slice (some ⟨h2, 0, none⟩) 3 3], .string ⟨#[98]⟩] Y fun e w' => (∃ v, e = .returned v ∧ PlaceR nd2 ⟨#[98]⟩ v) ∧ Below Y.heap.size Y w') :=
    Place_any Y ⟨none, 0, 0, some ⟨h1, 0, none⟩, 2, 2, some ⟨h2, 0, none⟩, 3, 3⟩ nd2 ⟨RdP.nil _ _ _, hrs.keep hbY, hri⟩ nd2_few ⟨#[98]⟩
  clear hbX hrs hbY hri
  go_wp2_with fail
  refine HP.out.mono ?_
  rintro e w2 ⟨⟨v, rfl, hv⟩, hb2⟩
  have hv2 : v = .tuple #[.int .i64 1, .bool true] := by
    have h3 : v = .tuple #[.int .i64 (cntS nd2.ks ⟨#[98]⟩ 2 : Int), .bool (isS nd2.ks ⟨#[98]⟩ 2)] := hv
    rw [h3, nd2_cnt.1, nd2_cnt.2]
    rfl
  subst hv2
  have HB2 := Lib.hid (HBY.out.trans (hb2.mono hgY))
  have hblk := HBLK2.out.keep hb2 HBLK2.out.lt
  have hstr : (convert 30 9 (.slice (some ⟨z, 0, none⟩) 7 64)).run Try.prog w2 = .ok (.string ⟨#[1, 0, 1, 1, 97, 1, 120]⟩) w2 := by
    have := string_rd w2 (some ⟨z, 0, none⟩) 7 64 _ (hblk.rd 0 7 64 (by decide) (by omega))
    exact this
  clear hv hb2 hblk HP
  go_wp2
  go_ret
  exact ⟨by simp, by rw [hg]; exact HB2.out⟩
end Go.Proofs.Ytedhcohpcdkgnaa
