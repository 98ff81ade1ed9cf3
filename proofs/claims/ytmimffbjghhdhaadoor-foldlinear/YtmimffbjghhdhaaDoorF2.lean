/- Short of the program, and what every law asks first. Conditions: the two tables are laid. -/
import Derived.Test.YtmimffbjghhdhaaDoorF1
import Derived.Test.YtmimffbjghhdhaaDoorS9
import Derived.Test.YtmimffbjghhdhaaDoorS11
import Derived.Lib.SlBytesConst
namespace Go.Proofs.YtmimffbjghhdhaaDoor
open Go.RowKit Go.Bs Go.FoldW Go.Sha

def shortL (l : List UInt8) : List UInt8 := encL (foldL (sumB l) 20)
theorem sumB_length (l : List UInt8) : (sumB l).length = 32 := rfl
theorem shortL_length (l : List UInt8) : (shortL l).length = 32 := by unfold shortL; rw [encL_length, foldL_length]; rfl
theorem bstep {a b c : World} (h : Below a.heap.size a b) (h' : Below b.heap.size b c) : Below a.heap.size a c := h.trans (h'.mono h.size)

set_option maxHeartbeats 1000000 in
theorem Short_any (s : ByteArray) (l : List UInt8) (w : World) (hsl : s.data.toList = l) (hs : s.size ≤ 17592186044416) (hL : Laid w) :
    Calls Tryd.prog 11 #[.string s] w fun e w' => e = .returned (.string ⟨(shortL l).toArray⟩) ∧ Below w.heap.size w w' := by
  obtain ⟨c1, w1, hcv, hr1, hb1⟩ := run_bytes_str (P := Tryd.prog) w 9 22 5 Tryd.underlying9 Tryd.underlying22 Tryd.underlying5 s
  rw [hsl] at hr1
  have HS := Lib.hid (Sum_any _ _ _ l w1 hr1 (by omega) (hL.keep hb1))
  have HB1 := Lib.hid hb1
  clear hr1 hb1 hsl hL
  go_enter Tryd.func11, Tryd.ntmps11
  go_wp2_with fail
  refine HS.out.mono ?_
  rintro e w2 ⟨v2, rfl, ho2, hb2⟩
  obtain ⟨A2, c2, rfl, hr2⟩ := ho2.slice 32 (sumB_length l)
  have HB2 := Lib.hid (bstep HB1.out hb2)
  have HF := Lib.hid (folded_any A2 32 c2 20 _ w2 hr2 (by omega) (by omega) (by omega))
  clear ho2 hr2 hb2
  go_wp2_with fail
  refine HF.out.mono ?_
  rintro e w3 ⟨rfl, hB3, hb3⟩
  have HB3 := Lib.hid (bstep HB2.out hb3)
  have HE := Lib.hid (B2x.Encode_any _ 20 20 _ w3 (hB3.all' 20 20 (foldL_length _ _) (Nat.le_refl _)) (by omega))
  clear hB3 hb3
  go_wp2_with fail
  refine HE.out.mono ?_
  rintro e w4 ⟨rfl, hb4⟩
  have HB4 := Lib.hid (bstep HB3.out hb4)
  clear hb4
  go_wp2
  go_ret
  exact ⟨rfl, HB4.out⟩

theorem cells_rd (w : World) (fr : Nat × Nat) (bs : List UInt8) (n : Nat) (hn : bs.length = n) : Rd (w.alloc (.cells (bs.map B).toArray 5 fr)) (some ⟨w.heap.size, 0, none⟩) n n bs := by
  refine ⟨hn, Nat.le_refl _, fun _ => ⟨w.heap.size, 0, rfl, by simp, fun j hj => ?_⟩⟩
  rw [Nat.zero_add, cell_of_row _ w.heap.size j _ 5 fr (heap_alloc_new w _)]
  simp [List.getElem?_eq_getElem (show j < bs.length by omega)]
theorem fold5 : foldL [1, 2, 3, 4, 5] 2 = [7, 6] := by decide +kernel

set_option maxHeartbeats 2000000 in
theorem awake_any (w : World) (hL : Laid w) : Calls Tryd.prog 9 #[] w fun e w' => e = .returned (.bool true) ∧ Below w.heap.size w w' := by
  have HL := Lib.hid hL
  clear hL
  obtain ⟨W1, hW1⟩ : ∃ W, w.alloc (.cells #[.int .u8 1, .int .u8 2, .int .u8 3, .int .u8 4, .int .u8 5] 5) = W := ⟨_, rfl⟩
  have HB1 : Hid (Below w.heap.size w W1) := by rw [← hW1]; exact (Below.refl _ _).alloc (Nat.le_refl _) _
  have HF := Lib.hid (Fold_yes (some ⟨w.heap.size, 0, none⟩) 5 5 2 [1, 2, 3, 4, 5] W1 (by rw [← hW1]; exact cells_rd w _ [1, 2, 3, 4, 5] 5 rfl) (by omega) (by omega) (by omega))
  rw [fold5] at HF
  go_enter Tryd.func9, Tryd.ntmps9
  go_wp2_with fail
  refine HF.out.mono ?_
  rintro e w2 ⟨rfl, hB2, hb2⟩
  obtain ⟨g2, hg2⟩ : ∃ g, W1.heap.size = g := ⟨_, rfl⟩
  have HB2 := Lib.hid (bstep HB1.out hb2)
  rw [hg2] at hB2 ⊢
  have hst := B2x.string_rd w2 _ 2 2 _ (hB2.all' 2 2 rfl (Nat.le_refl _))
  have hcv := Lib.run_convert_bytes_const (P := Tryd.prog) w2 22 5 #[.int .u8 49, .int .u8 50, .int .u8 51, .int .u8 52, .int .u8 53, .int .u8 54, .int .u8 55, .int .u8 56, .int .u8 57] 9 9 Tryd.underlying22 Tryd.underlying5
  rw [show (#[Value.int .u8 49, Value.int .u8 50, Value.int .u8 51, Value.int .u8 52, Value.int .u8 53, Value.int .u8 54, Value.int .u8 55, Value.int .u8 56, Value.int .u8 57] : Array Value).size = 9 from rfl] at hcv
  obtain ⟨W3, hW3⟩ : ∃ W, w2.alloc (.cells #[.int .u8 49, .int .u8 50, .int .u8 51, .int .u8 52, .int .u8 53, .int .u8 54, .int .u8 55, .int .u8 56, .int .u8 57] 5 (9, 9 + 1)) = W := ⟨_, rfl⟩
  have HB3 : Hid (Below w.heap.size w W3) := by rw [← hW3]; exact HB2.out.alloc HB2.out.size _
  have HC := Lib.hid (Crc_any (some ⟨w2.heap.size, 0, none⟩) 9 9 [49, 50, 51, 52, 53, 54, 55, 56, 57] W3 (by rw [← hW3]; exact cells_rd w2 _ [49, 50, 51, 52, 53, 54, 55, 56, 57] 9 rfl) (by omega))
  rw [Crc.crc_nine] at HC
  rw [hW3] at hcv
  clear hB2 hb2 hg2
  go_wp2_with fail
  refine HC.out.mono ?_
  rintro e w' ⟨rfl, rfl⟩
  have HC0 := Lib.hid (Crc_any none 0 0 [] W3 (Rd.nil _ _ _) (by omega))
  rw [Crc.crc_nil] at HC0
  go_wp2_with fail
  refine HC0.out.mono ?_
  rintro e w' ⟨rfl, rfl⟩
  have HSH := Lib.hid (Short_any ⟨#[]⟩ [] W3 rfl (by decide) (HL.out.keep HB3.out))
  obtain ⟨S, hS⟩ : ∃ S : ByteArray, ⟨(shortL []).toArray⟩ = S := ⟨_, rfl⟩
  have hSs : S.size = 32 := by rw [← hS]; show (shortL []).toArray.size = 32; rw [List.size_toArray, shortL_length]
  rw [hS] at HSH
  clear hS
  go_wp2_with fail
  refine HSH.out.mono ?_
  rintro e w4 ⟨rfl, hb4⟩
  have HB4 := Lib.hid (bstep HB3.out hb4)
  clear hb4
  go_wp2
  go_ret
  exact ⟨rfl, HB4.out⟩
end Go.Proofs.YtmimffbjghhdhaaDoor
