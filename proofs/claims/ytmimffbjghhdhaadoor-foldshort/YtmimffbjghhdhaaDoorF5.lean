/- The document's Short. Conditions: none. -/
import Derived.Test.YtmimffbjghhdhaaDoorF2
import Derived.Test.YtmimffbjghhdhaaDoorF3
import Derived.Test.YtmimffbjghhdhaaDoorR8
import Derived.Test.YtmimffbjghhdhaaDoorT8
namespace Go.Proofs.YtmimffbjghhdhaaDoor
open Go.RowKit Go.Bs Go.FoldW Go.Sha
set_option maxHeartbeats 1000000 in
theorem rShort_any (s : ByteArray) (l : List UInt8) (w : World) (hsl : s.data.toList = l) (hs : s.size ≤ 17592186044416) :
    Calls Tryd.prog 14 #[.string s] w fun e w' => e = .returned (.string ⟨(shortL l).toArray⟩) ∧ Below w.heap.size w w' := by
  obtain ⟨c1, w1, hcv, hr1, hb1⟩ := run_bytes_str (P := Tryd.prog) w 9 22 5 Tryd.underlying9 Tryd.underlying22 Tryd.underlying5 s
  rw [hsl] at hr1
  have HS := Lib.hid (rSum_any _ _ _ l w1 hr1 (by omega))
  have HB1 := Lib.hid hb1
  clear hr1 hb1 hsl
  go_enter Tryd.func14, Tryd.ntmps14
  go_wp2_with fail
  refine HS.out.mono ?_
  rintro e w2 ⟨v2, rfl, ho2, hb2⟩
  obtain ⟨A2, c2, rfl, hr2⟩ := ho2.slice 32 (sumB_length l)
  have HB2 := Lib.hid (bstep HB1.out hb2)
  have HF := Lib.hid (rFold_any A2 32 c2 20 _ w2 hr2 (by omega) (by omega) (by omega))
  clear ho2 hr2 hb2
  go_wp2_with fail
  refine HF.out.mono ?_
  rintro e w3 ⟨v3, rfl, ho3, hb3⟩
  obtain ⟨A3, c3, rfl, hr3⟩ := ho3.slice 20 (foldL_length _ _)
  have HB3 := Lib.hid (bstep HB2.out hb3)
  have HE := Lib.hid (B2x.rEncode_any A3 20 c3 _ w3 hr3 (by omega))
  clear ho3 hr3 hb3
  go_wp2_with fail
  refine HE.out.mono ?_
  rintro e w4 ⟨rfl, rfl⟩
  go_wp2
  go_ret
  exact ⟨rfl, HB3.out⟩
theorem short_back (l : List UInt8) : decL (shortL l) = foldL (sumB l) 20 := dec_enc _
theorem short_good (l : List UInt8) : encL (decL (shortL l)) = shortL l := by rw [short_back]; rfl
end Go.Proofs.YtmimffbjghhdhaaDoor
