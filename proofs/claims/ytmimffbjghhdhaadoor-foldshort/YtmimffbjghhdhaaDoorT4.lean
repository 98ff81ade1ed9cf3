import Derived.Test.YtmimffbjghhdhaaDoorT3
namespace Go.Proofs.YtmimffbjghhdhaaDoor.B2x
open Go.RowKit Go.Bs

theorem hex_step (m k : Nat) (bs : List UInt8) (x : UInt8) (hm : bs.length = m) (hk : k < m) (hx : bs.getD k 0 = x) :
    ((hexL (bs.take k) ++ zeros (2 * m - 2 * k)).set (2 * k) (h16 (x.toNat / 16))).set (2 * k + 1) (h16 (x.toNat % 16)) = hexL (bs.take (k + 1)) ++ zeros (2 * m - 2 * (k + 1)) := by
  obtain ⟨j, rfl⟩ : ∃ j, m = k + (j + 1) := ⟨m - k - 1, by omega⟩
  have hl : (hexL (bs.take k)).length = 2 * k := by rw [hexL_length, List.length_take]; omega
  have e1 : 2 * (k + (j + 1)) - 2 * k = 2 * j + 2 := by omega
  have e2 : 2 * (k + (j + 1)) - 2 * (k + 1) = 2 * j := by omega
  have ez : zeros (2 * j + 2) = 0 :: 0 :: zeros (2 * j) := by simp [zeros, List.replicate_succ]
  rw [e1, e2, ez, List.set_append_right _ _ (by omega), hl, Nat.sub_self, List.set_append_right _ _ (by omega), hl, show 2 * k + 1 - 2 * k = 1 by omega, take_snoc bs k (by omega), hexL_append, hx]
  simp [hexL]

end Go.Proofs.YtmimffbjghhdhaaDoor.B2x
