import Derived.Test.YtmimffbjghhdhaaDoorT6
namespace Go.Proofs.YtmimffbjghhdhaaDoor.B2x
open Go.RowKit Go.Bs

theorem Decode_yes (s : ByteArray) (l : List UInt8) (n : Nat) (w : World) (hsl : s.data.toList = l) (hs : s.size ≤ 17592186044416) (hn : nByt s.size = n) (hg : encL (decL l) = l) :
    Calls Tryd.prog 12 #[.string s] w fun e w' => e = .returned (.tuple #[.slice (some ⟨w.heap.size, 0, none⟩) n n, .int .i64 0]) ∧ Rd w' (some ⟨w.heap.size, 0, none⟩) n n (decL l) ∧ Below w.heap.size w w' := by
  refine (Decode_any s l w hsl hs).mono ?_
  rintro e w' ⟨hb, ⟨_, rfl, hB⟩ | ⟨h, _⟩⟩
  · subst hn
    exact ⟨rfl, hB.all' _ _ (by rw [decL_length, ← hsl]; simp) (Nat.le_refl _), hb⟩
  · exact absurd hg h
theorem Decode_no (s : ByteArray) (l : List UInt8) (w : World) (hsl : s.data.toList = l) (hs : s.size ≤ 17592186044416) (hg : encL (decL l) ≠ l) :
    Calls Tryd.prog 12 #[.string s] w fun e w' => e = .returned (.tuple #[.slice none 0 0, .int .i64 4]) ∧ Below w.heap.size w w' := by
  refine (Decode_any s l w hsl hs).mono ?_
  rintro e w' ⟨hb, ⟨h, rfl, hB⟩ | ⟨h, rfl⟩⟩
  · exact absurd h hg
  · exact ⟨rfl, hb⟩
theorem two_rd (w : World) (t : Nat) (x y : UInt8) (v u : Value) (hv : v = B x) (hu : u = B y) : Rd (w.alloc (.cells #[v, u] t)) (some ⟨w.heap.size, 0, none⟩) 2 2 [x, y] := by
  subst hv hu
  exact (Blk.new w t [x, y]).all 2 (Nat.le_refl _)

theorem c7z : encL (decL [55, 122]) = [55, 122] := by decide +kernel
theorem d7z : decL [55, 122] = [255] := by decide +kernel
theorem c8z : encL (decL [56, 122]) ≠ [56, 122] := by decide +kernel
theorem g00ff : good16 [48, 48, 102, 102] := by
  refine ⟨rfl, ?_⟩
  decide +kernel
theorem u00ff : unhexL [48, 48, 102, 102] = [0, 255] := by decide +kernel
theorem h00ff : hexL [0, 255] = [48, 48, 102, 102] := by decide +kernel
theorem eff : encL [255] = [55, 122] := by decide +kernel
theorem e0100 : encL [1, 0] = [48, 48, 48, 49] := by decide +kernel

end Go.Proofs.YtmimffbjghhdhaaDoor.B2x
