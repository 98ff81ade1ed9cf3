/- New, and what a Hash has. Conditions: none. -/
import Derived.Test.YtnoldhedocejbaaDoorH1
import Derived.Test.YtnoldhedocejbaaDoorS9
import Derived.Deep.RegionHeld3
namespace Go.Proofs.YtnoldhedocejbaaDoor
open Go.RowKit Go.Bs Go.Sha

/-- the Hash at block g has these bytes. -/
def HashIs (w : World) (g : Nat) (bs : List UInt8) : Prop :=
  ∃ blk, HB w g (state Sha.start bs) blk bs.length ∧ blk.take (bs.length % 64) = bs.drop (bs.length / 64 * 64)
theorem HashIs.lt {w : World} {g : Nat} {bs : List UInt8} (h : HashIs w g bs) : g < w.heap.size := by obtain ⟨_, h, _⟩ := h; exact h.lt
theorem HashIs.keep {w w' : World} {g : Nat} {bs : List UInt8} (h : HashIs w g bs) (e : w'.heap[g]? = w.heap[g]?) : HashIs w' g bs := by
  obtain ⟨blk, h, h2⟩ := h
  exact ⟨blk, ⟨h.len, e.trans h.row⟩, h2⟩

theorem zero63 (w : World) : (zeroValue 63).run Tryd.prog w = .ok (.agg #[.int .u32 0, .int .u32 0, .int .u32 0, .int .u32 0, .int .u32 0, .int .u32 0, .int .u32 0, .int .u32 0, .int .u8 0, .int .u8 0, .int .u8 0, .int .u8 0, .int .u8 0, .int .u8 0, .int .u8 0, .int .u8 0, .int .u8 0, .int .u8 0, .int .u8 0, .int .u8 0, .int .u8 0, .int .u8 0, .int .u8 0, .int .u8 0, .int .u8 0, .int .u8 0, .int .u8 0, .int .u8 0, .int .u8 0, .int .u8 0, .int .u8 0, .int .u8 0, .int .u8 0, .int .u8 0, .int .u8 0, .int .u8 0, .int .u8 0, .int .u8 0, .int .u8 0, .int .u8 0, .int .u8 0, .int .u8 0, .int .u8 0, .int .u8 0, .int .u8 0, .int .u8 0, .int .u8 0, .int .u8 0, .int .u8 0, .int .u8 0, .int .u8 0, .int .u8 0, .int .u8 0, .int .u8 0, .int .u8 0, .int .u8 0, .int .u8 0, .int .u8 0, .int .u8 0, .int .u8 0, .int .u8 0, .int .u8 0, .int .u8 0, .int .u8 0, .int .u8 0, .int .u8 0, .int .u8 0, .int .u8 0, .int .u8 0, .int .u8 0, .int .u8 0, .int .u8 0, .int .i64 0]) w := by kernel_rfl
set_option maxRecDepth 100000 in
set_option maxHeartbeats 4000000 in
theorem New_any (w : World) (hL : Laid w) : Calls Tryd.prog 20 #[] w fun e w' => e = .returned (.pointer (some ⟨w.heap.size, 0, none⟩)) ∧ HashIs w' w.heap.size [] ∧ Below w.heap.size w w' := by
  obtain ⟨c0, c1, c2, c3, c4, c5, c6, c7⟩ := hL.eight
  clear hL
  have hz := zero63
  go_enter Tryd.func20, Tryd.ntmps20
  go_wp2
  go_ret
  refine ⟨rfl, ⟨zeros 64, ⟨rfl, heap_alloc_new w _⟩, rfl⟩, (Below.refl _ _).alloc (Nat.le_refl _) _⟩

theorem Write_nil (v : Value) (w : World) : Calls Tryd.prog 21 #[.pointer none, v] w fun e w' => e = .returned (.int .i64 3) ∧ w = w' := by
  go_enter Tryd.func21, Tryd.ntmps21
  go_wp2
  go_ret
  exact ⟨rfl, rfl⟩
theorem HSum_nil (w : World) : Calls Tryd.prog 22 #[.pointer none] w fun e w' => e = .returned (.tuple #[.slice none 0 0, .int .i64 3]) ∧ w = w' := by
  go_enter Tryd.func22, Tryd.ntmps22
  go_wp2
  go_ret2
  exact ⟨rfl, rfl⟩
end Go.Proofs.YtnoldhedocejbaaDoor
