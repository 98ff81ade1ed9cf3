/- Slices of bytes, cut. Conditions: none. -/
import Derived.Test.YtmimffbjghhdhaaDoorS2
namespace Go.Proofs.YtmimffbjghhdhaaDoor
open Go.RowKit Go.Bs Go.Sha

theorem below_of_drew {N : Nat} {w w' : World} (h : Below N w.drew w') : Below N w w' := ⟨h.os, h.tape, h.output, h.size, h.block⟩
theorem size5 (w : World) : (sizeOf 5).run Tryd.prog w = .ok 1 w := by kernel_rfl
theorem elem22 : Tryd.prog.elem 22 = 5 := by kernel_rfl

/-- where a slice's end begins. -/
def tailA (A : Option Addr) (c k : Nat) : Option Addr := A.map fun a => if c = k then a else a.add k
theorem rd_tail {w : World} {A : Option Addr} {n c : Nat} {bs : List UInt8} (h : Rd w A n c bs) (k : Nat) (hk : k ≤ n) : Rd w (tailA A c k) (n - k) (c - k) (bs.drop k) := by
  refine ⟨by rw [List.length_drop, h.len], Nat.sub_le_sub_right h.cap k, fun hn => ?_⟩
  obtain ⟨g, o, rfl, hg, hc⟩ := h.cells (by omega)
  have hcap := h.cap
  refine ⟨g, o + k, ?_, hg, fun j hj => ?_⟩
  · unfold tailA
    rw [Option.map_some, if_neg (by omega), addr_add]
  · rw [Nat.add_assoc, hc (k + j) (by omega)]
    simp [List.getD, List.getElem?_drop]
theorem slice_from (A : Option Addr) (n c k : Nat) (hk : k ≤ n) (w : World) : (Instr.slice 22 (.slice A n c) (some (.int .i64 (k : Int))) none none).run Tryd.prog w = .ok (.slice (tailA A c k) (n - k) (c - k)) w := by
  rw [run_slice_l (P := Tryd.prog) w 22 A n c (by rw [elem22]; exact Tryd.underlying22) .i64 (k : Int) (by omega) (by omega), elem22, size5, Result.andThen_ok]
  cases A <;> simp [sliced, tailA]
  split <;> rfl
theorem slice_head (A : Option Addr) (n c h m : Nat) (hh : h ≤ m) (hm : m ≤ c) (w : World) : (Instr.slice 22 (.slice A n c) none (some (.int .i64 (h : Int))) (some (.int .i64 (m : Int)))).run Tryd.prog w = .ok (.slice A h m) w := by
  rw [run_slice_hm (P := Tryd.prog) w 22 A n c (by rw [elem22]; exact Tryd.underlying22) .i64 .i64 (h : Int) (m : Int) (by omega) (by omega) (by omega), elem22, size5, Result.andThen_ok]
  cases A <;> simp [sliced]
  rename_i a
  unfold Addr.add
  split <;> simp_all
theorem rd_head {w : World} {A : Option Addr} {n c : Nat} {bs : List UInt8} (h : Rd w A n c bs) (k m : Nat) (hk : k ≤ n) (hm : k ≤ m) : Rd w A k m (bs.take k) := by
  refine ⟨by rw [List.length_take, h.len]; omega, hm, fun hn => ?_⟩
  obtain ⟨g, o, rfl, hg, hc⟩ := h.cells (by omega)
  refine ⟨g, o, rfl, hg, fun j hj => ?_⟩
  rw [hc j (by omega)]
  simp [List.getD, hj]
end Go.Proofs.YtmimffbjghhdhaaDoor
