/- What the row's list of variables gives, and a world that meets it. Conditions: none. -/
import Derived.Test.YtmimffbjghhdhaaDoorCards
import Derived.Test.YtmimffbjghhdhaaDoorTie
import Derived.Test.YtmimffbjghhdhaaDoorS2
import Derived.WalkKit
import Derived.ProofKit
import Derived.OpenShut
import Derived.ShutString
import Derived.ChangeOld
import Derived.Deep.DeepHandedRow
import Derived.Lib.LaidTab
import Derived.Lib.LaidU8
namespace Go.Proofs.YtmimffbjghhdhaaDoor
open Go.ChangeShapes Go.WideShapes Go.ChangeAt Go.RowKit Go.Sha

theorem own : ownKnob Tryd.prog.godebug = none := by kernel_rfl
theorem gStart : Tryd.prog.globalNamed "chandlery/sha256.start" = some 0 := by kernel_rfl
theorem gK : Tryd.prog.globalNamed "chandlery/sha256.k" = some 1 := by kernel_rfl
theorem tStart : (Tryd.prog.globals[0]?).map (·.type) = some 42 := by kernel_rfl
theorem tK : (Tryd.prog.globals[1]?).map (·.type) = some 58 := by kernel_rfl
theorem cells51 : Tryd.prog.cellsOf 42 = 8 := by kernel_rfl
theorem cells67 : Tryd.prog.cellsOf 58 = 64 := by kernel_rfl
theorem cells50 : Tryd.prog.cellsOf 41 = 1 := by kernel_rfl

def laidL : List (String × DataW Unit) := [("chandlery/sha256.start", Rows.laid_chandlery_sha256_start), ("chandlery/sha256.k", Rows.laid_chandlery_sha256_k)]
theorem data_start : (Rows.laid_chandlery_sha256_start : DataW Unit) = Lib.tabData .u32 (Sha.start.l.map fun (x : Nat) => (x : Int)) := rfl
theorem data_k : (Rows.laid_chandlery_sha256_k : DataW Unit) = Lib.tabData .u32 (KL.map fun (x : Nat) => (x : Int)) := rfl

theorem getD_cast (l : List Nat) (i : Nat) : (l.map fun (x : Nat) => (x : Int)).getD i 0 = ((l.getD i 0 : Nat) : Int) := by
  rcases Nat.lt_or_ge i l.length with h | h
  · simp [List.getD, List.getElem?_eq_getElem h]
  · simp [List.getD, List.getElem?_eq_none h]

theorem laid_of {W : World} (h : laidMet Tryd.prog laidL W) : Laid W := by
  have h1 : Lib.TabIs Tryd.prog W "chandlery/sha256.start" .u32 (Sha.start.l.map fun (x : Nat) => (x : Int)) :=
    Lib.tabIs_of_head (rest := [("chandlery/sha256.k", Rows.laid_chandlery_sha256_k)]) gStart tStart Tryd.underlying42 Tryd.underlying41 cells50 cells51 h
  have h2 : Lib.TabIs Tryd.prog W "chandlery/sha256.k" .u32 (KL.map fun (x : Nat) => (x : Int)) := by
    obtain ⟨g', t', cs, fuel, p, hg', ht', hvar, hd⟩ := Lib.laidMet.reads h (.tail _ (.head _))
    obtain rfl := Option.some.inj (gK.symm.trans hg')
    obtain rfl := Option.some.inj (tK.symm.trans ht')
    unfold Lib.TabIs
    rw [data_k] at hd
    rw [hvar, ← Lib.cells_of_tab Tryd.underlying58 Tryd.underlying41 cells50 cells67 hd]
  refine ⟨fun i hi => ?_, fun i hi => ?_⟩
  · have := h1.cell gStart i (by simpa [St.l] using hi)
    rw [getD_cast] at this
    exact this
  · have := h2.cell gK i (by simpa [KL] using hi)
    rw [getD_cast] at this
    exact this

def fillRow (cs : Array Value) : Obj → Obj
  | .cells _ t frozen => .cells cs t frozen
  | o => o
noncomputable def laidWorld (os : Os) : World :=
  { World.holding Tryd.prog os ⟨#[], #[], []⟩ with heap := ((World.holding Tryd.prog os ⟨#[], #[], []⟩).heap.modify 0 (fillRow (Sha.start.l.map U).toArray)).modify 1 (fillRow (KL.map U).toArray) }
end Go.Proofs.YtmimffbjghhdhaaDoor
