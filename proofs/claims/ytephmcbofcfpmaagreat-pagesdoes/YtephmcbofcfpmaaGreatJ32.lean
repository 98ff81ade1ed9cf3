/- A transaction that is not the later one. Conditions: none. Rows of texts and of bools; numbers divided. Conditions: none. -/
import Derived.Test.YtephmcbofcfpmaaGreatJ30
import Derived.Test.YtephmcbofcfpmaaGreatJ02
import Derived.Test.YtephmcbofcfpmaaGreatProg
import Derived.WalkKit
import Derived.Deep.QuietTactic
import Derived.BigQuiet
import Derived.StillTailTactics
import Derived.Deep.RegionHeld3
import Derived.Deep.AppendLies
set_option maxRecDepth 8000
set_option linter.unusedSimpArgs false
set_option linter.unusedVariables false
namespace Go.Proofs.YtephmcbofcfpmaaGreat
open Go.RowKit Go.Bs Go.Dk Rp

theorem Root_old (w : World) (pp t u q g : Nat) (s : S) (log N Bz M : Nat) (L : Nat → List UInt8) (T : TX) (D : Nat → Prop) (h : Sy w pp u q g s log N Bz M L T D) (hd : T.done = false) (h0 : w.cell? ⟨t, 0, none⟩ = some (.pointer (some ⟨pp, 0, none⟩))) (ca : Array Value) (ht : w.heap[t]? = some (.cells ca 104 (0, 0))) (hne : u ≠ t) :
    Calls Tryz.prog 18 #[.pointer (some ⟨t, 0, none⟩)] w fun e w' => e = .returned (.tuple #[.int .i64 0, .int .i64 1]) ∧ w = w' := by
  obtain ⟨Dw, K, h1, _, _⟩ := h
  obtain ⟨cb, hu⟩ := h1.rowT
  have hn := (pgr_cells h1.rowP).2.1
  unfold nowV at hn
  rw [hd] at hn
  have HR := Lib.hid (tready_old w t u pp ca cb h0 hn hne ht hu)
  clear h1 hn hu ht h0
  go_enter Tryz.func18, Tryz.ntmps18
  go_wp2_with fail
  refine HR.out.mono ?_
  rintro e w1 ⟨rfl, rfl⟩
  go_wp2
  go_ret2
  exact ⟨rfl, rfl⟩
/-- what a transaction's block keeps. -/
theorem Sy.old {w : World} {pp t q g : Nat} {s : S} {log N Bz M : Nat} {L : Nat → List UInt8} {T : TX} {D : Nat → Prop} (h : Sy w pp t q g s log N Bz M L T D) : t < w.heap.size ∧ t ≠ pp ∧ w.cell? ⟨t, 0, none⟩ = some (.pointer (some ⟨pp, 0, none⟩)) ∧ ∃ ca, w.heap[t]? = some (.cells ca 104 (0, 0)) := by
  obtain ⟨Dw, K, h1, _, _⟩ := h
  obtain ⟨ca, hc⟩ := h1.rowT
  refine ⟨(h1.KD t h1.inK.2).2.2, fun e => ?_, h1.own, ca, hc⟩
  subst e
  have := h1.rowP
  rw [hc] at this
  injection this with this
  injection this with _ this
  cases this
end Go.Proofs.YtephmcbofcfpmaaGreat

set_option maxRecDepth 8000
set_option linter.unusedSimpArgs false
set_option linter.unusedVariables false
namespace Go.Proofs.YtephmcbofcfpmaaGreat.Rp
open Go.RowKit Go.Bs Go.Dk

theorem mixed : Tryz.prog.follows .mixedOrders = true := by kernel_rfl
theorem div_run (a b : Nat) (hb : 1 ≤ b) (ha : a ≤ 1000000000000) (W : World) : (Op.intDiv .quo .i64 (a : Int) (b : Int)).run Tryz.prog W = .ok (.int .i64 ((a / b : Nat) : Int)) W := by
  have h1 : ¬ (b = 0) := by omega
  have h0 : a / b ≤ a := Nat.div_le_self _ _
  have h2 : IntKind.i64.wrap ((a : Int) / (b : Int)) = (a : Int) / (b : Int) := by
    obtain ⟨q, hq⟩ : ∃ q, a / b = q := ⟨_, rfl⟩
    have e : (a : Int) / (b : Int) = (q : Int) := by rw [← hq]; simp
    rw [hq] at h0
    rw [e]
    exact IntWalk.i64_in _ (by omega)
  simp [Op.intDiv, h1, h2]
theorem rem_run (a b : Nat) (hb : 1 ≤ b) (ha : a ≤ 1000000000000) (W : World) : (Op.intDiv .rem .i64 (a : Int) (b : Int)).run Tryz.prog W = .ok (.int .i64 ((a % b : Nat) : Int)) W := by
  have h1 : ¬ (b = 0) := by omega
  have h2 : (a : Int).tmod (b : Int) = ((a % b : Nat) : Int) := rfl
  simp [Op.intDiv, h1, h2]
theorem ownsRow_keepB {w w' : World} {base e size n : Nat} {v : Value} {xs : List Value} (h : w.ownsRow base e size v n xs) (hk : ∀ k, v.ownBlock = some k → w'.heap[k]? = w.heap[k]?) : w'.ownsRow base e size v n xs := by
  refine ⟨h.1, ?_⟩
  rcases h.2 with h0 | ⟨g, cap, cur, e1, e2, e3, e4⟩
  · exact .inl h0
  · exact .inr ⟨g, cap, cur, e1, e2, (hk g (by rw [e1]; rfl)).trans e3, e4⟩
/-- a row of texts. -/
def lS (w : World) (Lv : Value) (n : Nat) (L : Nat → List UInt8) : Prop := w.ownsRow 0 9 1 Lv n ((List.range n).map fun k => .string ⟨(L k).toArray⟩)
theorem lS.form {w : World} {Lv : Value} {n : Nat} {L : Nat → List UInt8} (h : lS w Lv n L) (hn : 0 < n) : ∃ lb cap, Lv = .slice (some ⟨lb, 0, none⟩) n cap ∧ n ≤ cap ∧ lb < w.heap.size ∧ (∀ k, k < n → w.cell? ⟨lb, k, none⟩ = some (.string ⟨(L k).toArray⟩)) ∧ (∀ k, w.frozen? ⟨lb, k, none⟩ = false) := by
  rcases h.2 with ⟨_, h0⟩ | ⟨lb, cap, cur, e, _, h2, h3, _⟩
  · omega
  · refine ⟨lb, cap, e, h3, (Array.getElem?_eq_some_iff.1 h2).1, fun k hk => ?_, fun k => by simp [World.frozen?, h2]⟩
    have hc := h.cells (g := lb) (by rw [e]; rfl) k (.string ⟨(L k).toArray⟩) (by simp [hk])
    rwa [addr_add, Nat.zero_add] at hc
theorem lS.set {w : World} {n cap lb : Nat} {L : Nat → List UInt8} (h : lS w (.slice (some ⟨lb, 0, none⟩) n cap) n L) (k : Nat) (hk : k < n) (bs : List UInt8) : lS (w.setCell ⟨lb, k, none⟩ (.string ⟨bs.toArray⟩)) (.slice (some ⟨lb, 0, none⟩) n cap) n (upd L k bs) := by
  rcases h.2 with ⟨e, _⟩ | ⟨lb', cap', cur, e, h1, h2, h3, h4, h5, h6⟩
  · cases e
  · cases e
    refine ⟨by simp, .inr ⟨lb, cap, cur.setIfInBounds k (.string ⟨bs.toArray⟩), rfl, h1, ?_, h3, h4, by simp [h5], ?_⟩⟩
    · rw [setCell_eq_setRow w lb k _ 9 (0, 0) _ h2, setRow_heap w lb _ _ 9 _ h2]
    · rw [Array.toList_setIfInBounds, List.take_set, h6]
      apply List.ext_getElem
      · simp
      · intro i a1 a2
        have hi : i < n := by simpa using a2
        by_cases e : i = k
        · subst e; simp [upd]
        · simp [upd, e, List.getElem_set_ne (Ne.symm e)]
theorem lS.keep {w w' : World} {lb n cap : Nat} {L : Nat → List UInt8} (h : lS w (.slice (some ⟨lb, 0, none⟩) n cap) n L) (e : w'.heap[lb]? = w.heap[lb]?) : lS w' (.slice (some ⟨lb, 0, none⟩) n cap) n L :=
  ownsRow_keepB h fun k hk => by
    have : lb = k := by simpa [Value.ownBlock] using hk
    subst this
    exact e
theorem lS.congr {w : World} {Lv : Value} {n : Nat} {L L' : Nat → List UInt8} (h : lS w Lv n L) (e : ∀ k, k < n → L k = L' k) : lS w Lv n L' := by
  have : ((List.range n).map fun k => Value.string ⟨(L k).toArray⟩) = ((List.range n).map fun k => Value.string ⟨(L' k).toArray⟩) := List.map_congr_left fun k hk => by rw [e k (List.mem_range.1 hk)]
  unfold lS at h ⊢
  rw [← this]
  exact h
/-- a row of bools. -/
def bS (w : World) (Wv : Value) (n : Nat) (W : Nat → Bool) : Prop := w.ownsRow 0 4 1 Wv n ((List.range n).map fun k => .bool (W k))
theorem bS.form {w : World} {Wv : Value} {n : Nat} {W : Nat → Bool} (h : bS w Wv n W) (hn : 0 < n) : ∃ lb cap, Wv = .slice (some ⟨lb, 0, none⟩) n cap ∧ n ≤ cap ∧ lb < w.heap.size ∧ (∀ k, k < n → w.cell? ⟨lb, k, none⟩ = some (.bool (W k))) ∧ (∀ k, w.frozen? ⟨lb, k, none⟩ = false) := by
  rcases h.2 with ⟨_, h0⟩ | ⟨lb, cap, cur, e, _, h2, h3, _⟩
  · omega
  · refine ⟨lb, cap, e, h3, (Array.getElem?_eq_some_iff.1 h2).1, fun k hk => ?_, fun k => by simp [World.frozen?, h2]⟩
    have hc := h.cells (g := lb) (by rw [e]; rfl) k (.bool (W k)) (by simp [hk])
    rwa [addr_add, Nat.zero_add] at hc
theorem bS.set {w : World} {n cap lb : Nat} {W : Nat → Bool} (h : bS w (.slice (some ⟨lb, 0, none⟩) n cap) n W) (k : Nat) (hk : k < n) (b : Bool) : bS (w.setCell ⟨lb, k, none⟩ (.bool b)) (.slice (some ⟨lb, 0, none⟩) n cap) n (upd W k b) := by
  rcases h.2 with ⟨e, _⟩ | ⟨lb', cap', cur, e, h1, h2, h3, h4, h5, h6⟩
  · cases e
  · cases e
    refine ⟨by simp, .inr ⟨lb, cap, cur.setIfInBounds k (.bool b), rfl, h1, ?_, h3, h4, by simp [h5], ?_⟩⟩
    · rw [setCell_eq_setRow w lb k _ 4 (0, 0) _ h2, setRow_heap w lb _ _ 4 _ h2]
    · rw [Array.toList_setIfInBounds, List.take_set, h6]
      apply List.ext_getElem
      · simp
      · intro i a1 a2
        have hi : i < n := by simpa using a2
        by_cases e : i = k
        · subst e; simp [upd]
        · simp [upd, e, List.getElem_set_ne (Ne.symm e)]
theorem bS.keep {w w' : World} {lb n cap : Nat} {W : Nat → Bool} (h : bS w (.slice (some ⟨lb, 0, none⟩) n cap) n W) (e : w'.heap[lb]? = w.heap[lb]?) : bS w' (.slice (some ⟨lb, 0, none⟩) n cap) n W :=
  ownsRow_keepB h fun k hk => by
    have : lb = k := by simpa [Value.ownBlock] using hk
    subst this
    exact e
theorem setCell_other (w : World) (g i k : Nat) (v : Value) (h : k ≠ g) : (w.setCell ⟨g, i, none⟩ v).heap[k]? = w.heap[k]? := Below.heap_setCell w ⟨g, i, none⟩ v k h
theorem setCell_size (w : World) (a : Addr) (v : Value) : (w.setCell a v).heap.size = w.heap.size := by simp [World.setCell]
theorem lt_of_cell {w : World} {a : Addr} {v : Value} (h : w.cell? a = some v) : a.block < w.heap.size := by
  rcases Nat.lt_or_ge a.block w.heap.size with hlt | hge
  · exact hlt
  · simp [World.cell?, Array.getElem?_eq_none hge] at h
theorem u8_info : (Tryz.prog.info? 5).map (fun i => (i.zero, i.size, i.bytes)) = some (some (.int .u8 0), 1, 1) := by kernel_rfl
theorem bool_info : (Tryz.prog.info? 4).map (fun i => (i.zero, i.size, i.bytes)) = some (some (.bool false), 1, 1) := by kernel_rfl
theorem string_info : (Tryz.prog.info? 9).map (fun i => (i.zero, i.size, i.bytes)) = some (some (.string ⟨#[]⟩), 1, 16) := by kernel_rfl
theorem make_zeros (n : Nat) (hn : n ≤ 281474976710656) (w : World) :
    (Instr.makeSlice 39 (.int .i64 (n : Int)) (.int .i64 (n : Int))).run Tryz.prog w = .ok (.slice (some ⟨w.heap.size, 0, none⟩) n n) (w.alloc (rowObj 5 (zeros n))) := by
  rw [run_make_row' (P := Tryz.prog) 39 5 (.int .u8 0) 1 Tryz.underlying39 u8_info rfl .i64 .i64 n (by omega) (by omega) w, madeCells_zeros]
  rfl
theorem string_rd (w : World) (A : Option Addr) (n c : Nat) (bs : List UInt8) (h : Rd w A n c bs) : (convert 39 9 (.slice A n c)).run Tryz.prog w = .ok (.string ⟨bs.toArray⟩) w :=
  run_string_rd w 39 9 5 Tryz.underlying39 Tryz.underlying5 Tryz.underlying9 A n c bs h
theorem bstep {a b c : World} (h : Below a.heap.size a b) (h' : Below b.heap.size b c) : Below a.heap.size a c := h.trans (h'.mono h.size)

theorem index_str (bs : List UInt8) (j x : Nat) (hj : j < bs.length) (hx : (bs.getD j 0).toNat = x) (W : World) : (Instr.index 9 (.string ⟨bs.toArray⟩) (.int .i64 (j : Int))).run Tryz.prog W = .ok (.int .u8 (x : Int)) W := by
  have h1 : j < (⟨bs.toArray⟩ : ByteArray).size := by simpa [ByteArray.size] using hj
  rw [run_index_string W 9 _ .i64 (j : Int) Tryz.underlying9, dif_pos ⟨by omega, by omega⟩]
  have h2 : ((⟨bs.toArray⟩ : ByteArray)[j]).toNat = x := by
    rw [← hx, getD_get bs j hj]
    rfl
  simp [h2]
/-! ### the pages by the document -/
end Go.Proofs.YtephmcbofcfpmaaGreat.Rp

