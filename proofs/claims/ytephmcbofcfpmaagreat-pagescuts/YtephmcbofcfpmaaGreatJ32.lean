/- Rows of texts and of bools; numbers divided. Conditions: none. The document's pages: Map, Is, Used. Conditions: none. -/
import Derived.Test.YtephmcbofcfpmaaGreatJ02
import Derived.Test.YtephmcbofcfpmaaGreatProg
import Derived.WalkKit
import Derived.Deep.QuietTactic
import Derived.BigQuiet
import Derived.StillTailTactics
import Derived.Deep.RegionHeld3
import Derived.Deep.AppendLies
set_option maxRecDepth 8000
set_option linter.unusedSimpArgs false
set_option linter.unusedVariables false
namespace Go.Proofs.YtephmcbofcfpmaaGreat.Rp
open Go.RowKit Go.Bs Go.Dk

theorem mixed : Tryz.prog.follows .mixedOrders = true := by kernel_rfl
theorem div_run (a b : Nat) (hb : 1 ≤ b) (ha : a ≤ 1000000000000) (W : World) : (Op.intDiv .quo .i64 (a : Int) (b : Int)).run Tryz.prog W = .ok (.int .i64 ((a / b : Nat) : Int)) W := by
  have h1 : ¬ (b = 0) := by omega
  have h0 : a / b ≤ a := Nat.div_le_self _ _
  have h2 : IntKind.i64.wrap ((a : Int) / (b : Int)) = (a : Int) / (b : Int) := by
    obtain ⟨q, hq⟩ : ∃ q, a / b = q := ⟨_, rfl⟩
    have e : (a : Int) / (b : Int) = (q : Int) := by rw [← hq]; simp
    rw [hq] at h0
    rw [e]
    exact IntWalk.i64_in _ (by omega)
  simp [Op.intDiv, h1, h2]
theorem rem_run (a b : Nat) (hb : 1 ≤ b) (ha : a ≤ 1000000000000) (W : World) : (Op.intDiv .rem .i64 (a : Int) (b : Int)).run Tryz.prog W = .ok (.int .i64 ((a % b : Nat) : Int)) W := by
  have h1 : ¬ (b = 0) := by omega
  have h2 : (a : Int).tmod (b : Int) = ((a % b : Nat) : Int) := rfl
  simp [Op.intDiv, h1, h2]
theorem ownsRow_keepB {w w' : World} {base e size n : Nat} {v : Value} {xs : List Value} (h : w.ownsRow base e size v n xs) (hk : ∀ k, v.ownBlock = some k → w'.heap[k]? = w.heap[k]?) : w'.ownsRow base e size v n xs := by
  refine ⟨h.1, ?_⟩
  rcases h.2 with h0 | ⟨g, cap, cur, e1, e2, e3, e4⟩
  · exact .inl h0
  · exact .inr ⟨g, cap, cur, e1, e2, (hk g (by rw [e1]; rfl)).trans e3, e4⟩
/-- a row of texts. -/
def lS (w : World) (Lv : Value) (n : Nat) (L : Nat → List UInt8) : Prop := w.ownsRow 0 9 1 Lv n ((List.range n).map fun k => .string ⟨(L k).toArray⟩)
theorem lS.form {w : World} {Lv : Value} {n : Nat} {L : Nat → List UInt8} (h : lS w Lv n L) (hn : 0 < n) : ∃ lb cap, Lv = .slice (some ⟨lb, 0, none⟩) n cap ∧ n ≤ cap ∧ lb < w.heap.size ∧ (∀ k, k < n → w.cell? ⟨lb, k, none⟩ = some (.string ⟨(L k).toArray⟩)) ∧ (∀ k, w.frozen? ⟨lb, k, none⟩ = false) := by
  rcases h.2 with ⟨_, h0⟩ | ⟨lb, cap, cur, e, _, h2, h3, _⟩
  · omega
  · refine ⟨lb, cap, e, h3, (Array.getElem?_eq_some_iff.1 h2).1, fun k hk => ?_, fun k => by simp [World.frozen?, h2]⟩
    have hc := h.cells (g := lb) (by rw [e]; rfl) k (.string ⟨(L k).toArray⟩) (by simp [hk])
    rwa [addr_add, Nat.zero_add] at hc
theorem lS.set {w : World} {n cap lb : Nat} {L : Nat → List UInt8} (h : lS w (.slice (some ⟨lb, 0, none⟩) n cap) n L) (k : Nat) (hk : k < n) (bs : List UInt8) : lS (w.setCell ⟨lb, k, none⟩ (.string ⟨bs.toArray⟩)) (.slice (some ⟨lb, 0, none⟩) n cap) n (upd L k bs) := by
  rcases h.2 with ⟨e, _⟩ | ⟨lb', cap', cur, e, h1, h2, h3, h4, h5, h6⟩
  · cases e
  · cases e
    refine ⟨by simp, .inr ⟨lb, cap, cur.setIfInBounds k (.string ⟨bs.toArray⟩), rfl, h1, ?_, h3, h4, by simp [h5], ?_⟩⟩
    · rw [setCell_eq_setRow w lb k _ 9 (0, 0) _ h2, setRow_heap w lb _ _ 9 _ h2]
    · rw [Array.toList_setIfInBounds, List.take_set, h6]
      apply List.ext_getElem
      · simp
      · intro i a1 a2
        have hi : i < n := by simpa using a2
        by_cases e : i = k
        · subst e; simp [upd]
        · simp [upd, e, List.getElem_set_ne (Ne.symm e)]
theorem lS.keep {w w' : World} {lb n cap : Nat} {L : Nat → List UInt8} (h : lS w (.slice (some ⟨lb, 0, none⟩) n cap) n L) (e : w'.heap[lb]? = w.heap[lb]?) : lS w' (.slice (some ⟨lb, 0, none⟩) n cap) n L :=
  ownsRow_keepB h fun k hk => by
    have : lb = k := by simpa [Value.ownBlock] using hk
    subst this
    exact e
theorem lS.congr {w : World} {Lv : Value} {n : Nat} {L L' : Nat → List UInt8} (h : lS w Lv n L) (e : ∀ k, k < n → L k = L' k) : lS w Lv n L' := by
  have : ((List.range n).map fun k => Value.string ⟨(L k).toArray⟩) = ((List.range n).map fun k => Value.string ⟨(L' k).toArray⟩) := List.map_congr_left fun k hk => by rw [e k (List.mem_range.1 hk)]
  unfold lS at h ⊢
  rw [← this]
  exact h
/-- a row of bools. -/
def bS (w : World) (Wv : Value) (n : Nat) (W : Nat → Bool) : Prop := w.ownsRow 0 4 1 Wv n ((List.range n).map fun k => .bool (W k))
theorem bS.form {w : World} {Wv : Value} {n : Nat} {W : Nat → Bool} (h : bS w Wv n W) (hn : 0 < n) : ∃ lb cap, Wv = .slice (some ⟨lb, 0, none⟩) n cap ∧ n ≤ cap ∧ lb < w.heap.size ∧ (∀ k, k < n → w.cell? ⟨lb, k, none⟩ = some (.bool (W k))) ∧ (∀ k, w.frozen? ⟨lb, k, none⟩ = false) := by
  rcases h.2 with ⟨_, h0⟩ | ⟨lb, cap, cur, e, _, h2, h3, _⟩
  · omega
  · refine ⟨lb, cap, e, h3, (Array.getElem?_eq_some_iff.1 h2).1, fun k hk => ?_, fun k => by simp [World.frozen?, h2]⟩
    have hc := h.cells (g := lb) (by rw [e]; rfl) k (.bool (W k)) (by simp [hk])
    rwa [addr_add, Nat.zero_add] at hc
theorem bS.set {w : World} {n cap lb : Nat} {W : Nat → Bool} (h : bS w (.slice (some ⟨lb, 0, none⟩) n cap) n W) (k : Nat) (hk : k < n) (b : Bool) : bS (w.setCell ⟨lb, k, none⟩ (.bool b)) (.slice (some ⟨lb, 0, none⟩) n cap) n (upd W k b) := by
  rcases h.2 with ⟨e, _⟩ | ⟨lb', cap', cur, e, h1, h2, h3, h4, h5, h6⟩
  · cases e
  · cases e
    refine ⟨by simp, .inr ⟨lb, cap, cur.setIfInBounds k (.bool b), rfl, h1, ?_, h3, h4, by simp [h5], ?_⟩⟩
    · rw [setCell_eq_setRow w lb k _ 4 (0, 0) _ h2, setRow_heap w lb _ _ 4 _ h2]
    · rw [Array.toList_setIfInBounds, List.take_set, h6]
      apply List.ext_getElem
      · simp
      · intro i a1 a2
        have hi : i < n := by simpa using a2
        by_cases e : i = k
        · subst e; simp [upd]
        · simp [upd, e, List.getElem_set_ne (Ne.symm e)]
theorem bS.keep {w w' : World} {lb n cap : Nat} {W : Nat → Bool} (h : bS w (.slice (some ⟨lb, 0, none⟩) n cap) n W) (e : w'.heap[lb]? = w.heap[lb]?) : bS w' (.slice (some ⟨lb, 0, none⟩) n cap) n W :=
  ownsRow_keepB h fun k hk => by
    have : lb = k := by simpa [Value.ownBlock] using hk
    subst this
    exact e
theorem setCell_other (w : World) (g i k : Nat) (v : Value) (h : k ≠ g) : (w.setCell ⟨g, i, none⟩ v).heap[k]? = w.heap[k]? := Below.heap_setCell w ⟨g, i, none⟩ v k h
theorem setCell_size (w : World) (a : Addr) (v : Value) : (w.setCell a v).heap.size = w.heap.size := by simp [World.setCell]
theorem lt_of_cell {w : World} {a : Addr} {v : Value} (h : w.cell? a = some v) : a.block < w.heap.size := by
  rcases Nat.lt_or_ge a.block w.heap.size with hlt | hge
  · exact hlt
  · simp [World.cell?, Array.getElem?_eq_none hge] at h
theorem u8_info : (Tryz.prog.info? 5).map (fun i => (i.zero, i.size, i.bytes)) = some (some (.int .u8 0), 1, 1) := by kernel_rfl
theorem bool_info : (Tryz.prog.info? 4).map (fun i => (i.zero, i.size, i.bytes)) = some (some (.bool false), 1, 1) := by kernel_rfl
theorem string_info : (Tryz.prog.info? 9).map (fun i => (i.zero, i.size, i.bytes)) = some (some (.string ⟨#[]⟩), 1, 16) := by kernel_rfl
theorem make_zeros (n : Nat) (hn : n ≤ 281474976710656) (w : World) :
    (Instr.makeSlice 39 (.int .i64 (n : Int)) (.int .i64 (n : Int))).run Tryz.prog w = .ok (.slice (some ⟨w.heap.size, 0, none⟩) n n) (w.alloc (rowObj 5 (zeros n))) := by
  rw [run_make_row' (P := Tryz.prog) 39 5 (.int .u8 0) 1 Tryz.underlying39 u8_info rfl .i64 .i64 n (by omega) (by omega) w, madeCells_zeros]
  rfl
theorem string_rd (w : World) (A : Option Addr) (n c : Nat) (bs : List UInt8) (h : Rd w A n c bs) : (convert 39 9 (.slice A n c)).run Tryz.prog w = .ok (.string ⟨bs.toArray⟩) w :=
  run_string_rd w 39 9 5 Tryz.underlying39 Tryz.underlying5 Tryz.underlying9 A n c bs h
theorem bstep {a b c : World} (h : Below a.heap.size a b) (h' : Below b.heap.size b c) : Below a.heap.size a c := h.trans (h'.mono h.size)

theorem index_str (bs : List UInt8) (j x : Nat) (hj : j < bs.length) (hx : (bs.getD j 0).toNat = x) (W : World) : (Instr.index 9 (.string ⟨bs.toArray⟩) (.int .i64 (j : Int))).run Tryz.prog W = .ok (.int .u8 (x : Int)) W := by
  have h1 : j < (⟨bs.toArray⟩ : ByteArray).size := by simpa [ByteArray.size] using hj
  rw [run_index_string W 9 _ .i64 (j : Int) Tryz.underlying9, dif_pos ⟨by omega, by omega⟩]
  have h2 : ((⟨bs.toArray⟩ : ByteArray)[j]).toNat = x := by
    rw [← hx, getD_get bs j hj]
    rfl
  simp [h2]
/-! ### the pages by the document -/
end Go.Proofs.YtephmcbofcfpmaaGreat.Rp

set_option maxRecDepth 8000
set_option linter.unusedSimpArgs false
set_option linter.unusedVariables false
namespace Go.Proofs.YtephmcbofcfpmaaGreat.Rp
open Go.RowKit Go.Bs Go.Dk

def pc (N B M Log : Nat) (Lv : Value) : Array Value := #[.int .i64 (N : Int), .int .i64 (B : Int), .int .i64 (M : Int), .int .i64 (Log : Int), Lv]
theorem pc_cells {w : World} {r N B M Log : Nat} {Lv : Value} (h : w.heap[r]? = some (.cells (pc N B M Log Lv) 59 (0, 0))) :
    w.cell? ⟨r, 0, none⟩ = some (.int .i64 (N : Int)) ∧ w.cell? ⟨r, 1, none⟩ = some (.int .i64 (B : Int)) ∧ w.cell? ⟨r, 2, none⟩ = some (.int .i64 (M : Int)) ∧ w.cell? ⟨r, 3, none⟩ = some (.int .i64 (Log : Int)) ∧ w.cell? ⟨r, 4, none⟩ = some Lv ∧ ∀ i, w.frozen? ⟨r, i, none⟩ = false := by
  refine ⟨?_, ?_, ?_, ?_, ?_, fun i => by simp [World.frozen?, h]⟩ <;> (rw [cell_of_row w r _ _ 59 (0, 0) h]; rfl)

theorem Map_any (w : World) (n b : Nat) (hb : 1 ≤ b) (hb1 : b ≤ 100000) (hn : n ≤ 100000) : Calls Tryz.prog 55 #[.int .i64 (n : Int), .int .i64 (b : Int)] w fun e w' => e = .returned (.int .i64 (((n + 8 * b - 1) / (8 * b) : Nat) : Int)) ∧ w = w' := by
  obtain ⟨q, hq⟩ : ∃ q, (n + 8 * b - 1) / (8 * b) = q := ⟨_, rfl⟩
  have hcast : ((n : Int) + 8 * (b : Int) - 1) / (8 * (b : Int)) = (q : Int) := by
    rw [← hq, Int.natCast_ediv]
    congr 1
    omega
  rw [hq]
  have HC := Lib.hid hcast
  clear hq hcast
  go_enter Tryz.func55, Tryz.ntmps55
  go_wp2
  go_ret
  exact ⟨by rw [← HC.out]; rfl, rfl⟩
theorem Is_any (w : World) (r N B M Log : Nat) (Lv : Value) (h : w.heap[r]? = some (.cells (pc N B M Log Lv) 59 (0, 0))) (p : Int) :
    Calls Tryz.prog 65 #[.pointer (some ⟨r, 0, none⟩), .int .i64 p] w fun e w' => e = .returned (.bool (decide ((M : Int) < p) && decide (p < (N : Int)))) ∧ w = w' := by
  obtain ⟨c0, _, c2, _⟩ := pc_cells h
  clear h
  by_cases h1 : (M : Int) < p
  · by_cases h2 : p < (N : Int)
    · go_enter Tryz.func65, Tryz.ntmps65
      go_wp2
      go_ret
      exact ⟨by simp [h1, h2], rfl⟩
    · go_enter Tryz.func65, Tryz.ntmps65
      go_wp2
      go_ret
      exact ⟨by simp [h1, h2], rfl⟩
  · go_enter Tryz.func65, Tryz.ntmps65
    go_wp2
    go_ret
    exact ⟨by simp; omega, rfl⟩
set_option maxHeartbeats 2000000 in
theorem Used_any (w : World) (r N B M Log : Nat) (Lr : Value) (h : w.heap[r]? = some (.cells (pc N B M Log Lr) 59 (0, 0))) (Lv : Value) (L : Nat → List UInt8) (hL : lS w Lv N L) (hD : Dm N B M L) (p : Int) :
    Calls Tryz.prog 66 #[.pointer (some ⟨r, 0, none⟩), Lv, .int .i64 p] w fun e w' => e = .returned (.bool (usedP N B M L p)) ∧ ∃ k, w' = w.drewN k := by
  have HI := Lib.hid (Is_any w r N B M Log Lr h p)
  obtain ⟨_, c1, _⟩ := pc_cells h
  unfold usedP
  by_cases hp : (M : Int) < p ∧ p < (N : Int)
  · have hib : (decide ((M : Int) < p) && decide (p < (N : Int))) = true := by simp; exact hp
    rw [hib] at HI ⊢
    obtain ⟨q, rfl⟩ : ∃ q : Nat, p = q := ⟨p.toNat, by omega⟩
    rw [Int.toNat_natCast]
    have hb0 := hD.b0
    have hb1 := hD.b1
    have hn1 := hD.n1
    have hqN : q < N := by omega
    have hat := hD.at hqN
    have hmn := hD.mn
    obtain ⟨lb, cap, rfl, hcap, hlb, hcell, _⟩ := hL.form (by omega)
    obtain ⟨a, ha⟩ : ∃ a, q / 8 = a := ⟨_, rfl⟩
    have hal : a ≤ 100000 := by omega
    have hd1 := div_run a B (by omega) (by omega)
    have hd2 := rem_run a B (by omega) (by omega)
    have hrl : a % B < B := Nat.mod_lt _ (by omega)
    have hbitdef : bitP B L q = (((L (a / B)).getD (a % B) 0).toNat / 2 ^ (q % 8) % 2 == 1) := by unfold bitP; rw [ha]
    rw [ha] at hat
    obtain ⟨i, hi⟩ : ∃ i, a / B = i := ⟨_, rfl⟩
    obtain ⟨j, hj⟩ : ∃ j, a % B = j := ⟨_, rfl⟩
    rw [hi] at hd1 hat hbitdef
    rw [hj] at hd2 hrl hbitdef
    have hci := hcell i (by omega)
    have hlen := hD.len i (by omega)
    obtain ⟨bs, hbs⟩ : ∃ bs, L i = bs := ⟨_, rfl⟩
    rw [hbs] at hci hlen hbitdef
    obtain ⟨x, hx, hxl⟩ : ∃ x : Nat, (bs.getD j 0).toNat = x ∧ x < 256 := ⟨_, rfl, (bs.getD j 0).toNat_lt⟩
    rw [hx] at hbitdef
    rw [hbitdef]
    obtain ⟨e, he⟩ : ∃ e, q % 8 = e := ⟨_, rfl⟩
    have hel : e < 8 := by omega
    rw [he]
    have HP := Lib.hid hp
    have hqa : (q : Int) / 8 = (a : Int) := by omega
    have hB0 : ¬ B = 0 := by omega
    have hwd : IntKind.i64.wrap (((q : Int) / 8).tdiv (B : Int)) = (i : Int) := by
      rw [hqa, show (a : Int).tdiv (B : Int) = ((a / B : Nat) : Int) from rfl, hi]
      exact IntWalk.i64_in _ (by omega)
    have hwr : ((q : Int) / 8).tmod (B : Int) = (j : Int) := by
      rw [hqa, show (a : Int).tmod (B : Int) = ((a % B : Nat) : Int) from rfl, hj]
    have hwr' : IntKind.i64.wrap (j : Int) = (j : Int) := IntWalk.i64_in _ (by omega)
    clear hd1 hd2
    have hiN : i < N := by omega
    have hidx := index_str bs j x (by omega) hx
    clear hx
    have hx64 : IntKind.i64.wrap (x : Int) = x := IntWalk.i64_in _ (by omega)
    have hjb : (j : Int) < (bs.length : Int) := by omega
    clear ha hi hj hqa
    clear h hL hD hcell hp hib hbitdef
    go_enter Tryz.func66, Tryz.ntmps66
    go_wp2_with fail
    refine HI.out.mono ?_
    rintro e w1 ⟨rfl, rfl⟩
    go_wp2_with fail
    go_quiet (fail)
    go_wp2
    have hqe : (q : Int) % 8 = (e : Int) := by omega
    clear hwd hwr hwr' hidx hx64 hci
    go_loopw [9, 8] (fun k v wr => ∃ i : Nat, i ≤ e ∧ k = .int .i64 i ∧ v = .int .i64 ((x / 2 ^ i : Nat) : Int) ∧ wr = w.drewN nq) (fun k _ _ => e - (RowKit.intOf k).toNat)
    case atStart => exact ⟨0, Nat.zero_le _, rfl, by simp, rfl⟩
    case round =>
      obtain ⟨k, hk, rfl, rfl, rfl⟩ := hrel
      obtain ⟨y, hy⟩ : ∃ y, x / 2 ^ k = y := ⟨_, rfl⟩
      have hyl : y < 256 := by rw [← hy]; exact Nat.lt_of_le_of_lt (Nat.div_le_self _ _) hxl
      have hy2 : x / 2 ^ (k + 1) = y / 2 := by rw [← hy, Nat.pow_succ, Nat.div_div_eq_div_mul]
      rw [hy]
      by_cases hlt : k < e
      · have HY := Lib.hid hy2
        clear hy hy2
        go_wp2
        go_roundw
        case rel => exact ⟨k + 1, by omega, by go_num, by rw [HY.out]; go_num, by trivial⟩
        case measure => simp [RowKit.intOf]; omega
      · obtain rfl : k = e := by omega
        have HYE := Lib.hid hy
        clear hy hy2
        by_cases h2 : y % 2 = 1
        · have h2' : (y : Int) % 2 = 1 := by omega
          go_wp2
          go_ret
          exact ⟨by rw [HYE.out]; simp [h2], _, rfl⟩
        · have h2' : (y : Int) % 2 = 0 := by omega
          go_wp2
          go_ret
          exact ⟨by rw [HYE.out]; simp [h2], _, rfl⟩
  · have hib : (decide ((M : Int) < p) && decide (p < (N : Int))) = false := by simp; omega
    rw [hib] at HI ⊢
    clear h hL hD hp hib
    go_enter Tryz.func66, Tryz.ntmps66
    go_wp2_with fail
    refine HI.out.mono ?_
    rintro e w1 ⟨rfl, rfl⟩
    go_wp2
    go_ret
    exact ⟨rfl, 0, rfl⟩
end Go.Proofs.YtephmcbofcfpmaaGreat.Rp

