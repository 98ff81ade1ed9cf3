/- The document's pages and a transaction, in memory; the root's page. Conditions: none. The document's transactions: Read, Write. Conditions: none. -/
import Derived.Test.YtephmcbofcfpmaaGreatJ36
set_option maxRecDepth 8000
set_option linter.unusedSimpArgs false
set_option linter.unusedVariables false
namespace Go.Proofs.YtephmcbofcfpmaaGreat.Rp
open Go.RowKit Go.Bs Go.Dk

def tc (r : Nat) (Lv Wv : Value) (root done : Bool) : Array Value := #[.pointer (some ⟨r, 0, none⟩), Lv, Wv, .bool root, .bool done]
theorem tc_cells {w : World} {t r : Nat} {Lv Wv : Value} {root done : Bool} (h : w.heap[t]? = some (.cells (tc r Lv Wv root done) 56 (0, 0))) :
    w.cell? ⟨t, 0, none⟩ = some (.pointer (some ⟨r, 0, none⟩)) ∧ w.cell? ⟨t, 1, none⟩ = some Lv ∧ w.cell? ⟨t, 2, none⟩ = some Wv ∧ w.cell? ⟨t, 3, none⟩ = some (.bool root) ∧ w.cell? ⟨t, 4, none⟩ = some (.bool done) ∧ ∀ i, w.frozen? ⟨t, i, none⟩ = false := by
  refine ⟨?_, ?_, ?_, ?_, ?_, fun i => by simp [World.frozen?, h]⟩ <;> (rw [cell_of_row w t _ _ 56 (0, 0) h]; rfl)
theorem tc_set {w : World} {t r : Nat} {Lv Wv : Value} {root done : Bool} (h : w.heap[t]? = some (.cells (tc r Lv Wv root done) 56 (0, 0))) (i : Nat) (v : Value) (Lv' Wv' : Value) (root' done' : Bool) (e : (tc r Lv Wv root done).setIfInBounds i v = tc r Lv' Wv' root' done') :
    (w.setCell ⟨t, i, none⟩ v).heap[t]? = some (.cells (tc r Lv' Wv' root' done') 56 (0, 0)) := by
  rw [setCell_eq_setRow w t i _ 56 (0, 0) v h, setRow_heap w t _ _ 56 _ h, e]
theorem pc_set {w : World} {r N B M Log : Nat} {Lv : Value} (h : w.heap[r]? = some (.cells (pc N B M Log Lv) 59 (0, 0))) (v : Value) :
    (w.setCell ⟨r, 4, none⟩ v).heap[r]? = some (.cells (pc N B M Log v) 59 (0, 0)) := by
  rw [setCell_eq_setRow w r 4 _ 59 (0, 0) v h, setRow_heap w r _ _ 59 _ h]
  rfl
def sl (b n c : Nat) : Value := .slice (some ⟨b, 0, none⟩) n c
structure PT (w : World) (r t N B M Log : Nat) (L : Nat → List UInt8) (T : TX) (D : Nat → Prop) (lb cap lt capt wb capw : Nat) : Prop where
  rowP : w.heap[r]? = some (.cells (pc N B M Log (sl lb N cap)) 59 (0, 0))
  rowT : w.heap[t]? = some (.cells (tc r (sl lt N capt) (sl wb N capw) T.root T.done) 56 (0, 0))
  lP : lS w (sl lb N cap) N L
  lT : lS w (sl lt N capt) N T.L
  bW : bS w (sl wb N capw) N T.W
  ne : lb ≠ lt
  dP : Dm N B M L
  dT : Dm N B M T.L
  inD : D r ∧ D t ∧ D lb ∧ D lt ∧ D wb
  blw : ∀ k, D k → k < w.heap.size
def PTAt (w : World) (r t N B M Log : Nat) (L : Nat → List UInt8) (T : TX) (D : Nat → Prop) : Prop := ∃ lb cap lt capt wb capw, PT w r t N B M Log L T D lb cap lt capt wb capw
theorem lS.blk {w : World} {lb n c : Nat} {L : Nat → List UInt8} (h : lS w (sl lb n c) n L) (hn : 0 < n) : ∃ cur, w.heap[lb]? = some (.cells cur 9 (0, 0)) := by
  rcases h.2 with ⟨e, h0⟩ | ⟨g, cap, cur, e, _, h2, _⟩
  · cases e
  · cases e; exact ⟨cur, h2⟩
theorem bS.blk {w : World} {lb n c : Nat} {W : Nat → Bool} (h : bS w (sl lb n c) n W) (hn : 0 < n) : ∃ cur, w.heap[lb]? = some (.cells cur 4 (0, 0)) := by
  rcases h.2 with ⟨e, h0⟩ | ⟨g, cap, cur, e, _, h2, _⟩
  · cases e
  · cases e; exact ⟨cur, h2⟩
/-- the blocks are apart. -/
theorem PT.apart {w : World} {r t N B M Log : Nat} {L : Nat → List UInt8} {T : TX} {D : Nat → Prop} {lb cap lt capt wb capw : Nat} (h : PT w r t N B M Log L T D lb cap lt capt wb capw) :
    r ≠ t ∧ r ≠ lb ∧ r ≠ lt ∧ r ≠ wb ∧ t ≠ lb ∧ t ≠ lt ∧ t ≠ wb ∧ lb ≠ wb ∧ lt ≠ wb := by
  have hN : 0 < N := by have := h.dP.mn; omega
  obtain ⟨c1, h1⟩ := h.lP.blk hN
  obtain ⟨c2, h2⟩ := h.lT.blk hN
  obtain ⟨c3, h3⟩ := h.bW.blk hN
  have hp := h.rowP
  have ht := h.rowT
  refine ⟨?_, ?_, ?_, ?_, ?_, ?_, ?_, ?_, ?_⟩ <;> (intro e; subst e; simp_all)
theorem PT.keepW {w w' : World} {r t N B M Log : Nat} {L : Nat → List UInt8} {T : TX} {D : Nat → Prop} {lb cap lt capt wb capw : Nat} (h : PT w r t N B M Log L T D lb cap lt capt wb capw) (hs : w.heap.size ≤ w'.heap.size) (hk : ∀ k, D k → w'.heap[k]? = w.heap[k]?) : PT w' r t N B M Log L T D lb cap lt capt wb capw :=
  ⟨(hk r h.inD.1).trans h.rowP, (hk t h.inD.2.1).trans h.rowT, lS.keep h.lP (hk lb h.inD.2.2.1), lS.keep h.lT (hk lt h.inD.2.2.2.1), bS.keep h.bW (hk wb h.inD.2.2.2.2), h.ne, h.dP, h.dT, h.inD, fun k hd => Nat.lt_of_lt_of_le (h.blw k hd) hs⟩
theorem PTAt.keep {w w' : World} {r t N B M Log : Nat} {L : Nat → List UInt8} {T : TX} {D : Nat → Prop} (h : PTAt w r t N B M Log L T D) (hs : w.heap.size ≤ w'.heap.size) (hk : ∀ k, D k → w'.heap[k]? = w.heap[k]?) : PTAt w' r t N B M Log L T D := by
  obtain ⟨lb, cap, lt, capt, wb, capw, h⟩ := h
  exact ⟨lb, cap, lt, capt, wb, capw, h.keepW hs hk⟩
theorem PTAt.blw {w : World} {r t N B M Log : Nat} {L : Nat → List UInt8} {T : TX} {D : Nat → Prop} (h : PTAt w r t N B M Log L T D) : ∀ k, D k → k < w.heap.size := by
  obtain ⟨lb, cap, lt, capt, wb, capw, h⟩ := h; exact h.blw
theorem PTAt.below {w w' : World} {r t N B M Log : Nat} {L : Nat → List UInt8} {T : TX} {D : Nat → Prop} (h : PTAt w r t N B M Log L T D) (hb : Below w.heap.size w w') : PTAt w' r t N B M Log L T D := h.keep hb.size fun k hd => hb.block k (h.blw k hd)
/-- what a call leaves. -/
def PDid (D : Nat → Prop) (r t N B M Log : Nat) (L : Nat → List UInt8) (T : TX) (w w' : World) : Prop := ∃ D', PTAt w' r t N B M Log L T D' ∧ (∀ k, D' k → D k ∨ w.heap.size ≤ k) ∧ Fr D w w'
theorem PDid.still {D : Nat → Prop} {r t N B M Log : Nat} {L : Nat → List UInt8} {T : TX} {w w' : World} (h : PTAt w r t N B M Log L T D) (hb : Below w.heap.size w w') : PDid D r t N B M Log L T w w' := ⟨D, h.below hb, fun _ h => .inl h, Fr.of hb⟩

theorem drewN2 (w : World) (a b : Nat) : ∃ k, (w.drewN a).drewN b = w.drewN k := ⟨a + b, by simp [World.drewN, Nat.add_assoc]⟩
set_option maxHeartbeats 2000000 in
theorem At_any (w : World) (r t N B M Log : Nat) (L : Nat → List UInt8) (T : TX) (D : Nat → Prop) (h : PTAt w r t N B M Log L T D) :
    Calls Tryz.prog 33 #[.pointer (some ⟨t, 0, none⟩)] w fun e w' => e = .returned (.int .i64 (le32 (T.L M) : Int)) ∧ ∃ k, w' = w.drewN k := by
  obtain ⟨lb, cap, lt, capt, wb, capw, h⟩ := h
  obtain ⟨d0, d1, _⟩ := tc_cells h.rowT
  obtain ⟨_, _, c2, _⟩ := pc_cells h.rowP
  have hb0 := h.dT.b0
  have hmn := h.dT.mn
  obtain ⟨lt', capt', e, hcap, hlt, hcell, _⟩ := lS.form h.lT (by omega)
  cases e
  have hlen := h.dT.len M (by omega)
  have hcm := hcell M (by omega)
  have hMN : M < N := by omega
  have hMl : M ≤ 100000 := by have := h.dT.n1; omega
  obtain ⟨bs, hbs⟩ : ∃ bs, T.L M = bs := ⟨_, rfl⟩
  rw [hbs] at hlen hcm ⊢
  have i0 := index_str bs 0 _ (by omega) rfl
  have i1 := index_str bs 1 _ (by omega) rfl
  have i2 := index_str bs 2 _ (by omega) rfl
  have i3 := index_str bs 3 _ (by omega) rfl
  unfold le32
  obtain ⟨x0, hx0, l0⟩ : ∃ x : Nat, (bs.getD 0 0).toNat = x ∧ x < 256 := ⟨_, rfl, (bs.getD 0 0).toNat_lt⟩
  obtain ⟨x1, hx1, l1⟩ : ∃ x : Nat, (bs.getD 1 0).toNat = x ∧ x < 256 := ⟨_, rfl, (bs.getD 1 0).toNat_lt⟩
  obtain ⟨x2, hx2, l2⟩ : ∃ x : Nat, (bs.getD 2 0).toNat = x ∧ x < 256 := ⟨_, rfl, (bs.getD 2 0).toNat_lt⟩
  obtain ⟨x3, hx3, l3⟩ : ∃ x : Nat, (bs.getD 3 0).toNat = x ∧ x < 256 := ⟨_, rfl, (bs.getD 3 0).toNat_lt⟩
  rw [hx0] at i0; rw [hx1] at i1; rw [hx2] at i2; rw [hx3] at i3
  rw [hx0, hx1, hx2, hx3]
  have i0' : ∀ W, (Instr.index 9 (.string ⟨bs.toArray⟩) (.int .i64 0)).run Tryz.prog W = .ok (.int .u8 (x0 : Int)) W := i0
  have i1' : ∀ W, (Instr.index 9 (.string ⟨bs.toArray⟩) (.int .i64 1)).run Tryz.prog W = .ok (.int .u8 (x1 : Int)) W := i1
  have i2' : ∀ W, (Instr.index 9 (.string ⟨bs.toArray⟩) (.int .i64 2)).run Tryz.prog W = .ok (.int .u8 (x2 : Int)) W := i2
  have i3' : ∀ W, (Instr.index 9 (.string ⟨bs.toArray⟩) (.int .i64 3)).run Tryz.prog W = .ok (.int .u8 (x3 : Int)) W := i3
  have w0 : IntKind.i64.wrap (x0 : Int) = x0 := IntWalk.i64_in _ (by omega)
  have w1 : IntKind.i64.wrap (x1 : Int) = x1 := IntWalk.i64_in _ (by omega)
  have w2 : IntKind.i64.wrap (x2 : Int) = x2 := IntWalk.i64_in _ (by omega)
  have w3 : IntKind.i64.wrap (x3 : Int) = x3 := IntWalk.i64_in _ (by omega)
  have v1 : IntKind.i64.wrap (256 * (x1 : Int)) = 256 * (x1 : Int) := IntWalk.i64_in _ (by omega)
  have v2 : IntKind.i64.wrap (65536 * (x2 : Int)) = 65536 * (x2 : Int) := IntWalk.i64_in _ (by omega)
  have v3 : IntKind.i64.wrap (16777216 * (x3 : Int)) = 16777216 * (x3 : Int) := IntWalk.i64_in _ (by omega)
  have u1 : IntKind.i64.wrap ((x0 : Int) + 256 * (x1 : Int)) = (x0 : Int) + 256 * (x1 : Int) := IntWalk.i64_in _ (by omega)
  have u2 : IntKind.i64.wrap ((x0 : Int) + 256 * (x1 : Int) + 65536 * (x2 : Int)) = (x0 : Int) + 256 * (x1 : Int) + 65536 * (x2 : Int) := IntWalk.i64_in _ (by omega)
  have u3 : IntKind.i64.wrap ((x0 : Int) + 256 * (x1 : Int) + 65536 * (x2 : Int) + 16777216 * (x3 : Int)) = (x0 : Int) + 256 * (x1 : Int) + 65536 * (x2 : Int) + 16777216 * (x3 : Int) := IntWalk.i64_in _ (by omega)
  have d1' : w.cell? ⟨t, 1, none⟩ = some (.slice (some ⟨lt, 0, none⟩) N capt) := d1
  clear h hcell hx0 hx1 hx2 hx3 i0 i1 i2 i3 hbs d1
  go_enter Tryz.func33, Tryz.ntmps33
  go_wp2_with fail
  go_quiet (fail)
  go_wp2_with fail
  go_quiet (fail)
  go_wp2
  go_ret
  refine ⟨?_, drewN2 _ _ _⟩
  simp
end Go.Proofs.YtephmcbofcfpmaaGreat.Rp

set_option maxRecDepth 8000
set_option linter.unusedSimpArgs false
set_option linter.unusedVariables false
namespace Go.Proofs.YtephmcbofcfpmaaGreat.Rp
open Go.RowKit Go.Bs Go.Dk

theorem PT.used {w : World} {r t N B M Log : Nat} {L : Nat → List UInt8} {T : TX} {D : Nat → Prop} {lb cap lt capt wb capw : Nat} (h : PT w r t N B M Log L T D lb cap lt capt wb capw) (p : Int) :
    ∀ n, Calls Tryz.prog 66 #[.pointer (some ⟨r, 0, none⟩), .slice (some ⟨lt, 0, none⟩) N capt, .int .i64 p] (w.drewN n) fun e w' => e = .returned (.bool (usedP N B M T.L p)) ∧ ∃ k, w' = w.drewN k := fun n => by
  refine (Used_any (w.drewN n) r N B M Log _ h.rowP _ T.L (lS.keep h.lT rfl) h.dT p).mono ?_
  rintro e w' ⟨rfl, k, rfl⟩
  exact ⟨rfl, drewN2 _ _ _⟩
set_option maxHeartbeats 2000000 in
theorem Read_any (w : World) (r t N B M Log : Nat) (L : Nat → List UInt8) (T : TX) (D : Nat → Prop) (h : PTAt w r t N B M Log L T D) (p : Int) :
    Calls Tryz.prog 24 #[.pointer (some ⟨t, 0, none⟩), .int .i64 p] w fun e w' => e = .returned (.tuple #[.string ⟨(T.read N B M p).1.toArray⟩, .int .i64 (T.read N B M p).2]) ∧ ∃ k, w' = w.drewN k := by
  obtain ⟨lb, cap, lt, capt, wb, capw, h⟩ := h
  obtain ⟨d0, d1, _, _, d4, _⟩ := tc_cells h.rowT
  have d1' : w.cell? ⟨t, 1, none⟩ = some (.slice (some ⟨lt, 0, none⟩) N capt) := d1
  have HU := Lib.hid (h.used p)
  obtain ⟨lt', capt', e, hcap, hlt, hcell, _⟩ := lS.form h.lT (by have := h.dT.mn; omega)
  cases e
  have hmn := h.dT.mn
  have hn1 := h.dT.n1
  unfold TX.read
  cases hdn : T.done
  · rw [hdn] at d4
    cases hus : usedP N B M T.L p
    · rw [hus] at HU
      clear h hcell d1 hus
      simp only [Bool.false_or, Bool.not_false, if_true]
      go_enter Tryz.func24, Tryz.ntmps24
      go_wp2_with fail
      go_quiet (exact HU.out _)
      go_wp2
      go_ret2
      exact ⟨rfl, _, rfl⟩
    · rw [hus] at HU
      obtain ⟨q, rfl, hq⟩ : ∃ q : Nat, p = q ∧ q < N := by
        unfold usedP at hus
        simp at hus
        exact ⟨p.toNat, by omega, by omega⟩
      have hcq := hcell q hq
      obtain ⟨bs, hbs⟩ : ∃ bs, T.L q = bs := ⟨_, rfl⟩
      have hbs' : T.L ((q : Int)).toNat = bs := hbs
      rw [hbs] at hcq
      simp only [Bool.false_or, Bool.not_true, Bool.false_eq_true, if_false]
      rw [hbs']
      clear h hcell d1 hus hbs hbs'
      go_enter Tryz.func24, Tryz.ntmps24
      go_wp2_with fail
      go_quiet (exact HU.out _)
      go_wp2
      go_ret2
      exact ⟨rfl, _, rfl⟩
  · rw [hdn] at d4
    clear h hcell d1
    simp only [Bool.true_or, if_true]
    go_enter Tryz.func24, Tryz.ntmps24
    go_wp2_with fail
    go_quiet (exact HU.out _)
    go_wp2
    go_ret2
    exact ⟨rfl, _, rfl⟩

theorem PT.setL {w : World} {r t N B M Log : Nat} {L : Nat → List UInt8} {T : TX} {D : Nat → Prop} {lb cap lt capt wb capw : Nat} (h : PT w r t N B M Log L T D lb cap lt capt wb capw) (p : Nat) (hp : p < N) (bs : List UInt8) (hb : bs.length = B) :
    PT (w.setCell ⟨lt, p, none⟩ (.string ⟨bs.toArray⟩)) r t N B M Log L { T with L := Dk.upd T.L p bs } D lb cap lt capt wb capw := by
  obtain ⟨a1, a2, a3, a4, a5, a6, a7, a8, a9⟩ := h.apart
  exact ⟨(setCell_other _ _ _ _ _ a3).trans h.rowP, (setCell_other _ _ _ _ _ a6).trans h.rowT, lS.keep h.lP (setCell_other _ _ _ _ _ h.ne), lS.set h.lT p hp bs, bS.keep h.bW (setCell_other _ _ _ _ _ (Ne.symm a9)), h.ne, h.dP, h.dT.upd p bs hb, h.inD, fun k hk => by rw [setCell_size]; exact h.blw k hk⟩
theorem PT.setW {w : World} {r t N B M Log : Nat} {L : Nat → List UInt8} {T : TX} {D : Nat → Prop} {lb cap lt capt wb capw : Nat} (h : PT w r t N B M Log L T D lb cap lt capt wb capw) (p : Nat) (hp : p < N) (b : Bool) :
    PT (w.setCell ⟨wb, p, none⟩ (.bool b)) r t N B M Log L { T with W := Dk.upd T.W p b } D lb cap lt capt wb capw := by
  obtain ⟨a1, a2, a3, a4, a5, a6, a7, a8, a9⟩ := h.apart
  exact ⟨(setCell_other _ _ _ _ _ a4).trans h.rowP, (setCell_other _ _ _ _ _ a7).trans h.rowT, lS.keep h.lP (setCell_other _ _ _ _ _ a8), lS.keep h.lT (setCell_other _ _ _ _ _ a9), bS.set h.bW p hp b, h.ne, h.dP, h.dT, h.inD, fun k hk => by rw [setCell_size]; exact h.blw k hk⟩
theorem PT.setT {w : World} {r t N B M Log : Nat} {L : Nat → List UInt8} {T : TX} {D : Nat → Prop} {lb cap lt capt wb capw : Nat} (h : PT w r t N B M Log L T D lb cap lt capt wb capw) (i : Nat) (v : Value) (root' done' : Bool) (e : (tc r (sl lt N capt) (sl wb N capw) T.root T.done).setIfInBounds i v = tc r (sl lt N capt) (sl wb N capw) root' done') :
    PT (w.setCell ⟨t, i, none⟩ v) r t N B M Log L { T with root := root', done := done' } D lb cap lt capt wb capw := by
  obtain ⟨a1, a2, a3, a4, a5, a6, a7, a8, a9⟩ := h.apart
  exact ⟨(setCell_other _ _ _ _ _ a1).trans h.rowP, tc_set h.rowT i v _ _ _ _ e, lS.keep h.lP (setCell_other _ _ _ _ _ (Ne.symm a5)), lS.keep h.lT (setCell_other _ _ _ _ _ (Ne.symm a6)), bS.keep h.bW (setCell_other _ _ _ _ _ (Ne.symm a7)), h.ne, h.dP, h.dT, h.inD, fun k hk => by rw [setCell_size]; exact h.blw k hk⟩
theorem PT.at {w : World} {r t N B M Log : Nat} {L : Nat → List UInt8} {T : TX} {D : Nat → Prop} {lb cap lt capt wb capw : Nat} (h : PT w r t N B M Log L T D lb cap lt capt wb capw) (k : Nat) : PT (w.drewN k) r t N B M Log L T D lb cap lt capt wb capw := h.keepW (Nat.le_refl _) fun _ _ => rfl
set_option maxHeartbeats 4000000 in
theorem Write_any (w : World) (r t N B M Log : Nat) (L : Nat → List UInt8) (T : TX) (D : Nat → Prop) (h : PTAt w r t N B M Log L T D) (p : Int) (A : Option Addr) (n c : Nat) (bs : List UInt8) (hr : Rd w A n c bs) :
    Calls Tryz.prog 26 #[.pointer (some ⟨t, 0, none⟩), .int .i64 p, .slice A n c] w fun e w' => e = .returned (.int .i64 (T.write N B M p bs).2) ∧ PDid D r t N B M Log L (T.write N B M p bs).1 w w' := by
  have HP := Lib.hid h
  obtain ⟨lb, cap, lt, capt, wb, capw, h⟩ := h
  obtain ⟨d0, d1, d2, _, d4, _⟩ := tc_cells h.rowT
  obtain ⟨_, c1, _⟩ := pc_cells h.rowP
  have d1' : w.cell? ⟨t, 1, none⟩ = some (.slice (some ⟨lt, 0, none⟩) N capt) := d1
  have d2' : w.cell? ⟨t, 2, none⟩ = some (.slice (some ⟨wb, 0, none⟩) N capw) := d2
  have HU := Lib.hid (h.used p)
  have hmn := h.dT.mn
  have hn1 := h.dT.n1
  have hb1 := h.dT.b1
  obtain ⟨lt', capt', e, hcap, hlt, hcell, hfz⟩ := lS.form h.lT (by omega)
  cases e
  obtain ⟨wb', capw', e, hcapw, hwlt, hwcell, hwfz⟩ := bS.form h.bW (by omega)
  cases e
  have hlen := hr.len
  unfold TX.write
  cases hdn : T.done
  · rw [hdn] at d4
    cases hus : usedP N B M T.L p
    · rw [hus] at HU
      clear h hcell hwcell d1 d2 hus hr hfz hwfz
      simp only [Bool.false_or, Bool.not_false, Bool.true_or, if_true]
      go_enter Tryz.func26, Tryz.ntmps26
      go_wp2_with fail
      go_quiet (exact HU.out _)
      go_wp2
      go_ret
      exact ⟨rfl, PDid.still HP.out (below_drewN (Below.refl _ _) _)⟩
    · rw [hus] at HU
      obtain ⟨q, rfl, hq⟩ : ∃ q : Nat, p = q ∧ q < N := by
        unfold usedP at hus
        simp at hus
        exact ⟨p.toNat, by omega, by omega⟩
      rw [Int.toNat_natCast]
      by_cases hb : n = B
      · have hbl : bs.length = B := by omega
        rw [if_neg (by simp [hbl])]
        subst hb
        have hcq := hcell q hq
        have hfq := hfz q
        have hwq := hwcell q hq
        have hwf := hwfz q
        have HR := Lib.hid hr
        have HPT := Lib.hid h
        have hap := h.apart
        have hne : lt ≠ wb := hap.2.2.2.2.2.2.2.2
        have htl : t ≠ lt := hap.2.2.2.2.2.1
        clear h hcell hwcell d1 d2 hus hr hfz hwfz hap
        go_enter Tryz.func26, Tryz.ntmps26
        go_wp2_with fail
        go_quiet (exact HU.out _)
        obtain ⟨Y, hY⟩ : ∃ Y, w.drewN nq = Y := ⟨_, rfl⟩
        have hPY : PT Y r t N n M Log L T D lb cap lt capt wb capw := by rw [← hY]; exact HPT.out.at nq
        have hrY : Rd Y A n c bs := by rw [← hY]; exact HR.out.drewN nq
        have hst := string_rd Y.drew _ _ _ _ hrY.drew
        have f1 : Y.cell? ⟨t, 1, none⟩ = some (.slice (some ⟨lt, 0, none⟩) N capt) := (tc_cells hPY.rowT).2.1
        obtain ⟨_, _, e, _, _, hcY, hfY⟩ := lS.form hPY.lT (by omega)
        cases e
        have f2 := hcY q hq
        have f3 := hfY q
        have HFY : Hid (Fr D w Y) := by show Fr D w Y; rw [← hY]; exact Fr.of (below_drewN (Below.refl _ _) nq)
        rw [hY]
        obtain ⟨X, hX⟩ : ∃ X, Y.setCell ⟨lt, q, none⟩ (.string ⟨bs.toArray⟩) = X := ⟨_, rfl⟩
        have hPX : PT X r t N n M Log L { T with L := Dk.upd T.L q bs } D lb cap lt capt wb capw := by rw [← hX]; exact hPY.setL q hq bs hbl
        have HPX := Lib.hid hPX
        have HFR : Hid (Fr D w X) := by show Fr D w X; rw [← hX]; exact HFY.out.setCell (.inl HPT.out.inD.2.2.2.1) _
        have e2' : X.cell? ⟨t, 2, none⟩ = some (.slice (some ⟨wb, 0, none⟩) N capw) := (tc_cells hPX.rowT).2.2.1
        obtain ⟨_, _, e, _, _, hwc, hwfz⟩ := bS.form hPX.bW (by omega)
        cases e
        have hwq' := hwc q hq
        have hwf' := hwfz q
        clear hPX hwc hwfz hPY hrY hY hcY hfY d0 d1' d2' d4 c1 hcq hfq hwq hwf
        go_wp2_with fail
        go_still_tail 8, mixed
        go_wp2
        go_ret
        refine ⟨rfl, D, ⟨lb, cap, lt, capt, wb, capw, ?_⟩, fun _ h => .inl h, ?_⟩
        · rw [show false = T.done from hdn.symm]
          exact (HPX.out.setW q hq true).keepW (w' := (X.setCell ⟨wb, q, none⟩ (.bool true)).drew) (Nat.le_refl _) fun _ _ => rfl
        · exact (HFR.out.setCell (.inl HPT.out.inD.2.2.2.2) _).drew
      · have hbl : ¬ bs.length = B := by omega
        rw [if_pos (by simp [hbl])]
        clear h hcell hwcell d1 d2 hus hr hfz hwfz
        go_enter Tryz.func26, Tryz.ntmps26
        go_wp2_with fail
        go_quiet (exact HU.out _)
        go_wp2
        go_ret
        exact ⟨rfl, PDid.still HP.out (below_drewN (Below.refl _ _) _)⟩
  · rw [hdn] at d4
    clear h hcell hwcell d1 d2 hr hfz hwfz
    simp only [Bool.true_or, if_true]
    go_enter Tryz.func26, Tryz.ntmps26
    go_wp2_with fail
    go_quiet (exact HU.out _)
    go_wp2
    go_ret
    exact ⟨rfl, PDid.still HP.out (below_drewN (Below.refl _ _) _)⟩
end Go.Proofs.YtephmcbofcfpmaaGreat.Rp

