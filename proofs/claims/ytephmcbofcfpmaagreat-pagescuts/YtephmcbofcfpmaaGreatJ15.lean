/- Whether changes may be committed. Conditions: none. Commit. Conditions: none. -/
import Derived.Test.YtephmcbofcfpmaaGreatJ14
set_option maxRecDepth 8000
set_option linter.unusedSimpArgs false
set_option linter.unusedVariables false
namespace Go.Dk
open Go.RowKit Go.Bs
/-- a change that keeps all from being committed. -/
def badAt (nb bytes : Nat) (l : List Ch) (j : Nat) : Bool := decide ((chAt l j).1 ∈ (l.take j).map (·.1)) || !(decide (0 ≤ (chAt l j).1) && decide ((chAt l j).1 < (nb : Int))) || decide ((chAt l j).2.length ≠ bytes)
def chk (nb bytes log : Nat) (l : List Ch) : Int := if (List.range l.length).any (badAt nb bytes l) then 1 else if log < l.length then 8 else 0
theorem chk_bad {nb bytes log : Nat} {l : List Ch} {j : Nat} (hj : j < l.length) (h : badAt nb bytes l j = true) : chk nb bytes log l = 1 := by
  unfold chk
  rw [if_pos (List.any_eq_true.2 ⟨j, List.mem_range.2 hj, h⟩)]
theorem chk_good {nb bytes log : Nat} {l : List Ch} (h : ∀ j, j < l.length → badAt nb bytes l j = false) : chk nb bytes log l = if log < l.length then 8 else 0 := by
  unfold chk
  rw [if_neg]
  intro h2
  obtain ⟨j, hj, hb⟩ := List.any_eq_true.1 h2
  rw [h j (List.mem_range.1 hj)] at hb
  cases hb
theorem keys_take (l : List Ch) (k : Nat) (hk : k < l.length) : (l.take (k + 1)).map (·.1) = (l.take k).map (·.1) ++ [(chAt l k).1] := by
  rw [List.take_succ_eq_append_getElem hk, List.map_append]
  simp [chAt, List.getD, List.getElem?_eq_getElem hk]
end Go.Dk
namespace Go.Proofs.YtephmcbofcfpmaaGreat
open Go.RowKit Go.Bs Go.Dk

theorem below_grown {N b : Nat} {w a c : World} (h : Below N w a) (hg : a.grownBy c (some b)) (hN : N ≤ w.heap.size) (hb : N ≤ b := by omega) : Below N w c :=
  ⟨hg.os.trans h.os, hg.tape.trans h.tape, hg.output.trans h.output, Nat.le_trans h.size hg.size, fun k hk => (hg.block k (by have := h.size; omega) (fun e => by cases e; omega)).trans (h.block k hk)⟩
set_option maxHeartbeats 4000000 in
theorem check_any (w : World) (p g : Nat) (s : S) (log : Nat) (down : Bool) (D : Nat → Prop) (h : WalAt w p g s log down D) (A : Option Addr) (n c : Nat) (l : List Ch) (K : Nat → Prop) (hl : Chs w A n c l K) (hn : n ≤ 1000000) :
    Calls Tryz.prog 112 #[.pointer (some ⟨p, 0, none⟩), .slice A n c] w fun e w' => e = .returned (.int .i64 (chk (nbl s log) s.bytes log l)) ∧ Below w.heap.size w w' := by
  have HS := Lib.hid (wSize_any w p g s log down D h)
  have hb1 := h.disk.ok.b1
  have hlg : log ≤ 65536 := by have := h.l1; have := h.disk.ok.s1; omega
  obtain ⟨nb, hnb⟩ : ∃ nb, nbl s log = nb := ⟨_, rfl⟩
  obtain ⟨by_, hby⟩ : ∃ by_, s.bytes = by_ := ⟨_, rfl⟩
  have HW := Lib.hid h
  have HL := Lib.hid hl
  have HLN := Lib.hid hl.len
  have HNB := Lib.hid hnb
  have HBY := Lib.hid hby
  obtain ⟨base, hbase⟩ : ∃ base, w.heap.size = base := ⟨_, rfl⟩
  obtain ⟨R, hR⟩ : ∃ R, chk nb by_ log l = R := ⟨_, rfl⟩
  have HR := Lib.hid hR
  have HBA := Lib.hid hbase
  rw [hnb, hby] at HS ⊢
  rw [hR, hbase]
  rw [hby] at hb1
  clear h hl hnb hby hbase hR
  have hmm := @run_makeMap Tryz.prog
  go_enter Tryz.func112, Tryz.ntmps112
  go_wp2_with fail
  refine HS.out.mono ?_
  rintro e w1 ⟨rfl, k0, rfl⟩
  obtain ⟨W1, hW1⟩ : ∃ W1, w.drewN k0 = W1 := ⟨_, rfl⟩
  have hbW : Below w.heap.size w W1 := by rw [← hW1]; exact below_drewN (Below.refl _ _) _
  have hsW : W1.heap.size = base := by rw [← hW1]; exact HBA.out
  rw [hW1]
  clear hW1
  obtain ⟨W2, hW2⟩ : ∃ W2, W1.alloc (.map #[] 0) = W2 := ⟨_, rfl⟩
  have hset : SetIs W2 base [] := by rw [← hW2, ← hsW]; exact SetIs.made W1
  have hbW2 : Below base w W2 := by rw [← hW2, ← HBA.out]; exact hbW.alloc hbW.size _
  have HSET := Lib.hid hset
  have HB2 := Lib.hid hbW2
  clear hset hbW2 hbW
  go_wp2
  go_loopw [20] (fun i wr => ∃ k : Nat, k ≤ n ∧ i = .int .i64 k ∧ (∀ j, j < k → badAt nb by_ l j = false) ∧ SetIs wr base ((l.take k).map (·.1)) ∧ Below base w wr) (fun i _ => n - (RowKit.intOf i).toNat)
  case atStart => exact ⟨0, Nat.zero_le _, rfl, fun j hj => absurd hj (by omega), HSET.out, HB2.out⟩
  case round =>
    obtain ⟨k, hk, rfl, hgood, hset, hbl⟩ := hrel
    have hbs : base ≤ wr.heap.size := by have := hbl.size; rw [HBA.out] at this; exact this
    have hblt := hset.lt
    by_cases hlt : k < n
    · obtain ⟨q, o, B, m, cc, rfl, hq, i0, i1, ib, hBK, hrd⟩ := (HL.out.below (by rw [HBA.out]; exact hbl)).at_ k hlt
      obtain ⟨x, hx⟩ : ∃ x, (chAt l k).1 = x := ⟨_, rfl⟩
      rw [hx] at i0 ib
      have hml := hrd.len
      obtain ⟨z, hz⟩ : ∃ z, wr.heap.size = z := ⟨_, rfl⟩
      obtain ⟨X1, hX1⟩ : ∃ X1, wr.alloc (.cells #[.int .i64 x, .slice B m cc] 169) = X1 := ⟨_, rfl⟩
      have hb1' : Below wr.heap.size wr X1 := by rw [← hX1]; exact (Below.refl _ _).alloc (Nat.le_refl _) _
      have hs1 : X1.heap.size = z + 1 := by rw [← hX1, World.size_alloc, hz]
      have hz1 : X1.heap[z]? = some (.cells #[.int .i64 x, .slice B m cc] 169 (0, 0)) := by rw [← hX1, ← hz]; exact heap_alloc_new wr _
      have z0 : X1.cell? ⟨z, 0, none⟩ = some (.int .i64 x) := by rw [cell_of_row X1 z _ _ 169 (0, 0) hz1]; rfl
      have hlook := (hset.keep (w' := X1) (hb1'.block base hblt)).look x ib
      obtain ⟨X2, hX2⟩ : ∃ X2, X1.alloc (.cells #[] 202) = X2 := ⟨_, rfl⟩
      have hb12 : Below X1.heap.size X1 X2 := by rw [← hX2]; exact (Below.refl _ _).alloc (Nat.le_refl _) _
      have hb2' : Below wr.heap.size wr X2 := bstep hb1' hb12
      have y0 : X2.cell? ⟨z, 0, none⟩ = some (.int .i64 x) := (hb12.cell (p := ⟨z, 0, none⟩) (by show z < X1.heap.size; omega)).trans z0
      have y1 : X2.cell? ⟨z, 1, none⟩ = some (.slice B m cc) := (hb12.cell (p := ⟨z, 1, none⟩) (by show z < X1.heap.size; omega)).trans (by rw [cell_of_row X1 z _ _ 169 (0, 0) hz1]; rfl)
      have hbw2 : Below base w X2 := hbl.trans (hb2'.mono hbs)
      have HBW2 := Lib.hid hbw2
      have HHAS := Lib.hid (whas_any X2 p g s log down D (HW.out.below (by rw [HBA.out]; exact hbw2)) x)
      rw [HNB.out] at HHAS
      have HSET2 := Lib.hid (hset.keep (w' := X2) (hb2'.block base hblt))
      have HG := Lib.hid hgood
      have HX := Lib.hid hx
      have HML := Lib.hid hml
      have HKT := Lib.hid (keys_take l k (by rw [HLN.out]; exact hlt))
      by_cases htw : x ∈ (l.take k).map (·.1)
      · have HRR : Hid (R = 1) := HR.out.symm.trans (chk_bad (j := k) (by rw [HLN.out]; exact hlt) (by unfold badAt; rw [HX.out]; simp only [htw, decide_true, Bool.true_or]))
        rw [decide_eq_true htw] at hlook
        clear hx ib hml hb1' hz1 hb12 hb2' hbw2 hset hgood hrd hBK hbl htw
        go_wp2
        go_ret
        exact ⟨by rw [HRR.out]; rfl, HBW2.out⟩
      · rw [decide_eq_false htw] at hlook
        have HTW := Lib.hid htw
        by_cases hh : (decide (0 ≤ x) && decide (x < (nb : Int))) = true
        · by_cases hmb : m = by_
          · have HBAD : Hid (badAt nb by_ l k = false) := by
              show badAt nb by_ l k = false
              unfold badAt
              rw [hx, hml, hh, decide_eq_false htw, decide_eq_false (by simp [hmb])]
              rfl
            have hkl : ((l.take k).map (·.1)).length ≤ 1000000 := by simp; omega
            rw [hx] at HKT
            rw [hh] at HHAS
            clear hx hml hb1' hz1 hb12 hb2' hbw2 hset hgood hrd hBK hbl htw hh
            subst hmb
            go_wp2_with fail
            refine HHAS.out.mono ?_
            rintro e w3 ⟨rfl, k3, rfl⟩
            have v0 : (X2.drewN k3).cell? ⟨z, 0, none⟩ = some (.int .i64 x) := y0
            have v1 : (X2.drewN k3).cell? ⟨z, 1, none⟩ = some (.slice B m cc) := y1
            obtain ⟨X3, hX3⟩ : ∃ X3, X2.drewN k3 = X3 := ⟨_, rfl⟩
            have HSET3 : Hid (SetIs X3 base ((l.take k).map (·.1))) := by rw [← hX3]; exact HSET2.out.keep rfl
            have HB3 : Hid (Below base w X3) := by rw [← hX3]; exact below_drewN HBW2.out _
            rw [hX3] at v0 v1 ⊢
            clear hX3
            obtain ⟨w4, hrun, hset4, hg4⟩ := HSET3.out.put x ib hkl
            have HSET4 := Lib.hid hset4
            have HG4 := Lib.hid hg4
            clear hset4 hg4 ib hkl hlook
            go_wp2
            go_roundw
            case rel =>
              refine ⟨k + 1, by omega, by go_num, fun j hj => ?_, by rw [HKT.out]; exact HSET4.out, below_grown HB3.out HG4.out (by rw [HBA.out]; exact Nat.le_refl _)⟩
              rcases Nat.lt_or_ge j k with h | h
              · exact HG.out j h
              · obtain rfl : j = k := by omega
                exact HBAD.out
            case measure => simp [RowKit.intOf]; omega
          · have HRR : Hid (R = 1) := HR.out.symm.trans (chk_bad (j := k) (by rw [HLN.out]; exact hlt) (by unfold badAt; rw [HML.out, decide_eq_true hmb]; simp))
            rw [hh] at HHAS
            have hmb2 : ¬ (m : Int) = (by_ : Int) := by omega
            clear hx ib hml hb1' hz1 hb12 hb2' hbw2 hset hgood hrd hBK hbl htw hh
            go_wp2_with fail
            refine HHAS.out.mono ?_
            rintro e w3 ⟨rfl, k3, rfl⟩
            have v0 : (X2.drewN k3).cell? ⟨z, 0, none⟩ = some (.int .i64 x) := y0
            have v1 : (X2.drewN k3).cell? ⟨z, 1, none⟩ = some (.slice B m cc) := y1
            go_wp2
            go_ret
            exact ⟨by rw [HRR.out]; rfl, below_drewN HBW2.out _⟩
        · have hhf : (decide (0 ≤ x) && decide (x < (nb : Int))) = false := by simpa using hh
          have HRR : Hid (R = 1) := HR.out.symm.trans (chk_bad (j := k) (by rw [HLN.out]; exact hlt) (by unfold badAt; rw [HX.out, hhf]; simp))
          rw [hhf] at HHAS
          clear hx ib hml hb1' hz1 hb12 hb2' hbw2 hset hgood hrd hBK hbl htw hh hhf
          go_wp2_with fail
          refine HHAS.out.mono ?_
          rintro e w3 ⟨rfl, k3, rfl⟩
          go_wp2
          go_ret
          exact ⟨by rw [HRR.out]; rfl, below_drewN HBW2.out _⟩
    · obtain rfl : k = n := by omega
      have hr0 := HR.out.symm.trans (chk_good (by rw [HLN.out]; exact hgood))
      rw [HLN.out] at hr0
      have c1 := (wc_cells (HW.out.below (by rw [HBA.out]; exact hbl)).row).2.1
      have HBL := Lib.hid hbl
      by_cases hll : log < k
      · rw [if_pos hll] at hr0
        have HRR := Lib.hid hr0
        clear hr0 hset hgood hbl
        go_wp2
        go_ret
        exact ⟨by rw [HRR.out]; rfl, HBL.out⟩
      · rw [if_neg hll] at hr0
        have HRR := Lib.hid hr0
        clear hr0 hset hgood hbl
        go_wp2
        go_ret
        exact ⟨by rw [HRR.out]; rfl, HBL.out⟩
end Go.Proofs.YtephmcbofcfpmaaGreat

set_option maxRecDepth 8000
set_option linter.unusedSimpArgs false
set_option linter.unusedVariables false
namespace Go.Dk
open Go.RowKit Go.Bs
/-- several changes at once. -/
def S.commit (s : S) (log : Nat) (down : Bool) (l : List Ch) : S × Int :=
  if down then (s, 50) else if chk (s.sectors - 1 - log) s.bytes log l ≠ 0 then (s, chk (s.sectors - 1 - log) s.bytes log l) else if l.length = 0 then (s, 0) else S.all (Go.Proofs.YtephmcbofcfpmaaGreat.comL log l) s
theorem chk_zero {nb bytes log : Nat} {l : List Ch} (h : chk nb bytes log l = 0) : l.length ≤ log ∧ ∀ j, j < l.length → (0 ≤ (chAt l j).1 ∧ (chAt l j).1 < (nb : Int)) ∧ (chAt l j).2.length = bytes := by
  unfold chk at h
  split at h
  · cases h
  · rename_i h1
    split at h
    · cases h
    · refine ⟨by omega, fun j hj => ?_⟩
      have h2 : badAt nb bytes l j = false := by
        cases hb : badAt nb bytes l j
        · rfl
        · exact absurd (List.any_eq_true.2 ⟨j, List.mem_range.2 hj, hb⟩) h1
      unfold badAt at h2
      simp at h2
      exact ⟨⟨h2.1.2.1, h2.1.2.2⟩, h2.2⟩
end Go.Dk
namespace Go.Proofs.YtephmcbofcfpmaaGreat
open Go.RowKit Go.Bs Go.Dk

theorem fn_info : (Tryz.prog.info? 51).map (fun i => (i.zero, i.size, i.bytes)) = some (some .nilFunc, 1, 8) := by kernel_rfl
theorem app_fns (w : World) (q0 q1 : Nat) (xs ys : List Value) (h0 : w.heap[q0]? = some (.cells xs.toArray 51 (0, 0))) (h1 : w.heap[q1]? = some (.cells ys.toArray 51 (0, 0))) (hx : xs.length = 4) (hy : ys.length = 4) (ho : ∀ u ∈ ys, u.oneCell' = true) :
    ∃ g cap w', (Builtin.append_ #[176, 176] 176 #[.slice (some ⟨q0, 0, none⟩) 4 4, .slice (some ⟨q1, 0, none⟩) 4 4]).run Tryz.prog w = .ok (.slice (some ⟨g, 0, none⟩) 8 cap) w' ∧ (∀ j, j < 8 → w'.cell? ⟨g, j, none⟩ = some ((xs ++ ys).getD j undef)) ∧ w.grownBy w' (some q0) ∧ (g = q0 ∨ g = w.heap.size) := by
  obtain ⟨i0, hi, hz0, hz1, hz2⟩ := info_parts fn_info
  obtain ⟨g, cap, w', hrun, hown, hgr, hat, hlt⟩ := run_append_lies (P := Tryz.prog) w 176 176 0 51 i0 _ 1 8 Tryz.underlying176 hi hz0 hz1 hz2 rfl (by omega) (.slice (some ⟨q0, 0, none⟩) 4 4) 4 xs
    ⟨by omega, .inr ⟨q0, 4, xs.toArray, rfl, Nat.zero_le _, h0, Nat.le_refl _, by simp [maxLen], by simp [hx], by simp; exact List.take_of_length_le (by omega)⟩⟩ ⟨q1, 0, none⟩ 4 4 ys (by omega)
    (fun j u hj => by rw [addr_add, Nat.zero_add, cell_of_row w q1 j _ 51 (0, 0) h1, ← hj]; exact List.getElem?_toArray) ho (by omega) (by unfold maxLen; omega) (by omega) (by omega) _ rfl
  refine ⟨g, cap, w', hrun, fun j hj => ?_, hgr, ?_⟩
  · rcases hown.2 with ⟨h, _⟩ | ⟨g', cap', cur, e, _, hg, _, _, hsz, htk⟩
    · cases h
    · cases e
      rw [cell_of_row w' g j _ 51 (0, 0) hg]
      have hl : (xs ++ ys).length = 8 := by simp [hx, hy]
      have : (xs ++ ys)[j]? = cur.toList[j]? := by rw [← htk, List.getElem?_take, if_pos (by omega)]
      rw [List.getD_eq_getElem?_getD, this, Array.getElem?_toList]
      have hcs : j < cur.size := by
        have h8 := congrArg List.length htk
        simp [hx, hy] at h8
        omega
      simp [hcs]
  · rcases hat with e | e
    · exact .inl (by simpa [Value.ownBlock] using e.symm)
    · exact .inr e
def fnB (z g : Nat) : List Value := [.func (.func 113) #[] #[.pointer (some ⟨z, 0, none⟩), .pointer (some ⟨z + 1, 0, none⟩)], .func (.func 115) #[.pointer (some ⟨g, 0, none⟩)] #[], .func (.func 116) #[] #[.pointer (some ⟨z, 0, none⟩), .pointer (some ⟨z + 1, 0, none⟩)], .func (.func 115) #[.pointer (some ⟨g, 0, none⟩)] #[]]
def fnE (g p b1 b2 : Nat) : List Value := [.func (.func 144) #[] #[.pointer (some ⟨b1, 0, none⟩), .pointer (some ⟨b2, 0, none⟩)], .func (.func 115) #[.pointer (some ⟨g, 0, none⟩)] #[], .func (.func 146) #[.pointer (some ⟨p, 0, none⟩)] #[], .func (.func 115) #[.pointer (some ⟨g, 0, none⟩)] #[]]
theorem fnE_one (g p b1 b2 : Nat) : ∀ u ∈ fnE g p b1 b2, u.oneCell' = true := by
  intro u hu
  simp [fnE] at hu
  rcases hu with rfl | rfl | rfl | rfl <;> rfl
def fn8 (i : Nat) : Nat := [113, 115, 116, 115, 144, 115, 146, 115].getD i 0
def fb8 (g p : Nat) (i : Nat) : Array Value := [#[], #[.pointer (some ⟨g, 0, none⟩)], #[], #[.pointer (some ⟨g, 0, none⟩)], #[], #[.pointer (some ⟨g, 0, none⟩)], #[.pointer (some ⟨p, 0, none⟩)], #[.pointer (some ⟨g, 0, none⟩)]].getD i #[]
def cp8 (z b1 b2 : Nat) (i : Nat) : Array Value := [#[.pointer (some ⟨z, 0, none⟩), .pointer (some ⟨z + 1, 0, none⟩)], #[], #[.pointer (some ⟨z, 0, none⟩), .pointer (some ⟨z + 1, 0, none⟩)], #[], #[.pointer (some ⟨b1, 0, none⟩), .pointer (some ⟨b2, 0, none⟩)], #[], #[], #[]].getD i #[]
theorem fn8_at (z g p b1 b2 : Nat) (j : Nat) (hj : j < 8) : (fnB z g ++ fnE g p b1 b2).getD j undef = .func (.func (fn8 j)) (fb8 g p j) (cp8 z b1 b2 j) := by
  match j, hj with
  | 0, _ => rfl
  | 1, _ => rfl
  | 2, _ => rfl
  | 3, _ => rfl
  | 4, _ => rfl
  | 5, _ => rfl
  | 6, _ => rfl
  | 7, _ => rfl
theorem ent8 : ∀ i, i < 8 → ∀ args W, (callFunc (fn8 i) args).run Tryz.prog W = .ok (.enter (fn8 i) args) W := by
  intro i hi args W
  match i, hi with
  | 0, _ => exact ent25 args W
  | 1, _ => exact ent27 args W
  | 2, _ => exact ent28 args W
  | 3, _ => exact ent27 args W
  | 4, _ => exact ent38 args W
  | 5, _ => exact ent27 args W
  | 6, _ => exact ent40 args W
  | 7, _ => exact ent27 args W
theorem com_step (w : World) (p g : Nat) (s : S) (log : Nat) (down : Bool) (D : Nat → Prop) (A : Option Addr) (n c : Nat) (l : List Ch) (K : Nat → Prop) (hl : Chs w A n c l K) (hKD : ∀ k, K k → ¬ D k) (hm : MayC log n l) (hlog : log ≤ 65536)
    (z b1 b2 : Nat) (y1 : w.cell? ⟨z, 0, none⟩ = some (.pointer (some ⟨p, 0, none⟩))) (y2 : w.cell? ⟨z + 1, 0, none⟩ = some (.slice A n c)) (g1D : ¬ D z) (g2D : ¬ D (z + 1))
    (x1 : w.cell? ⟨b1, 0, none⟩ = some (.pointer (some ⟨p, 0, none⟩))) (x2 : w.cell? ⟨b2, 0, none⟩ = some (.slice A n c)) (h1D : ¬ D b1) (h2D : ¬ D b2) (M : Nat) (hM : n + 1 ≤ M) :
    ∀ i, i < 8 → ∀ W s' D', WalAt W p g s' log down D' → s'.Fine → s'.deeds + M < 900000 → (s'.sectors = s.sectors ∧ s'.bytes = s.bytes) → (∀ k, D' k → D k ∨ w.heap.size ≤ k) → Fr D w W →
      Calls Tryz.prog (fn8 i) (fb8 g p i ++ cp8 z b1 b2 i) W fun e W' => e = .returned (.int .i64 (dAt (comL log l) i s').2) ∧ Wd D' p g (dAt (comL log l) i s').1 log down W W' := by
  intro i hi W s' D' hW hf hd hz hD hfr
  have hKD' : ∀ k, K k → ¬ D' k := fun k hk => new_not hD (hl.lt k hk) (hKD k hk)
  match i, hi with
  | 0, _ => exact c1_any W z (z + 1) p g s' log down D' hW A n c l K (hl.fr hfr hKD) hKD' (by have := hm.le; omega) (by omega) hf hm.len (box_fr y1 g1D hfr) (box_fr y2 g2D hfr)
  | 1, _ => exact flush_st W p g s' log down D' hW (by omega)
  | 2, _ => exact c2_any W z (z + 1) p g s' log down D' hW A n c l K (hl.fr hfr hKD) hKD' hm.le (by omega) hf hm.sec (box_fr y1 g1D hfr) (box_fr y2 g2D hfr) (new_not hD (lt_of_cell y1) g1D) (new_not hD (lt_of_cell y2) g2D)
  | 3, _ => exact flush_st W p g s' log down D' hW (by omega)
  | 4, _ => exact fin_step w p g s log down D A n c l K hl hKD hm hlog b1 b2 x1 x2 h1D h2D M hM 0 (by omega) W s' D' hW hf hd hz hD hfr
  | 5, _ => exact fin_step w p g s log down D A n c l K hl hKD hm hlog b1 b2 x1 x2 h1D h2D M hM 1 (by omega) W s' D' hW hf hd hz hD hfr
  | 6, _ => exact fin_step w p g s log down D A n c l K hl hKD hm hlog b1 b2 x1 x2 h1D h2D M hM 2 (by omega) W s' D' hW hf hd hz hD hfr
  | 7, _ => exact fin_step w p g s log down D A n c l K hl hKD hm hlog b1 b2 x1 x2 h1D h2D M hM 3 (by omega) W s' D' hW hf hd hz hD hfr

theorem below_grown6 {N b : Nat} {w a c : World} (h : Below N w a) (hg : a.grownBy c (some b)) (hb : N ≤ b) (hN : N ≤ a.heap.size) : Below N w c :=
  ⟨hg.os.trans h.os, hg.tape.trans h.tape, hg.output.trans h.output, Nat.le_trans h.size hg.size, fun k hk => (hg.block k (by omega) (fun e => by cases e; omega)).trans (h.block k hk)⟩
/-- what a call on the wal at p leaves. -/
def Wp (D : Nat → Prop) (p g : Nat) (s : S) (log : Nat) (down : Bool) (w w' : World) : Prop := ∃ D', WalAt w' p g s log down D' ∧ (∀ k, D' k → D k ∨ w.heap.size ≤ k) ∧ Fr (fun k => D k ∨ k = p) w w'
theorem op_append_fn {o : Oper} {a : Act} {w w' : World} {K : Act → World → Prop} {Q : Exit → Act → World → Prop} (s x : Operand) (hop : o.op = Op.call { callee := Callee.builtin Builtin.append, args := #[s, x], argTypes := #[176, 176] })
    (v1 v2 v' : Value) (hs : a.eval s = v1) (hx : a.eval x = v2) (hrun : (Builtin.append_ #[176, 176] o.type #[v1, v2]).run Tryz.prog w = .ok v' w') (h : K (a.put o.dst v') w') : o.wp Tryz.prog a w K Q := by
  unfold Oper.wp
  simp [execOp, hop, resolve, invoke, builtin, hs, hx, hrun, Result.andThen]
  exact h
theorem WalAt.heed {w : World} {p g : Nat} {s : S} {log : Nat} {down : Bool} {D : Nat → Prop} (h : WalAt w p g s log down D) (b : Bool) : WalAt (w.setCell ⟨p, 2, none⟩ (.bool b)) p g s log b D :=
  ⟨wc_set h.row b, h.disk.keep (by rw [setCell_size]; exact Nat.le_refl _) (fun k hk => setCell_other _ _ _ _ _ (fun e => h.pD (e ▸ hk))), h.pD, h.l0, h.l1, h.l2⟩
theorem Wp.still {D : Nat → Prop} {p g : Nat} {s : S} {log : Nat} {down : Bool} {w w' : World} (h : WalAt w p g s log down D) (hb : Below w.heap.size w w') : Wp D p g s log down w w' := ⟨D, h.below hb, fun _ h => .inl h, Fr.of hb⟩
end Go.Proofs.YtephmcbofcfpmaaGreat

