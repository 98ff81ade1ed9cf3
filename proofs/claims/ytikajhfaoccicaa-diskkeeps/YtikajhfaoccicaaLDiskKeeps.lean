/-
  The statement 'DiskKeeps' (chandlerylaw05) holds at every input: the call returns true and leaves its arguments as they were. Conditions: none beyond the row's own.
-/
import Derived.Test.YtikajhfaoccicaaRows
import Derived.Test.YtikajhfaoccicaaKd
import Derived.Deep.RegionHeld3
import Derived.WalkKit
import Derived.ProofKit
import Derived.OpenShut
import Derived.ChangeOld
import Derived.Below
namespace Go.Proofs.Ytikajhfaoccicaa.diskKeeps
open Go.ChangeShapes Go.WideShapes Go.ChangeAt Go.RowKit Go.Bs Go.Dk
set_option linter.unusedVariables false

theorem own : ownKnob Try.prog.godebug = none := by kernel_rfl
theorem laidOut : laidOutB Try.prog = true := by kernel_rfl

theorem getD_mem (zs : List Int) (k : Nat) (h : k < zs.length) : zs.getD k 0 ∈ zs := by
  rw [List.getD, List.getElem?_eq_getElem h]; exact List.getElem_mem h
theorem u8_val (k n : Nat) (h : k + n < 256) : Value.int .u8 ((k : Int) + (n : Nat)) = B (UInt8.ofNat (k + n)) := by
  show _ = Value.int .u8 (((UInt8.ofNat (k + n)).toNat : Nat) : Int)
  rw [u8_of (k + n) h]; rfl
theorem zero57 (w : World) : (zeroValue 57).run Try.prog w = .ok (.agg #[.pointer none, .pointer none, .pointer none]) w := by kernel_rfl
/-- the array of n disks. -/
def ArrAt (w : World) (ar n : Nat) (G : Nat → Nat) : Prop := ∃ cs t, w.heap[ar]? = some (.cells cs t (0, 0)) ∧ cs.size = 3 ∧ ∀ i, i < n → cs[i]? = some (.pointer (some ⟨G i, 0, none⟩))
theorem _root_.Go.Proofs.Ytikajhfaoccicaa.KD.zmono {w a : World} {Z Z' : Nat → Prop} {n : Nat} {G : Nat → Nat} {st : Nat → S} (h : KD w a Z n G st) (hz : ∀ k, Z' k ↔ Z k) : KD w a Z' n G st := by
  obtain ⟨Ds, h⟩ := h
  exact ⟨Ds, h.dk, fun i hi k hk => ⟨(h.base i hi k hk).1, fun h2 => (h.base i hi k hk).2 ((hz k).1 h2)⟩, h.apart, fun k hk => h.zlt k ((hz k).1 hk), h.bel⟩
theorem ArrAt.cell {w : World} {ar n : Nat} {G : Nat → Nat} (h : ArrAt w ar n G) (i : Nat) (hi : i < n) : w.cell? ⟨ar, i, none⟩ = some (.pointer (some ⟨G i, 0, none⟩)) := by
  obtain ⟨cs, t, h1, h2, h3⟩ := h
  rw [cell_of_row w ar i _ t (0, 0) h1, h3 i hi]
theorem ArrAt.any {w : World} {ar n : Nat} {G : Nat → Nat} (h : ArrAt w ar n G) (i : Nat) (hi : i < 3) : (∃ v, w.cell? ⟨ar, i, none⟩ = some v) ∧ w.frozen? ⟨ar, i, none⟩ = false := by
  obtain ⟨cs, t, h1, h2, h3⟩ := h
  refine ⟨⟨cs[i]'(by omega), ?_⟩, by simp [World.frozen?, h1]⟩
  rw [cell_of_row w ar i _ t (0, 0) h1]
  simp [show i < cs.size by omega]
theorem ArrAt.keep {w w' : World} {ar n : Nat} {G : Nat → Nat} (h : ArrAt w ar n G) (e : w'.heap[ar]? = w.heap[ar]?) : ArrAt w' ar n G := by
  obtain ⟨cs, t, h1, h2⟩ := h
  exact ⟨cs, t, e.trans h1, h2⟩
theorem ArrAt.put {w : World} {ar n : Nat} {G : Nat → Nat} (h : ArrAt w ar n G) (hn : n < 3) (g : Nat) : ArrAt (w.setCell ⟨ar, n, none⟩ (.pointer (some ⟨g, 0, none⟩))) ar (n + 1) (upd G n g) := by
  obtain ⟨cs, t, h1, h2, h3⟩ := h
  refine ⟨cs.setIfInBounds n (.pointer (some ⟨g, 0, none⟩)), t, ?_, by simp [h2], fun i hi => ?_⟩
  · rw [setCell_eq_setRow w ar n _ t (0, 0) _ h1, setRow_heap w ar _ _ t _ h1]
  · by_cases e : i = n
    · subst e
      rw [upd_same]
      simp [show i < cs.size by omega]
    · rw [upd_other _ _ _ _ e, Array.getElem?_setIfInBounds_ne (Ne.symm e), h3 i (by omega)]

def finS (m : Nat) (L1 : Nat → List UInt8) (ys : List Int) (l1 l2 i : Nat) : S := if i < 2 then stW m L1 (wrs m 101 ys l2) (l1 + 1 + l2) else stW m L1 [] (l1 + 1)
theorem finS_one (m : Nat) (L1 : Nat → List UInt8) (ys : List Int) (l1 l2 n : Nat) (h : n < 2) : finS m L1 ys l1 l2 n = stW m L1 (wrs m 101 ys l2) (l1 + 1 + l2) := by unfold finS; rw [if_pos h]
theorem finS_two (m : Nat) (L1 : Nat → List UInt8) (ys : List Int) (l1 l2 n : Nat) (h : ¬ n < 2) : finS m L1 ys l1 l2 n = stW m L1 (wrs m 101 ys 0) (l1 + 1 + 0) := by unfold finS; rw [if_neg h]; rfl
theorem fin_step {st : Nat → S} {n : Nat} {f : Nat → S} {s : S} (h : ∀ i, i < n → st i = f i) (hs : s = f n) : ∀ i, i < n + 1 → upd st n s i = f i := fun i hi => by
  by_cases e : i = n
  · subst e; rw [upd_same]; exact hs
  · rw [upd_other _ _ _ _ e]; exact h i (by omega)
def tri (a b c : S) : Nat → S := fun i => if i = 0 then a else if i = 1 then b else c
theorem finS_tri (m : Nat) (L1 : Nat → List UInt8) (ys : List Int) (l1 l2 i : Nat) (hi : i < 3) : finS m L1 ys l1 l2 i = tri (stW m L1 (wrs m 101 ys l2) (l1 + 1 + l2)) (stW m L1 (wrs m 101 ys l2) (l1 + 1 + l2)) (stW m L1 [] (l1 + 1)) i := by
  match i, hi with
  | 0, _ => rfl
  | 1, _ => rfl
  | 2, _ => rfl
theorem tri_0 {a b c x : S} : ∀ i, i < 3 → upd (tri a b c) 0 x i = tri x b c i := fun i hi => by
  match i, hi with
  | 0, _ => rfl
  | 1, _ => rfl
  | 2, _ => rfl
theorem tri_1 {a b c x : S} : ∀ i, i < 3 → upd (tri a b c) 1 x i = tri a x c i := fun i hi => by
  match i, hi with
  | 0, _ => rfl
  | 1, _ => rfl
  | 2, _ => rfl
theorem tri_2 {a b c x : S} : ∀ i, i < 3 → upd (tri a b c) 2 x i = tri a b x i := fun i hi => by
  match i, hi with
  | 0, _ => rfl
  | 1, _ => rfl
  | 2, _ => rfl
theorem _root_.Go.Proofs.Ytikajhfaoccicaa.KD.congr {w a : World} {Z : Nat → Prop} {n : Nat} {G : Nat → Nat} {st st' : Nat → S} (h : KD w a Z n G st) (e : ∀ i, i < n → st i = st' i) : KD w a Z n G st' := by
  obtain ⟨Ds, h⟩ := h
  exact ⟨Ds, fun i hi => by rw [← e i hi]; exact h.dk i hi, h.base, h.apart, h.zlt, h.bel⟩
def KA (w a : World) (Z : Nat → Prop) (ar : Nat) (G : Nat → Nat) (st : Nat → S) : Prop := KD w a Z 3 G st ∧ ArrAt a ar 3 G ∧ Z ar
theorem KA.op {w a b : World} {Z : Nat → Prop} {ar : Nat} {G : Nat → Nat} {st st1 st' : Nat → S} (h : KA w a Z ar G st) (h1 : KD w b Z 3 G st1) (h2 : Stay Z a b) (e : ∀ i, i < 3 → st1 i = st' i) : KA w b Z ar G st' := ⟨h1.congr e, h.2.1.keep (h2 ar h.2.2), h.2.2⟩
theorem all_step (k n : Nat) (h : k < n) : (List.replicate k true ++ List.replicate (n - k) false).set k true = List.replicate (k + 1) true ++ List.replicate (n - (k + 1)) false := by
  obtain ⟨j, rfl⟩ : ∃ j, n = k + (j + 1) := ⟨n - k - 1, by omega⟩
  have e1 : List.replicate (j + 1) false = false :: List.replicate j false := List.replicate_succ
  have e2 : List.replicate (k + 1) true = List.replicate k true ++ [true] := List.replicate_succ'
  rw [show k + (j + 1) - k = j + 1 by omega, show k + (j + 1) - (k + 1) = j by omega, List.set_append_right _ _ (by simp), e1, e2]
  simp
set_option maxRecDepth 100000 in
set_option maxHeartbeats 8000000 in
theorem walkGood (m : Nat) (a1 : Option Addr) (len1 cap1 : Nat) (a2 : Option Addr) (len2 cap2 : Nat) (w : World) (zs ys : List Int) (hr1 : RdI w a1 len1 cap1 zs) (hr2 : RdI w a2 len2 cap2 ys)
    (hm0 : 1 ≤ m) (hm1 : m ≤ 30) (e3 : len1 ≤ 60) (e4 : len2 ≤ 60) :
    Calls Try.prog 7 #[.int .i64 (m : Int), .slice a1 len1 cap1, .slice a2 len2 cap2] w fun e w' => e = .returned (.bool true) ∧ Below w.heap.size w w' := by
  have hmne : ¬ m = 0 := by omega
  have HR1 := Lib.hid hr1
  have HR2 := Lib.hid hr2
  clear hr1 hr2
  obtain ⟨L1, hL1⟩ : ∃ L1, cur (fun _ => zeros 16) (wrs m 1 zs len1) = L1 := ⟨_, rfl⟩
  have HL1 := Lib.hid hL1
  clear hL1
  have hz57 := zero57
  obtain ⟨ar, har⟩ : ∃ ar, w.heap.size = ar := ⟨_, rfl⟩
  obtain ⟨W0, hW0⟩ : ∃ W0, w.alloc (.cells #[.pointer none, .pointer none, .pointer none] 57 (0, 0)) = W0 := ⟨_, rfl⟩
  have HK0 : Hid (KD w W0 (fun k => k = ar) 0 (fun _ => 0) (fun _ => stW m L1 [] 0) ∧ ArrAt W0 ar 0 (fun _ => 0)) := by
    refine ⟨?_, ?_⟩
    · have := (KD.start w (fun _ => 0) (fun _ => stW m L1 [] 0)).addZ (.cells #[.pointer none, .pointer none, .pointer none] 57 (0, 0))
      rw [hW0, har] at this
      exact this.zmono (fun k => ⟨fun h => .inr h, fun h => h.elim (fun h => h.elim) id⟩)
    · rw [← hW0, ← har]
      exact ⟨_, 57, heap_alloc_new w _, rfl, fun i hi => absurd hi (by omega)⟩
  have HAR := Lib.hid har
  go_enter Try.func7, Try.ntmps7
  go_wp2
  go_loopw [8] (fun i wr => ∃ n : Nat, n ≤ 3 ∧ i = .int .i64 n ∧ ∃ G st, KD w wr (fun k => k = ar) n G st ∧ ArrAt wr ar n G ∧ (∀ i, i < n → st i = finS m L1 ys len1 len2 i) ∧ (0 < n → ∀ i, i < len2 → 0 ≤ ys.getD i 0)) (fun i _ => 3 - (intOf i).toNat)
  case atStart => exact ⟨0, by omega, rfl, _, _, HK0.out.1, HK0.out.2, fun i hi => absurd hi (by omega), fun h => absurd h (by omega)⟩
  case round =>
    obtain ⟨n, hn, rfl, G, st, hkd, harr, hfin, hpos⟩ := hrel
    have HFIN := Lib.hid hfin
    have HPOS := Lib.hid hpos
    have HKD := Lib.hid hkd
    have HARR := Lib.hid harr
    clear hfin hpos hkd harr
    by_cases hn3 : n < 3
    · have hN := Lib.hid (New_any m 16 (by omega) (by omega) (by omega) (by omega) wr)
      go_wp2_with fail
      refine hN.out.mono ?_
      rintro e wA ⟨g, D1, rfl, hd1, hk1, hb1⟩
      have hsA := HKD.out.stay hb1
      have harA := HARR.out.keep (hsA ar rfl)
      obtain ⟨⟨va, hva⟩, hfa⟩ := harA.any n hn3
      obtain ⟨W1, hW1⟩ : ∃ W1, wA.setCell ⟨ar, n, none⟩ (.pointer (some ⟨g, 0, none⟩)) = W1 := ⟨_, rfl⟩
      obtain ⟨G', hG'⟩ : ∃ G', upd G n g = G' := ⟨_, rfl⟩
      have HK1 : Hid (KD w W1 (fun k => k = ar) (n + 1) G' (upd st n (stW m (fun _ => zeros 16) [] 0)) ∧ ArrAt W1 ar (n + 1) G') := by
        rw [← hW1, ← hG']
        exact ⟨(HKD.out.add hd1 hk1 hb1).set rfl _, harA.put hn3 g⟩
      have HGn : Hid (G' n = g) := by rw [← hG']; exact upd_same _ _ _
      clear hd1 hk1 hb1 hsA harA hG'
      go_wp2
      clear hva hfa hW1
      go_loopw [11] (fun i wr => ∃ k : Nat, k ≤ len1 ∧ i = .int .i64 k ∧ KD w wr (fun k => k = ar) (n + 1) G' (upd st n (stW m (fun _ => zeros 16) (wrs m 1 zs k) k)) ∧ ArrAt wr ar (n + 1) G') (fun i _ => len1 - (intOf i).toNat)
      case atStart => exact ⟨0, Nat.zero_le _, rfl, HK1.out.1, HK1.out.2⟩
      case round =>
        obtain ⟨k, hk, rfl, hkd, harr⟩ := hrel
        have HKD := Lib.hid hkd
        have HARR := Lib.hid harr
        clear hkd harr
        by_cases hlt : k < len1
        · obtain ⟨ga, oa, rfl, hga, hca⟩ := HR1.out.cells (by omega)
          have hcell := (HKD.out.bel.cell (p := ⟨ga, oa + k, none⟩) hga).trans (hca k hlt)
          have hwfz := HR1.out.wf _ (getD_mem zs k (by rw [HR1.out.len]; exact hlt))
          have hmod := sec_mod m zs k
          have HCB : Hid (∀ W, Below w.heap.size w W → W.cell? ⟨ga, oa + k, none⟩ = some (.int .i64 (zs.getD k 0))) := fun W hW => (hW.cell (p := ⟨ga, oa + k, none⟩) hga).trans (hca k hlt)
          obtain ⟨q, hq⟩ : ∃ q, zs.getD k 0 = q := ⟨_, rfl⟩
          rw [hq] at hcell hwfz hmod HCB
          clear hca hq
          by_cases hneg : q < 0
          · clear hmod
            go_wp2
            go_ret
            exact ⟨rfl, HKD.out.bel⟩
          · replace hmod := hmod (by omega)
            have hsl := secOf_lt m zs k (by omega)
            have HWQ := Lib.hid (wrs_succ m 1 zs k)
            obtain ⟨sc, hsc⟩ : ∃ sc, secOf m zs k = sc := ⟨_, rfl⟩
            rw [hsc] at hmod hsl HWQ
            have hi64 : IntKind.i64.wrap ((k : Int) + 1) = (k : Int) + 1 := IntWalk.i64_in _ (by omega)
            have hu8 : IntKind.u8.wrap ((k : Int) + 1) = (k : Int) + 1 := by rw [IntKind.wrap_u8']; omega
            have hBx := u8_val k 1 (by omega)
            have HBY : Hid (∀ W, Calls Try.prog 28 #[.int .u8 ((k : Int) + 1)] W fun e w' => e = .returned (.slice (some ⟨W.heap.size, 0, none⟩) 16 16) ∧ Blk w' W.heap.size 5 (byN (k + 1)) ∧ Below W.heap.size W w') := fun W => by rw [show ((k : Int) + 1) = ((k : Int) + (1 : Nat)) from rfl, hBx]; exact bytes_any _ W
            have HBS := Lib.hid HKD.out.bel
            have HWR : Hid (∀ W, Below wr.heap.size wr W → ∀ A, Rd W A 16 16 (byN (k + 1)) → Calls Try.prog 13 #[.pointer (some ⟨g, 0, none⟩), .int .i64 (sc : Int), .slice A 16 16] W fun e b => e = .returned (.int .i64 0) ∧ KD w b (fun k => k = ar) (n + 1) G' (upd st n (stW m (fun _ => zeros 16) (wrs m 1 zs (k + 1)) (k + 1))) ∧ ArrAt b ar (n + 1) G') := fun W hW A hA => by
              refine (Write_kd (HKD.out.below hW) n (by omega) g HGn.out _ (upd_same _ _ _) (stW_fine _ _ _ _ (by rw [wrs_length]; exact Nat.le_refl _)) (by show k < _; omega) (sc : Int) A 16 16 _ hA (by omega) _ _ (stW_write _ _ _ _ _ hsl _ rfl)).mono ?_
              rintro e b ⟨he, hkd, hst⟩
              rw [upd_upd, ← HWQ.out] at hkd
              exact ⟨he, hkd, HARR.out.keep ((hst ar rfl).trans (HKD.out.stay hW ar rfl))⟩
            clear hBx hsc
            go_wp2_with fail
            clear hcell
            have hd1 : Below wr.heap.size wr wr.drew := (Below.refl _ _).drew
            refine wp_region_held_drew (S := fun W => W.cell? ⟨ga, oa + k, none⟩ = some (.int .i64 q)) (by kernel_rfl) (HCB.out _ (bstep HBS.out hd1)) (fun hHeld => ?_)
            refine wpAnyH_take (i := 0) (oi := { dst := some 71, op := Go.Op.move (Go.Operand.tmp 9), type := 25, pos := "more.go:24", after := #[], guard := none }) (v := ?va0) rfl (by kernel_rfl) (by kernel_rfl) (by kernel_rfl) (fun _ _ _ h => h) (Or.inl ⟨by rfl, ?hya0⟩) hHeld ?_
            case hya0 => (intro w hSw; (try dsimp only at hSw); go_simp; first | done | with_reducible rfl)
            try simp only [Act.put, List.setIfInBounds_toArray, List.set_cons_zero, List.set_cons_succ]
            refine wpAnyH_take (i := 1) (oi := { dst := some 72, op := Go.Op.move (Go.Operand.tmp 1), type := 52, pos := "more.go:24", after := #[], guard := none }) (v := ?va1) rfl (by kernel_rfl) (by kernel_rfl) (by kernel_rfl) (fun _ _ _ h => h) (Or.inl ⟨by rfl, ?hya1⟩) hHeld ?_
            case hya1 => (intro w hSw; (try dsimp only at hSw); go_simp; first | done | with_reducible rfl)
            try simp only [Act.put, List.setIfInBounds_toArray, List.set_cons_zero, List.set_cons_succ]
            refine wpAnyH_take (i := 2) (oi := { dst := some 73, op := Go.Op.move (Go.Operand.tmp 11), type := 3, pos := "more.go:24", after := #[], guard := none }) (v := ?va2) rfl (by kernel_rfl) (by kernel_rfl) (by kernel_rfl) (fun _ _ _ h => h) (Or.inl ⟨by rfl, ?hya2⟩) hHeld ?_
            case hya2 => (intro w hSw; (try dsimp only at hSw); go_simp; first | done | with_reducible rfl)
            try simp only [Act.put, List.setIfInBounds_toArray, List.set_cons_zero, List.set_cons_succ]
            refine wpAnyH_take (i := 3) (oi := { dst := some 74, op := Go.Op.indexAddr 52 (Go.Operand.tmp 72) (Go.Operand.tmp 73), type := 0, pos := "more.go:24", after := #[{ on := 1, ground := Go.Ground.data }, { on := 2, ground := Go.Ground.data }], guard := none }) (v := ?va3) rfl (by kernel_rfl) (by kernel_rfl) (by kernel_rfl) (fun _ _ _ h => h) (Or.inl ⟨by rfl, ?hya3⟩) hHeld ?_
            case hya3 => (intro w hSw; (try dsimp only at hSw); go_simp; first | done | with_reducible rfl)
            try simp only [Act.put, List.setIfInBounds_toArray, List.set_cons_zero, List.set_cons_succ]
            refine wpAnyH_take (i := 4) (oi := { dst := some 75, op := Go.Op.load 3 (Go.Operand.tmp 74), type := 3, pos := "more.go:24", after := #[{ on := 3, ground := Go.Ground.data }], guard := none }) (v := ?va4) rfl (by kernel_rfl) (by kernel_rfl) (by kernel_rfl) (fun _ _ _ h => h) (Or.inl ⟨by rfl, ?hya4⟩) hHeld ?_
            case hya4 => (intro w hSw; (try dsimp only at hSw); go_simp; first | done | with_reducible rfl)
            try simp only [Act.put, List.setIfInBounds_toArray, List.set_cons_zero, List.set_cons_succ]
            refine wpAnyH_take (i := 5) (oi := { dst := some 76, op := Go.Op.move (Go.Operand.tmp 0), type := 3, pos := "more.go:24", after := #[], guard := none }) (v := ?va5) rfl (by kernel_rfl) (by kernel_rfl) (by kernel_rfl) (fun _ _ _ h => h) (Or.inl ⟨by rfl, ?hya5⟩) hHeld ?_
            case hya5 => (intro w hSw; (try dsimp only at hSw); go_simp; first | done | with_reducible rfl)
            try simp only [Act.put, List.setIfInBounds_toArray, List.set_cons_zero, List.set_cons_succ]
            refine wpAnyH_take (i := 6) (oi := { dst := some 77, op := Go.Op.binOp Go.BinOp.rem 3 (Go.Operand.tmp 75) (Go.Operand.tmp 76) 3, type := 3, pos := "more.go:24", after := #[{ on := 4, ground := Go.Ground.data }, { on := 5, ground := Go.Ground.data }], guard := none }) (v := ?va6) rfl (by kernel_rfl) (by kernel_rfl) (by kernel_rfl) (fun _ _ _ h => h) (Or.inl ⟨by rfl, ?hya6⟩) hHeld ?_
            case hya6 => (intro w hSw; (try dsimp only at hSw); go_simp; first | done | with_reducible rfl)
            try simp only [Act.put, List.setIfInBounds_toArray, List.set_cons_zero, List.set_cons_succ]
            refine wpAnyH_take (i := 7) (oi := { dst := some 78, op := Go.Op.move (Go.Operand.tmp 11), type := 3, pos := "more.go:24", after := #[], guard := none }) (v := ?va7) rfl (by kernel_rfl) (by kernel_rfl) (by kernel_rfl) (fun _ _ _ h => h) (Or.inl ⟨by rfl, ?hya7⟩) hHeld ?_
            case hya7 => (intro w hSw; (try dsimp only at hSw); go_simp; first | done | with_reducible rfl)
            try simp only [Act.put, List.setIfInBounds_toArray, List.set_cons_zero, List.set_cons_succ]
            refine wpAnyH_take (i := 8) (oi := { dst := some 79, op := Go.Op.binOp Go.BinOp.add 3 (Go.Operand.tmp 78) (Go.Operand.const (Go.Value.int Go.IntKind.i64 1)) 3, type := 3, pos := "more.go:24", after := #[{ on := 7, ground := Go.Ground.data }], guard := none }) (v := ?va8) rfl (by kernel_rfl) (by kernel_rfl) (by kernel_rfl) (fun _ _ _ h => h) (Or.inl ⟨by rfl, ?hya8⟩) hHeld ?_
            case hya8 => (intro w hSw; (try dsimp only at hSw); go_simp; first | done | with_reducible rfl)
            try simp only [Act.put, List.setIfInBounds_toArray, List.set_cons_zero, List.set_cons_succ]
            refine wpAnyH_take (i := 9) (oi := { dst := some 80, op := Go.Op.convert 3 5 (Go.Operand.tmp 79), type := 5, pos := "more.go:24", after := #[{ on := 8, ground := Go.Ground.data }], guard := none }) (v := ?va9) rfl (by kernel_rfl) (by kernel_rfl) (by kernel_rfl) (fun _ _ _ h => h) (Or.inl ⟨by rfl, ?hya9⟩) hHeld ?_
            case hya9 => (intro w hSw; (try dsimp only at hSw); go_simp; first | done | with_reducible rfl)
            try simp only [Act.put, List.setIfInBounds_toArray, List.set_cons_zero, List.set_cons_succ]
            refine wpAnyH_ready (rs := [10]) (by kernel_rfl) (by simp) ?_
            refine AllReadyH.cons (o := { dst := some 81, op := Go.Op.call { callee := Go.Callee.value (Go.Operand.func 28), args := #[Go.Operand.tmp 80], argTypes := #[5] }, type := 32, pos := "more.go:24", after := #[{ on := 9, ground := Go.Ground.data }], guard := none }) rfl (fun K hK => ?_) AllReadyH.nil
            go_simp
            refine (HBY.out _).mono ?_
            rintro e wB ⟨rfl, hkB, hbB⟩
            have hd2 := Bs.below_step hd1 hbB
            have HWC := Lib.hid (HWR.out wB hd2 _ (hkB.all' 16 16 rfl (Nat.le_refl _)))
            clear hkB hbB
            go_wp2_with fail
            refine hK.out _ _ (HCB.out _ (bstep HBS.out hd2)) (fun hHeld => ?_)
            clear hK K
            try simp only [Act.put, List.setIfInBounds_toArray, List.set_cons_zero, List.set_cons_succ]
            refine wpAnyH_ready (rs := [11]) (by kernel_rfl) (by simp) ?_
            refine AllReadyH.cons (o := { dst := some 82, op := Go.Op.call { callee := Go.Callee.value (Go.Operand.func 13), args := #[Go.Operand.tmp 71, Go.Operand.tmp 77, Go.Operand.tmp 81], argTypes := #[25, 3, 32] }, type := 26, pos := "more.go:24", after := #[{ on := 0, ground := Go.Ground.data }, { on := 6, ground := Go.Ground.data }, { on := 10, ground := Go.Ground.data }, { on := 10, ground := Go.Ground.chain }], guard := none }) rfl (fun K hK => ?_) AllReadyH.nil
            go_simp
            refine HWC.out.mono ?_
            rintro e wD ⟨rfl, hdD⟩
            have HDD := Lib.hid hdD
            clear hdD
            go_wp2_with fail
            refine hK.out _ _ (HCB.out _ HDD.out.1.bel) (fun hHeld => ?_)
            clear hK K
            try simp only [Act.put, List.setIfInBounds_toArray, List.set_cons_zero, List.set_cons_succ]
            refine wpAnyH_done (by kernel_rfl) ?_ _
            go_wp2
            go_roundw
            case rel => exact ⟨k + 1, by omega, by go_num, HDD.out.1, HDD.out.2⟩
            case measure => simp [intOf]; omega
        · obtain rfl : k = len1 := by omega
          have HFL : Hid (Calls Try.prog 15 #[.pointer (some ⟨g, 0, none⟩)] wr fun e b => e = .returned (.int .i64 0) ∧ KD w b (fun k => k = ar) (n + 1) G' (upd st n (stW m L1 [] (k + 1))) ∧ ArrAt b ar (n + 1) G') := by
            refine (Flush_kd HKD.out n (by omega) g HGn.out _ (upd_same _ _ _) (by show k < _; omega) _ _ (stW_flush m _ _ k)).mono ?_
            rintro e b ⟨he, hkd, hst⟩
            rw [upd_upd, HL1.out] at hkd
            exact ⟨he, hkd, HARR.out.keep (hst ar rfl)⟩
          go_wp2_with fail
          refine HFL.out.mono ?_
          rintro e wF ⟨rfl, hkF, harF⟩
          have HKF := Lib.hid hkF
          have HAF := Lib.hid harF
          clear hkF harF
          go_wp2
          go_loopw [12] (fun i wr => ∃ j : Nat, j ≤ len2 ∧ i = .int .i64 j ∧ (n = 2 → j = 0) ∧ (∀ i, i < j → 0 ≤ ys.getD i 0) ∧ KD w wr (fun k => k = ar) (n + 1) G' (upd st n (stW m L1 (wrs m 101 ys j) (k + 1 + j))) ∧ ArrAt wr ar (n + 1) G') (fun i _ => len2 - (intOf i).toNat)
          case atStart => exact ⟨0, Nat.zero_le _, rfl, fun _ => rfl, fun i hi => absurd hi (by omega), HKF.out, HAF.out⟩
          case round =>
            obtain ⟨j, hj, rfl, hn2, hps, hkd, harr⟩ := hrel
            have HKD := Lib.hid hkd
            have HARR := Lib.hid harr
            have HPS := Lib.hid hps
            have HN2 := Lib.hid hn2
            clear hkd harr hps hn2
            by_cases hjlt : j < len2
            · by_cases hnn : n < 2
              · obtain ⟨ga, oa, rfl, hga, hca⟩ := HR2.out.cells (by omega)
                have hcell := (HKD.out.bel.cell (p := ⟨ga, oa + j, none⟩) hga).trans (hca j hjlt)
                have hwfz := HR2.out.wf _ (getD_mem ys j (by rw [HR2.out.len]; exact hjlt))
                have hmod := sec_mod m ys j
                have HCB : Hid (∀ W, Below w.heap.size w W → W.cell? ⟨ga, oa + j, none⟩ = some (.int .i64 (ys.getD j 0))) := fun W hW => (hW.cell (p := ⟨ga, oa + j, none⟩) hga).trans (hca j hjlt)
                obtain ⟨q, hq⟩ : ∃ q, ys.getD j 0 = q := ⟨_, rfl⟩
                rw [hq] at hcell hwfz hmod HCB
                have HQ := Lib.hid hq
                clear hca hq
                by_cases hneg : q < 0
                · clear hmod
                  go_wp2
                  go_ret
                  exact ⟨rfl, HKD.out.bel⟩
                · replace hmod := hmod (by omega)
                  have hsl := secOf_lt m ys j (by omega)
                  have HWQ := Lib.hid (wrs_succ m 101 ys j)
                  obtain ⟨sc, hsc⟩ : ∃ sc, secOf m ys j = sc := ⟨_, rfl⟩
                  rw [hsc] at hmod hsl HWQ
                  have hi64 : IntKind.i64.wrap ((j : Int) + 101) = (j : Int) + 101 := IntWalk.i64_in _ (by omega)
                  have hu8 : IntKind.u8.wrap ((j : Int) + 101) = (j : Int) + 101 := by rw [IntKind.wrap_u8']; omega
                  have hBx := u8_val j 101 (by omega)
                  have HBY : Hid (∀ W, Calls Try.prog 28 #[.int .u8 ((j : Int) + 101)] W fun e w' => e = .returned (.slice (some ⟨W.heap.size, 0, none⟩) 16 16) ∧ Blk w' W.heap.size 5 (byN (j + 101)) ∧ Below W.heap.size W w') := fun W => by rw [show ((j : Int) + 101) = ((j : Int) + (101 : Nat)) from rfl, hBx]; exact bytes_any _ W
                  have HBS := Lib.hid HKD.out.bel
                  have HWR : Hid (∀ W, Below wr.heap.size wr W → ∀ A, Rd W A 16 16 (byN (j + 101)) → Calls Try.prog 13 #[.pointer (some ⟨g, 0, none⟩), .int .i64 (sc : Int), .slice A 16 16] W fun e b => e = .returned (.int .i64 0) ∧ KD w b (fun k => k = ar) (n + 1) G' (upd st n (stW m L1 (wrs m 101 ys (j + 1)) (k + 1 + (j + 1)))) ∧ ArrAt b ar (n + 1) G') := fun W hW A hA => by
                    refine (Write_kd (HKD.out.below hW) n (by omega) g HGn.out _ (upd_same _ _ _) (stW_fine _ _ _ _ (by rw [wrs_length]; omega)) (by show k + 1 + j < _; omega) (sc : Int) A 16 16 _ hA (by omega) _ _ (stW_write _ _ _ _ _ hsl _ rfl)).mono ?_
                    rintro e b ⟨he, hkd, hst⟩
                    rw [upd_upd, ← HWQ.out] at hkd
                    exact ⟨he, hkd, HARR.out.keep ((hst ar rfl).trans (HKD.out.stay hW ar rfl))⟩
                  clear hBx hsc
                  go_wp2_with fail
                  clear hcell
                  have hd1 : Below wr.heap.size wr wr.drew := (Below.refl _ _).drew
                  refine wp_region_held_drew (S := fun W => W.cell? ⟨ga, oa + j, none⟩ = some (.int .i64 q)) (by kernel_rfl) (HCB.out _ (bstep HBS.out hd1)) (fun hHeld => ?_)
                  refine wpAnyH_take (i := 0) (oi := { dst := some 100, op := Go.Op.move (Go.Operand.tmp 9), type := 25, pos := "more.go:31", after := #[], guard := none }) (v := ?vb0) rfl (by kernel_rfl) (by kernel_rfl) (by kernel_rfl) (fun _ _ _ h => h) (Or.inl ⟨by rfl, ?hyb0⟩) hHeld ?_
                  case hyb0 => (intro w hSw; (try dsimp only at hSw); go_simp; first | done | with_reducible rfl)
                  try simp only [Act.put, List.setIfInBounds_toArray, List.set_cons_zero, List.set_cons_succ]
                  refine wpAnyH_take (i := 1) (oi := { dst := some 101, op := Go.Op.move (Go.Operand.tmp 2), type := 52, pos := "more.go:31", after := #[], guard := none }) (v := ?vb1) rfl (by kernel_rfl) (by kernel_rfl) (by kernel_rfl) (fun _ _ _ h => h) (Or.inl ⟨by rfl, ?hyb1⟩) hHeld ?_
                  case hyb1 => (intro w hSw; (try dsimp only at hSw); go_simp; first | done | with_reducible rfl)
                  try simp only [Act.put, List.setIfInBounds_toArray, List.set_cons_zero, List.set_cons_succ]
                  refine wpAnyH_take (i := 2) (oi := { dst := some 102, op := Go.Op.move (Go.Operand.tmp 12), type := 3, pos := "more.go:31", after := #[], guard := none }) (v := ?vb2) rfl (by kernel_rfl) (by kernel_rfl) (by kernel_rfl) (fun _ _ _ h => h) (Or.inl ⟨by rfl, ?hyb2⟩) hHeld ?_
                  case hyb2 => (intro w hSw; (try dsimp only at hSw); go_simp; first | done | with_reducible rfl)
                  try simp only [Act.put, List.setIfInBounds_toArray, List.set_cons_zero, List.set_cons_succ]
                  refine wpAnyH_take (i := 3) (oi := { dst := some 103, op := Go.Op.indexAddr 52 (Go.Operand.tmp 101) (Go.Operand.tmp 102), type := 0, pos := "more.go:31", after := #[{ on := 1, ground := Go.Ground.data }, { on := 2, ground := Go.Ground.data }], guard := none }) (v := ?vb3) rfl (by kernel_rfl) (by kernel_rfl) (by kernel_rfl) (fun _ _ _ h => h) (Or.inl ⟨by rfl, ?hyb3⟩) hHeld ?_
                  case hyb3 => (intro w hSw; (try dsimp only at hSw); go_simp; first | done | with_reducible rfl)
                  try simp only [Act.put, List.setIfInBounds_toArray, List.set_cons_zero, List.set_cons_succ]
                  refine wpAnyH_take (i := 4) (oi := { dst := some 104, op := Go.Op.load 3 (Go.Operand.tmp 103), type := 3, pos := "more.go:31", after := #[{ on := 3, ground := Go.Ground.data }], guard := none }) (v := ?vb4) rfl (by kernel_rfl) (by kernel_rfl) (by kernel_rfl) (fun _ _ _ h => h) (Or.inl ⟨by rfl, ?hyb4⟩) hHeld ?_
                  case hyb4 => (intro w hSw; (try dsimp only at hSw); go_simp; first | done | with_reducible rfl)
                  try simp only [Act.put, List.setIfInBounds_toArray, List.set_cons_zero, List.set_cons_succ]
                  refine wpAnyH_take (i := 5) (oi := { dst := some 105, op := Go.Op.move (Go.Operand.tmp 0), type := 3, pos := "more.go:31", after := #[], guard := none }) (v := ?vb5) rfl (by kernel_rfl) (by kernel_rfl) (by kernel_rfl) (fun _ _ _ h => h) (Or.inl ⟨by rfl, ?hyb5⟩) hHeld ?_
                  case hyb5 => (intro w hSw; (try dsimp only at hSw); go_simp; first | done | with_reducible rfl)
                  try simp only [Act.put, List.setIfInBounds_toArray, List.set_cons_zero, List.set_cons_succ]
                  refine wpAnyH_take (i := 6) (oi := { dst := some 106, op := Go.Op.binOp Go.BinOp.rem 3 (Go.Operand.tmp 104) (Go.Operand.tmp 105) 3, type := 3, pos := "more.go:31", after := #[{ on := 4, ground := Go.Ground.data }, { on := 5, ground := Go.Ground.data }], guard := none }) (v := ?vb6) rfl (by kernel_rfl) (by kernel_rfl) (by kernel_rfl) (fun _ _ _ h => h) (Or.inl ⟨by rfl, ?hyb6⟩) hHeld ?_
                  case hyb6 => (intro w hSw; (try dsimp only at hSw); go_simp; first | done | with_reducible rfl)
                  try simp only [Act.put, List.setIfInBounds_toArray, List.set_cons_zero, List.set_cons_succ]
                  refine wpAnyH_take (i := 7) (oi := { dst := some 107, op := Go.Op.move (Go.Operand.tmp 12), type := 3, pos := "more.go:31", after := #[], guard := none }) (v := ?vb7) rfl (by kernel_rfl) (by kernel_rfl) (by kernel_rfl) (fun _ _ _ h => h) (Or.inl ⟨by rfl, ?hyb7⟩) hHeld ?_
                  case hyb7 => (intro w hSw; (try dsimp only at hSw); go_simp; first | done | with_reducible rfl)
                  try simp only [Act.put, List.setIfInBounds_toArray, List.set_cons_zero, List.set_cons_succ]
                  refine wpAnyH_take (i := 8) (oi := { dst := some 108, op := Go.Op.binOp Go.BinOp.add 3 (Go.Operand.tmp 107) (Go.Operand.const (Go.Value.int Go.IntKind.i64 101)) 3, type := 3, pos := "more.go:31", after := #[{ on := 7, ground := Go.Ground.data }], guard := none }) (v := ?vb8) rfl (by kernel_rfl) (by kernel_rfl) (by kernel_rfl) (fun _ _ _ h => h) (Or.inl ⟨by rfl, ?hyb8⟩) hHeld ?_
                  case hyb8 => (intro w hSw; (try dsimp only at hSw); go_simp; first | done | with_reducible rfl)
                  try simp only [Act.put, List.setIfInBounds_toArray, List.set_cons_zero, List.set_cons_succ]
                  refine wpAnyH_take (i := 9) (oi := { dst := some 109, op := Go.Op.convert 3 5 (Go.Operand.tmp 108), type := 5, pos := "more.go:31", after := #[{ on := 8, ground := Go.Ground.data }], guard := none }) (v := ?vb9) rfl (by kernel_rfl) (by kernel_rfl) (by kernel_rfl) (fun _ _ _ h => h) (Or.inl ⟨by rfl, ?hyb9⟩) hHeld ?_
                  case hyb9 => (intro w hSw; (try dsimp only at hSw); go_simp; first | done | with_reducible rfl)
                  try simp only [Act.put, List.setIfInBounds_toArray, List.set_cons_zero, List.set_cons_succ]
                  refine wpAnyH_ready (rs := [10]) (by kernel_rfl) (by simp) ?_
                  refine AllReadyH.cons (o := { dst := some 110, op := Go.Op.call { callee := Go.Callee.value (Go.Operand.func 28), args := #[Go.Operand.tmp 109], argTypes := #[5] }, type := 32, pos := "more.go:31", after := #[{ on := 9, ground := Go.Ground.data }], guard := none }) rfl (fun K hK => ?_) AllReadyH.nil
                  go_simp
                  refine (HBY.out _).mono ?_
                  rintro e wB ⟨rfl, hkB, hbB⟩
                  have hd2 := Bs.below_step hd1 hbB
                  have HWC := Lib.hid (HWR.out wB hd2 _ (hkB.all' 16 16 rfl (Nat.le_refl _)))
                  clear hkB hbB
                  go_wp2_with fail
                  refine hK.out _ _ (HCB.out _ (bstep HBS.out hd2)) (fun hHeld => ?_)
                  clear hK K
                  try simp only [Act.put, List.setIfInBounds_toArray, List.set_cons_zero, List.set_cons_succ]
                  refine wpAnyH_ready (rs := [11]) (by kernel_rfl) (by simp) ?_
                  refine AllReadyH.cons (o := { dst := some 111, op := Go.Op.call { callee := Go.Callee.value (Go.Operand.func 13), args := #[Go.Operand.tmp 100, Go.Operand.tmp 106, Go.Operand.tmp 110], argTypes := #[25, 3, 32] }, type := 26, pos := "more.go:31", after := #[{ on := 0, ground := Go.Ground.data }, { on := 6, ground := Go.Ground.data }, { on := 10, ground := Go.Ground.data }, { on := 10, ground := Go.Ground.chain }], guard := none }) rfl (fun K hK => ?_) AllReadyH.nil
                  go_simp
                  refine HWC.out.mono ?_
                  rintro e wD ⟨rfl, hdD⟩
                  have HDD := Lib.hid hdD
                  clear hdD
                  go_wp2_with fail
                  refine hK.out _ _ (HCB.out _ HDD.out.1.bel) (fun hHeld => ?_)
                  clear hK K
                  try simp only [Act.put, List.setIfInBounds_toArray, List.set_cons_zero, List.set_cons_succ]
                  refine wpAnyH_done (by kernel_rfl) ?_ _
                  go_wp2
                  go_roundw
                  case rel => exact ⟨j + 1, by omega, by go_num, fun h => absurd h (by omega), fun i hi => (by rcases Nat.lt_or_ge i j with h | h; exact HPS.out i h; obtain rfl : i = j := (by omega); rw [HQ.out]; omega), HDD.out.1, HDD.out.2⟩
                  case measure => simp [intOf]; omega
              · have hnn' : ¬ (n : Int) < 2 := by omega
                go_wp2
                go_roundw
                case rel =>
                  have hj0 := HN2.out (by omega)
                  exact ⟨n + 1, by omega, by go_num, G', _, HKD.out, HARR.out, fin_step HFIN.out (by subst hj0; exact (finS_two m L1 ys k len2 n (by omega)).symm), fun _ => HPOS.out (by omega)⟩
                case measure => simp [intOf]; omega
            · obtain rfl : j = len2 := by omega
              go_wp2
              go_roundw
              case rel =>
                refine ⟨n + 1, by omega, by go_num, G', _, HKD.out, HARR.out, fin_step HFIN.out ?_, fun _ => HPS.out⟩
                by_cases h2 : n < 2
                · exact (finS_one m L1 ys k j n h2).symm
                · have hj0 := HN2.out (by omega)
                  subst hj0
                  exact (finS_two m L1 ys k 0 n (by omega)).symm
              case measure => simp [intOf]; omega
    · obtain rfl : n = 3 := by omega
      have HPO : Hid (∀ i, i < len2 → 0 ≤ ys.getD i 0) := HPOS.out (by omega)
      obtain ⟨c, hc⟩ : ∃ c, wrs m 101 ys len2 = c := ⟨_, rfl⟩
      obtain ⟨dd, hdd⟩ : ∃ dd, len1 + 1 + len2 = dd := ⟨_, rfl⟩
      have HC := Lib.hid hc
      have HDDN := Lib.hid hdd
      obtain ⟨g0, hg0⟩ : ∃ g, G 0 = g := ⟨_, rfl⟩
      obtain ⟨g1, hg1⟩ : ∃ g, G 1 = g := ⟨_, rfl⟩
      obtain ⟨g2, hg2⟩ : ∃ g, G 2 = g := ⟨_, rfl⟩
      have HG0 := Lib.hid hg0
      have HG1 := Lib.hid hg1
      have HG2 := Lib.hid hg2
      have HKA : Hid (KA w wr (fun k => k = ar) ar G (tri (stW m L1 c dd) (stW m L1 c dd) (stW m L1 [] (len1 + 1)))) := by
        refine ⟨HKD.out.congr fun i hi => ?_, HARR.out, rfl⟩
        rw [HFIN.out i hi, ← hc, ← hdd]
        exact finS_tri m L1 ys len1 len2 i hi
      have hmk := make_false len2 (by omega) wr
      obtain ⟨al, hal⟩ : ∃ al, wr.heap.size = al := ⟨_, rfl⟩
      obtain ⟨W3, hW3⟩ : ∃ W3, wr.alloc (.cells ((List.replicate len2 false).map Value.bool).toArray 4 (0, 0)) = W3 := ⟨_, rfl⟩
      have HK3 : Hid (KA w W3 (fun k => k = ar ∨ k = al) ar G (tri (stW m L1 c dd) (stW m L1 c dd) (stW m L1 [] (len1 + 1))) ∧ BlkQ W3 al (List.replicate len2 false)) := by
        rw [← hW3, ← hal]
        exact ⟨⟨HKA.out.1.addZ _, HKA.out.2.1.keep (Below.heap_alloc _ _ _ (HKA.out.1.zlt ar rfl).2), .inl rfl⟩, heap_alloc_new wr _⟩
      have HNE : Hid (al ≠ ar) := fun e => by have := (HKA.out.1.zlt ar rfl).2; omega
      rw [hW3, hal] at hmk
      clear hc hdd hg0 hg1 hg2 hal hW3
      go_wp2
      go_loopw [14] (fun i wr => ∃ k : Nat, k ≤ len2 ∧ i = .int .i64 k ∧ KA w wr (fun k => k = ar ∨ k = al) ar G (tri (stW m L1 c dd) (stW m L1 c dd) (stW m L1 [] (len1 + 1))) ∧ BlkQ wr al (List.replicate k true ++ List.replicate (len2 - k) false)) (fun i _ => len2 - (intOf i).toNat)
      case atStart => exact ⟨0, Nat.zero_le _, rfl, HK3.out.1, by simpa using HK3.out.2⟩
      case round =>
        obtain ⟨k, hk, rfl, hka, hbq⟩ := hrel
        have HKA := Lib.hid hka
        have HBQ := Lib.hid hbq
        by_cases hlt : k < len2
        · have hck := hbq.cell k (by simp; omega)
          have hfk := hbq.frozen k
          clear hka hbq
          go_wp2
          go_roundw
          case rel =>
            refine ⟨k + 1, by omega, by go_num, ⟨HKA.out.1.set (.inr rfl) _, HKA.out.2.1.keep (setCell_other _ _ _ _ _ (Ne.symm HNE.out)), .inl rfl⟩, ?_⟩
            rw [← all_step k len2 hlt]
            exact HBQ.out.set k true
          case measure => simp [intOf]; omega
        · obtain rfl : k = len2 := by omega
          rw [Nat.sub_self] at hbq
          have hbq' : BlkQ wr al (List.replicate k true) := by simpa using hbq
          have HQ := Lib.hid (hbq'.rd k (by simp))
          clear hka hbq hbq'
          have h00 := HKA.out.2.1.cell 0 (by omega)
          rw [HG0.out] at h00
          have HCR : Hid (Calls Try.prog 19 #[.pointer (some ⟨g0, 0, none⟩), .slice (some ⟨al, 0, none⟩) k k] wr fun e b => (∃ v, e = .returned v) ∧ KA w b (fun k => k = ar ∨ k = al) ar G (tri ((stW m L1 c dd).crash (List.replicate k true)) (stW m L1 c dd) (stW m L1 [] (len1 + 1)))) :=
            (Crash_kd HKA.out.1 0 (by omega) g0 HG0.out _ rfl (by show dd < _; have := HDDN.out; omega) _ k k _ HQ.out).mono fun e b ⟨he, h1, h2⟩ => ⟨he, HKA.out.op h1 h2 tri_0⟩
          go_wp2_with fail
          refine HCR.out.mono ?_
          rintro e w4 ⟨⟨v4, rfl⟩, h4⟩
          have H4 := Lib.hid h4
          have h40 := h4.2.1.cell 0 (by omega)
          rw [HG0.out] at h40
          clear h4 h00
          have HO4 : Hid (Calls Try.prog 21 #[.pointer (some ⟨g0, 0, none⟩)] w4 fun e b => (∃ v, e = .returned v) ∧ KA w b (fun k => k = ar ∨ k = al) ar G (tri (stW m (cur L1 c) [] dd) (stW m L1 c dd) (stW m L1 [] (len1 + 1)))) :=
            (On_kd H4.out.1 0 (by omega) g0 HG0.out _ rfl).mono fun e b ⟨he, h1, h2⟩ => ⟨he, by
              have := H4.out.op h1 h2 tri_0
              show KA _ _ _ _ _ (tri _ _ _)
              rw [show (tri ((stW m L1 c dd).crash (List.replicate k true)) (stW m L1 c dd) (stW m L1 [] (len1 + 1))) 0 = (stW m L1 c dd).crash (List.replicate k true) from rfl, stW_crash, kept_all c k (by rw [← HC.out, wrs_length])] at this
              exact this⟩
          go_wp2_with fail
          refine HO4.out.mono ?_
          rintro e w5 ⟨⟨v5, rfl⟩, h5⟩
          have H5 := Lib.hid h5
          have h51 := h5.2.1.cell 1 (by omega)
          rw [HG1.out] at h51
          clear h5 h40
          have HC5 : Hid (Calls Try.prog 19 #[.pointer (some ⟨g1, 0, none⟩), .slice none 0 0] w5 fun e b => (∃ v, e = .returned v) ∧ KA w b (fun k => k = ar ∨ k = al) ar G (tri (stW m (cur L1 c) [] dd) ((stW m L1 c dd).crash []) (stW m L1 [] (len1 + 1)))) :=
            (Crash_kd H5.out.1 1 (by omega) g1 HG1.out _ rfl (by show dd < _; have := HDDN.out; omega) none 0 0 [] (RdQ.nil _ _ _)).mono fun e b ⟨he, h1, h2⟩ => ⟨he, H5.out.op h1 h2 tri_1⟩
          go_wp2_with fail
          refine HC5.out.mono ?_
          rintro e w6 ⟨⟨v6, rfl⟩, h6⟩
          have H6 := Lib.hid h6
          have h61 := h6.2.1.cell 1 (by omega)
          rw [HG1.out] at h61
          clear h6 h51
          have HO6 : Hid (Calls Try.prog 21 #[.pointer (some ⟨g1, 0, none⟩)] w6 fun e b => (∃ v, e = .returned v) ∧ KA w b (fun k => k = ar ∨ k = al) ar G (tri (stW m (cur L1 c) [] dd) (stW m L1 [] dd) (stW m L1 [] (len1 + 1)))) :=
            (On_kd H6.out.1 1 (by omega) g1 HG1.out _ rfl).mono fun e b ⟨he, h1, h2⟩ => ⟨he, H6.out.op h1 h2 tri_1⟩
          go_wp2_with fail
          refine HO6.out.mono ?_
          rintro e w7 ⟨⟨v7, rfl⟩, h7⟩
          have H7 := Lib.hid h7
          clear h7 h61
          go_wp2
          go_loopw [15] (fun i wr => ∃ t : Nat, t ≤ k ∧ i = .int .i64 t ∧ Below w7.heap.size w7 wr) (fun i _ => k - (intOf i).toNat)
          case atStart => exact ⟨0, Nat.zero_le _, rfl, Below.refl _ _⟩
          case round =>
            obtain ⟨t, ht, rfl, hb7⟩ := hrel
            have HB7 := Lib.hid hb7
            clear hb7
            by_cases htl : t < k
            · obtain ⟨gy, oy, rfl, hgy, hcy⟩ := HR2.out.cells (by omega)
              have hwfz := HR2.out.wf _ (getD_mem ys t (by rw [HR2.out.len]; exact htl))
              have hmod := sec_mod m ys t (HPO.out t htl)
              have hsl := secOf_lt m ys t (by omega)
              have HCY : Hid (∀ W, Below w7.heap.size w7 W → W.cell? ⟨gy, oy + t, none⟩ = some (.int .i64 (ys.getD t 0))) := fun W hW => ((bstep H7.out.1.bel hW).cell (p := ⟨gy, oy + t, none⟩) hgy).trans (hcy t htl)
              have HA1 : Hid (∀ W, Below w7.heap.size w7 W → W.cell? ⟨ar, 1, none⟩ = some (.pointer (some ⟨g1, 0, none⟩))) := fun W hW => by
                rw [← HG1.out]; exact (H7.out.2.1.keep (H7.out.1.stay hW ar (.inl rfl))).cell 1 (by omega)
              have HA2 : Hid (∀ W, Below w7.heap.size w7 W → W.cell? ⟨ar, 2, none⟩ = some (.pointer (some ⟨g2, 0, none⟩))) := fun W hW => by
                rw [← HG2.out]; exact (H7.out.2.1.keep (H7.out.1.stay hW ar (.inl rfl))).cell 2 (by omega)
              obtain ⟨q, hq⟩ : ∃ q, ys.getD t 0 = q := ⟨_, rfl⟩
              rw [hq] at hwfz hmod HCY
              obtain ⟨sc, hsc⟩ : ∃ sc, secOf m ys t = sc := ⟨_, rfl⟩
              rw [hsc] at hmod hsl
              have HLN : Hid ((L1 sc).length = 16) := by
                obtain ⟨Ds, h⟩ := H7.out.1
                exact (h.dk 2 (by omega)).ok.ls sc
              have HRA : Hid (∀ W, Below w7.heap.size w7 W → Calls Try.prog 23 #[.pointer (some ⟨g1, 0, none⟩), .int .i64 (sc : Int)] W fun e b => ∃ v, e = .returned (.tuple #[v, .int .i64 0]) ∧ ReadV W b v (L1 sc) ∧ Below W.heap.size W b) := fun W hW =>
                Read_kd (H7.out.1.below hW) 1 (by omega) g1 HG1.out _ rfl (sc : Int) _ _ (stW_read m L1 [] _ sc hsl)
              have HRB : Hid (∀ W, Below w7.heap.size w7 W → Calls Try.prog 23 #[.pointer (some ⟨g2, 0, none⟩), .int .i64 (sc : Int)] W fun e b => ∃ v, e = .returned (.tuple #[v, .int .i64 0]) ∧ ReadV W b v (L1 sc) ∧ Below W.heap.size W b) := fun W hW =>
                Read_kd (H7.out.1.below hW) 2 (by omega) g2 HG2.out _ rfl (sc : Int) _ _ (stW_read m L1 [] _ sc hsl)
              clear hq hsc hcy
              go_wp2_with fail
              have hd1 : Below w7.heap.size w7 wr.drew := HB7.out.drew
              refine wp_region_held_drew (S := fun W => W.cell? ⟨ar, 1, none⟩ = some (.pointer (some ⟨g1, 0, none⟩)) ∧ W.cell? ⟨gy, oy + t, none⟩ = some (.int .i64 q)) (by kernel_rfl) (⟨HA1.out _ hd1, HCY.out _ hd1⟩) (fun hHeld => ?_)
              refine wpAnyH_take (i := 0) (oi := { dst := some 144, op := Go.Op.indexAddr 57 (Go.Operand.tmp 7) (Go.Operand.const (Go.Value.int Go.IntKind.i64 1)), type := 0, pos := "more.go:43", after := #[], guard := none }) (v := ?vc0) rfl (by kernel_rfl) (by kernel_rfl) (by kernel_rfl) (fun _ _ _ h => h) (Or.inl ⟨by rfl, ?hyc0⟩) hHeld ?_
              case hyc0 => (intro w hSw; (try dsimp only at hSw); go_simp; first | done | with_reducible rfl)
              try simp only [Act.put, List.setIfInBounds_toArray, List.set_cons_zero, List.set_cons_succ]
              refine wpAnyH_take (i := 1) (oi := { dst := some 145, op := Go.Op.load 25 (Go.Operand.tmp 144), type := 25, pos := "more.go:43", after := #[{ on := 0, ground := Go.Ground.data }], guard := none }) (v := ?vc1) rfl (by kernel_rfl) (by kernel_rfl) (by kernel_rfl) (fun _ _ _ h => h) (Or.inl ⟨by rfl, ?hyc1⟩) hHeld ?_
              case hyc1 => (intro w hSw; (try dsimp only at hSw); go_simp; first | done | with_reducible rfl)
              try simp only [Act.put, List.setIfInBounds_toArray, List.set_cons_zero, List.set_cons_succ]
              refine wpAnyH_take (i := 2) (oi := { dst := some 146, op := Go.Op.move (Go.Operand.tmp 2), type := 52, pos := "more.go:43", after := #[], guard := none }) (v := ?vc2) rfl (by kernel_rfl) (by kernel_rfl) (by kernel_rfl) (fun _ _ _ h => h) (Or.inl ⟨by rfl, ?hyc2⟩) hHeld ?_
              case hyc2 => (intro w hSw; (try dsimp only at hSw); go_simp; first | done | with_reducible rfl)
              try simp only [Act.put, List.setIfInBounds_toArray, List.set_cons_zero, List.set_cons_succ]
              refine wpAnyH_take (i := 3) (oi := { dst := some 147, op := Go.Op.move (Go.Operand.tmp 15), type := 3, pos := "more.go:43", after := #[], guard := none }) (v := ?vc3) rfl (by kernel_rfl) (by kernel_rfl) (by kernel_rfl) (fun _ _ _ h => h) (Or.inl ⟨by rfl, ?hyc3⟩) hHeld ?_
              case hyc3 => (intro w hSw; (try dsimp only at hSw); go_simp; first | done | with_reducible rfl)
              try simp only [Act.put, List.setIfInBounds_toArray, List.set_cons_zero, List.set_cons_succ]
              refine wpAnyH_take (i := 4) (oi := { dst := some 148, op := Go.Op.indexAddr 52 (Go.Operand.tmp 146) (Go.Operand.tmp 147), type := 0, pos := "more.go:43", after := #[{ on := 2, ground := Go.Ground.data }, { on := 3, ground := Go.Ground.data }], guard := none }) (v := ?vc4) rfl (by kernel_rfl) (by kernel_rfl) (by kernel_rfl) (fun _ _ _ h => h) (Or.inl ⟨by rfl, ?hyc4⟩) hHeld ?_
              case hyc4 => (intro w hSw; (try dsimp only at hSw); go_simp; first | done | with_reducible rfl)
              try simp only [Act.put, List.setIfInBounds_toArray, List.set_cons_zero, List.set_cons_succ]
              refine wpAnyH_take (i := 5) (oi := { dst := some 149, op := Go.Op.load 3 (Go.Operand.tmp 148), type := 3, pos := "more.go:43", after := #[{ on := 4, ground := Go.Ground.data }], guard := none }) (v := ?vc5) rfl (by kernel_rfl) (by kernel_rfl) (by kernel_rfl) (fun _ _ _ h => h) (Or.inl ⟨by rfl, ?hyc5⟩) hHeld ?_
              case hyc5 => (intro w hSw; (try dsimp only at hSw); go_simp; first | done | with_reducible rfl)
              try simp only [Act.put, List.setIfInBounds_toArray, List.set_cons_zero, List.set_cons_succ]
              refine wpAnyH_take (i := 6) (oi := { dst := some 150, op := Go.Op.move (Go.Operand.tmp 0), type := 3, pos := "more.go:43", after := #[], guard := none }) (v := ?vc6) rfl (by kernel_rfl) (by kernel_rfl) (by kernel_rfl) (fun _ _ _ h => h) (Or.inl ⟨by rfl, ?hyc6⟩) hHeld ?_
              case hyc6 => (intro w hSw; (try dsimp only at hSw); go_simp; first | done | with_reducible rfl)
              try simp only [Act.put, List.setIfInBounds_toArray, List.set_cons_zero, List.set_cons_succ]
              refine wpAnyH_take (i := 7) (oi := { dst := some 151, op := Go.Op.binOp Go.BinOp.rem 3 (Go.Operand.tmp 149) (Go.Operand.tmp 150) 3, type := 3, pos := "more.go:43", after := #[{ on := 5, ground := Go.Ground.data }, { on := 6, ground := Go.Ground.data }], guard := none }) (v := ?vc7) rfl (by kernel_rfl) (by kernel_rfl) (by kernel_rfl) (fun _ _ _ h => h) (Or.inl ⟨by rfl, ?hyc7⟩) hHeld ?_
              case hyc7 => (intro w hSw; (try dsimp only at hSw); go_simp; first | done | with_reducible rfl)
              try simp only [Act.put, List.setIfInBounds_toArray, List.set_cons_zero, List.set_cons_succ]
              refine wpAnyH_ready (rs := [8]) (by kernel_rfl) (by simp) ?_
              refine AllReadyH.cons (o := { dst := some 152, op := Go.Op.call { callee := Go.Callee.value (Go.Operand.func 23), args := #[Go.Operand.tmp 145, Go.Operand.tmp 151], argTypes := #[25, 3] }, type := 40, pos := "more.go:43", after := #[{ on := 1, ground := Go.Ground.data }, { on := 7, ground := Go.Ground.data }], guard := none }) rfl (fun K hK => ?_) AllReadyH.nil
              go_simp
              refine (HRA.out _ hd1).mono ?_
              rintro e wP ⟨vP, rfl, hvP, hbP⟩
              obtain ⟨rfl, hkP⟩ := readV_rd hvP 16 HLN.out (by omega)
              have hd2 := hd1.trans (hbP.mono hd1.size)
              obtain ⟨zP, hzP⟩ : ∃ z, wr.drew.heap.size = z := ⟨_, rfl⟩
              rw [hzP] at hkP ⊢
              have HKP := Lib.hid hkP
              clear hvP hkP hbP hzP
              go_wp2_with fail
              refine hK.out _ _ (⟨HA1.out _ hd2, HCY.out _ hd2⟩) (fun hHeld => ?_)
              clear hK K
              try simp only [Act.put, List.setIfInBounds_toArray, List.set_cons_zero, List.set_cons_succ]
              refine wpAnyH_take (i := 9) (oi := { dst := some 143, op := Go.Op.move (Go.Operand.tmp 152), type := 40, pos := "more.go:43", after := #[{ on := 8, ground := Go.Ground.data }], guard := none }) (v := ?vc9) rfl (by kernel_rfl) (by kernel_rfl) (by kernel_rfl) (fun _ _ _ h => h) (Or.inl ⟨by rfl, ?hyc9⟩) hHeld ?_
              case hyc9 => (intro w hSw; (try dsimp only at hSw); go_simp; first | done | with_reducible rfl)
              try simp only [Act.put, List.setIfInBounds_toArray, List.set_cons_zero, List.set_cons_succ]
              refine wpAnyH_take (i := 10) (oi := { dst := some 153, op := Go.Op.extract (Go.Operand.tmp 143) 0, type := 32, pos := "more.go:43", after := #[{ on := 9, ground := Go.Ground.data }], guard := none }) (v := ?vc10) rfl (by kernel_rfl) (by kernel_rfl) (by kernel_rfl) (fun _ _ _ h => h) (Or.inl ⟨by rfl, ?hyc10⟩) hHeld ?_
              case hyc10 => (intro w hSw; (try dsimp only at hSw); go_simp; first | done | with_reducible rfl)
              try simp only [Act.put, List.setIfInBounds_toArray, List.set_cons_zero, List.set_cons_succ]
              refine wpAnyH_take (i := 11) (oi := { dst := some 154, op := Go.Op.extract (Go.Operand.tmp 143) 1, type := 26, pos := "more.go:43", after := #[{ on := 9, ground := Go.Ground.data }, { on := 12, ground := Go.Ground.gcOnly Go.Departure.lateStores }], guard := none }) (v := ?vc11) rfl (by kernel_rfl) (by kernel_rfl) (by kernel_rfl) (fun _ _ _ h => h) (Or.inl ⟨by rfl, ?hyc11⟩) hHeld ?_
              case hyc11 => (intro w hSw; (try dsimp only at hSw); go_simp; first | done | with_reducible rfl)
              try simp only [Act.put, List.setIfInBounds_toArray, List.set_cons_zero, List.set_cons_succ]
              refine wpAnyH_take (i := 12) (oi := { dst := some 16, op := Go.Op.assign (Go.Operand.tmp 153), type := 32, pos := "more.go:43", after := #[{ on := 10, ground := Go.Ground.data }, { on := 8, ground := Go.Ground.chain }, { on := 0, ground := Go.Ground.phase }, { on := 1, ground := Go.Ground.phase }, { on := 2, ground := Go.Ground.phase }, { on := 3, ground := Go.Ground.phase }, { on := 4, ground := Go.Ground.phase }, { on := 5, ground := Go.Ground.phase }, { on := 6, ground := Go.Ground.phase }, { on := 7, ground := Go.Ground.phase }, { on := 8, ground := Go.Ground.phase }, { on := 9, ground := Go.Ground.phase }, { on := 10, ground := Go.Ground.phase }, { on := 11, ground := Go.Ground.textOnly Go.Departure.lateStores }], guard := none }) (v := ?vc12) rfl (by kernel_rfl) (by kernel_rfl) (by kernel_rfl) (fun _ _ _ h => h) (Or.inl ⟨by rfl, ?hyc12⟩) hHeld ?_
              case hyc12 => (intro w hSw; (try dsimp only at hSw); go_simp; first | done | with_reducible rfl)
              try simp only [Act.put, List.setIfInBounds_toArray, List.set_cons_zero, List.set_cons_succ]
              refine wpAnyH_take (i := 13) (oi := { dst := some 17, op := Go.Op.assign (Go.Operand.tmp 154), type := 26, pos := "more.go:43", after := #[{ on := 11, ground := Go.Ground.data }, { on := 12, ground := Go.Ground.chain }, { on := 0, ground := Go.Ground.phase }, { on := 1, ground := Go.Ground.phase }, { on := 2, ground := Go.Ground.phase }, { on := 3, ground := Go.Ground.phase }, { on := 4, ground := Go.Ground.phase }, { on := 5, ground := Go.Ground.phase }, { on := 6, ground := Go.Ground.phase }, { on := 7, ground := Go.Ground.phase }, { on := 8, ground := Go.Ground.phase }, { on := 9, ground := Go.Ground.phase }, { on := 10, ground := Go.Ground.phase }, { on := 11, ground := Go.Ground.phase }, { on := 12, ground := Go.Ground.phase }], guard := none }) (v := ?vc13) rfl (by kernel_rfl) (by kernel_rfl) (by kernel_rfl) (fun _ _ _ h => h) (Or.inl ⟨by rfl, ?hyc13⟩) hHeld ?_
              case hyc13 => (intro w hSw; (try dsimp only at hSw); go_simp; first | done | with_reducible rfl)
              try simp only [Act.put, List.setIfInBounds_toArray, List.set_cons_zero, List.set_cons_succ]
              refine wpAnyH_done (by kernel_rfl) ?_ _
              go_wp2_with fail
              have hd3 : Below w7.heap.size w7 wP.drew := hd2.drew
              refine wp_region_held_drew (S := fun W => W.cell? ⟨ar, 2, none⟩ = some (.pointer (some ⟨g2, 0, none⟩)) ∧ W.cell? ⟨gy, oy + t, none⟩ = some (.int .i64 q)) (by kernel_rfl) (⟨HA2.out _ hd3, HCY.out _ hd3⟩) (fun hHeld => ?_)
              refine wpAnyH_take (i := 0) (oi := { dst := some 156, op := Go.Op.indexAddr 57 (Go.Operand.tmp 7) (Go.Operand.const (Go.Value.int Go.IntKind.i64 2)), type := 0, pos := "more.go:44", after := #[], guard := none }) (v := ?vd0) rfl (by kernel_rfl) (by kernel_rfl) (by kernel_rfl) (fun _ _ _ h => h) (Or.inl ⟨by rfl, ?hyd0⟩) hHeld ?_
              case hyd0 => (intro w hSw; (try dsimp only at hSw); go_simp; first | done | with_reducible rfl)
              try simp only [Act.put, List.setIfInBounds_toArray, List.set_cons_zero, List.set_cons_succ]
              refine wpAnyH_take (i := 1) (oi := { dst := some 157, op := Go.Op.load 25 (Go.Operand.tmp 156), type := 25, pos := "more.go:44", after := #[{ on := 0, ground := Go.Ground.data }], guard := none }) (v := ?vd1) rfl (by kernel_rfl) (by kernel_rfl) (by kernel_rfl) (fun _ _ _ h => h) (Or.inl ⟨by rfl, ?hyd1⟩) hHeld ?_
              case hyd1 => (intro w hSw; (try dsimp only at hSw); go_simp; first | done | with_reducible rfl)
              try simp only [Act.put, List.setIfInBounds_toArray, List.set_cons_zero, List.set_cons_succ]
              refine wpAnyH_take (i := 2) (oi := { dst := some 158, op := Go.Op.move (Go.Operand.tmp 2), type := 52, pos := "more.go:44", after := #[], guard := none }) (v := ?vd2) rfl (by kernel_rfl) (by kernel_rfl) (by kernel_rfl) (fun _ _ _ h => h) (Or.inl ⟨by rfl, ?hyd2⟩) hHeld ?_
              case hyd2 => (intro w hSw; (try dsimp only at hSw); go_simp; first | done | with_reducible rfl)
              try simp only [Act.put, List.setIfInBounds_toArray, List.set_cons_zero, List.set_cons_succ]
              refine wpAnyH_take (i := 3) (oi := { dst := some 159, op := Go.Op.move (Go.Operand.tmp 15), type := 3, pos := "more.go:44", after := #[], guard := none }) (v := ?vd3) rfl (by kernel_rfl) (by kernel_rfl) (by kernel_rfl) (fun _ _ _ h => h) (Or.inl ⟨by rfl, ?hyd3⟩) hHeld ?_
              case hyd3 => (intro w hSw; (try dsimp only at hSw); go_simp; first | done | with_reducible rfl)
              try simp only [Act.put, List.setIfInBounds_toArray, List.set_cons_zero, List.set_cons_succ]
              refine wpAnyH_take (i := 4) (oi := { dst := some 160, op := Go.Op.indexAddr 52 (Go.Operand.tmp 158) (Go.Operand.tmp 159), type := 0, pos := "more.go:44", after := #[{ on := 2, ground := Go.Ground.data }, { on := 3, ground := Go.Ground.data }], guard := none }) (v := ?vd4) rfl (by kernel_rfl) (by kernel_rfl) (by kernel_rfl) (fun _ _ _ h => h) (Or.inl ⟨by rfl, ?hyd4⟩) hHeld ?_
              case hyd4 => (intro w hSw; (try dsimp only at hSw); go_simp; first | done | with_reducible rfl)
              try simp only [Act.put, List.setIfInBounds_toArray, List.set_cons_zero, List.set_cons_succ]
              refine wpAnyH_take (i := 5) (oi := { dst := some 161, op := Go.Op.load 3 (Go.Operand.tmp 160), type := 3, pos := "more.go:44", after := #[{ on := 4, ground := Go.Ground.data }], guard := none }) (v := ?vd5) rfl (by kernel_rfl) (by kernel_rfl) (by kernel_rfl) (fun _ _ _ h => h) (Or.inl ⟨by rfl, ?hyd5⟩) hHeld ?_
              case hyd5 => (intro w hSw; (try dsimp only at hSw); go_simp; first | done | with_reducible rfl)
              try simp only [Act.put, List.setIfInBounds_toArray, List.set_cons_zero, List.set_cons_succ]
              refine wpAnyH_take (i := 6) (oi := { dst := some 162, op := Go.Op.move (Go.Operand.tmp 0), type := 3, pos := "more.go:44", after := #[], guard := none }) (v := ?vd6) rfl (by kernel_rfl) (by kernel_rfl) (by kernel_rfl) (fun _ _ _ h => h) (Or.inl ⟨by rfl, ?hyd6⟩) hHeld ?_
              case hyd6 => (intro w hSw; (try dsimp only at hSw); go_simp; first | done | with_reducible rfl)
              try simp only [Act.put, List.setIfInBounds_toArray, List.set_cons_zero, List.set_cons_succ]
              refine wpAnyH_take (i := 7) (oi := { dst := some 163, op := Go.Op.binOp Go.BinOp.rem 3 (Go.Operand.tmp 161) (Go.Operand.tmp 162) 3, type := 3, pos := "more.go:44", after := #[{ on := 5, ground := Go.Ground.data }, { on := 6, ground := Go.Ground.data }], guard := none }) (v := ?vd7) rfl (by kernel_rfl) (by kernel_rfl) (by kernel_rfl) (fun _ _ _ h => h) (Or.inl ⟨by rfl, ?hyd7⟩) hHeld ?_
              case hyd7 => (intro w hSw; (try dsimp only at hSw); go_simp; first | done | with_reducible rfl)
              try simp only [Act.put, List.setIfInBounds_toArray, List.set_cons_zero, List.set_cons_succ]
              refine wpAnyH_ready (rs := [8]) (by kernel_rfl) (by simp) ?_
              refine AllReadyH.cons (o := { dst := some 164, op := Go.Op.call { callee := Go.Callee.value (Go.Operand.func 23), args := #[Go.Operand.tmp 157, Go.Operand.tmp 163], argTypes := #[25, 3] }, type := 40, pos := "more.go:44", after := #[{ on := 1, ground := Go.Ground.data }, { on := 7, ground := Go.Ground.data }], guard := none }) rfl (fun K hK => ?_) AllReadyH.nil
              go_simp
              refine (HRB.out _ hd3).mono ?_
              rintro e wQ ⟨vQ, rfl, hvQ, hbQ⟩
              obtain ⟨rfl, hkQ⟩ := readV_rd hvQ 16 HLN.out (by omega)
              have hd4 := hd3.trans (hbQ.mono hd3.size)
              obtain ⟨zQ, hzQ⟩ : ∃ z, wP.drew.heap.size = z := ⟨_, rfl⟩
              have HBQ2 : Hid (Below wP.heap.size wP wQ) := ⟨hbQ.os, hbQ.tape, hbQ.output, hbQ.size, hbQ.block⟩
              rw [hzQ] at hkQ ⊢
              have HKQ := Lib.hid hkQ
              clear hvQ hkQ hbQ hzQ
              go_wp2_with fail
              refine hK.out _ _ (⟨HA2.out _ hd4, HCY.out _ hd4⟩) (fun hHeld => ?_)
              clear hK K
              try simp only [Act.put, List.setIfInBounds_toArray, List.set_cons_zero, List.set_cons_succ]
              refine wpAnyH_take (i := 9) (oi := { dst := some 155, op := Go.Op.move (Go.Operand.tmp 164), type := 40, pos := "more.go:44", after := #[{ on := 8, ground := Go.Ground.data }], guard := none }) (v := ?vd9) rfl (by kernel_rfl) (by kernel_rfl) (by kernel_rfl) (fun _ _ _ h => h) (Or.inl ⟨by rfl, ?hyd9⟩) hHeld ?_
              case hyd9 => (intro w hSw; (try dsimp only at hSw); go_simp; first | done | with_reducible rfl)
              try simp only [Act.put, List.setIfInBounds_toArray, List.set_cons_zero, List.set_cons_succ]
              refine wpAnyH_take (i := 10) (oi := { dst := some 165, op := Go.Op.extract (Go.Operand.tmp 155) 0, type := 32, pos := "more.go:44", after := #[{ on := 9, ground := Go.Ground.data }], guard := none }) (v := ?vd10) rfl (by kernel_rfl) (by kernel_rfl) (by kernel_rfl) (fun _ _ _ h => h) (Or.inl ⟨by rfl, ?hyd10⟩) hHeld ?_
              case hyd10 => (intro w hSw; (try dsimp only at hSw); go_simp; first | done | with_reducible rfl)
              try simp only [Act.put, List.setIfInBounds_toArray, List.set_cons_zero, List.set_cons_succ]
              refine wpAnyH_take (i := 11) (oi := { dst := some 166, op := Go.Op.extract (Go.Operand.tmp 155) 1, type := 26, pos := "more.go:44", after := #[{ on := 9, ground := Go.Ground.data }, { on := 12, ground := Go.Ground.gcOnly Go.Departure.lateStores }], guard := none }) (v := ?vd11) rfl (by kernel_rfl) (by kernel_rfl) (by kernel_rfl) (fun _ _ _ h => h) (Or.inl ⟨by rfl, ?hyd11⟩) hHeld ?_
              case hyd11 => (intro w hSw; (try dsimp only at hSw); go_simp; first | done | with_reducible rfl)
              try simp only [Act.put, List.setIfInBounds_toArray, List.set_cons_zero, List.set_cons_succ]
              refine wpAnyH_take (i := 12) (oi := { dst := some 18, op := Go.Op.assign (Go.Operand.tmp 165), type := 32, pos := "more.go:44", after := #[{ on := 10, ground := Go.Ground.data }, { on := 8, ground := Go.Ground.chain }, { on := 0, ground := Go.Ground.phase }, { on := 1, ground := Go.Ground.phase }, { on := 2, ground := Go.Ground.phase }, { on := 3, ground := Go.Ground.phase }, { on := 4, ground := Go.Ground.phase }, { on := 5, ground := Go.Ground.phase }, { on := 6, ground := Go.Ground.phase }, { on := 7, ground := Go.Ground.phase }, { on := 8, ground := Go.Ground.phase }, { on := 9, ground := Go.Ground.phase }, { on := 10, ground := Go.Ground.phase }, { on := 11, ground := Go.Ground.textOnly Go.Departure.lateStores }], guard := none }) (v := ?vd12) rfl (by kernel_rfl) (by kernel_rfl) (by kernel_rfl) (fun _ _ _ h => h) (Or.inl ⟨by rfl, ?hyd12⟩) hHeld ?_
              case hyd12 => (intro w hSw; (try dsimp only at hSw); go_simp; first | done | with_reducible rfl)
              try simp only [Act.put, List.setIfInBounds_toArray, List.set_cons_zero, List.set_cons_succ]
              refine wpAnyH_take (i := 13) (oi := { dst := some 19, op := Go.Op.assign (Go.Operand.tmp 166), type := 26, pos := "more.go:44", after := #[{ on := 11, ground := Go.Ground.data }, { on := 12, ground := Go.Ground.chain }, { on := 0, ground := Go.Ground.phase }, { on := 1, ground := Go.Ground.phase }, { on := 2, ground := Go.Ground.phase }, { on := 3, ground := Go.Ground.phase }, { on := 4, ground := Go.Ground.phase }, { on := 5, ground := Go.Ground.phase }, { on := 6, ground := Go.Ground.phase }, { on := 7, ground := Go.Ground.phase }, { on := 8, ground := Go.Ground.phase }, { on := 9, ground := Go.Ground.phase }, { on := 10, ground := Go.Ground.phase }, { on := 11, ground := Go.Ground.phase }, { on := 12, ground := Go.Ground.phase }], guard := none }) (v := ?vd13) rfl (by kernel_rfl) (by kernel_rfl) (by kernel_rfl) (fun _ _ _ h => h) (Or.inl ⟨by rfl, ?hyd13⟩) hHeld ?_
              case hyd13 => (intro w hSw; (try dsimp only at hSw); go_simp; first | done | with_reducible rfl)
              try simp only [Act.put, List.setIfInBounds_toArray, List.set_cons_zero, List.set_cons_succ]
              refine wpAnyH_done (by kernel_rfl) ?_ _
              have e5 := string_rd wQ _ _ _ _ ((HKP.out.all' 16 16 HLN.out (Nat.le_refl _)).keep HBQ2.out)
              have e6 := string_rd wQ _ _ _ _ (HKQ.out.all' 16 16 HLN.out (Nat.le_refl _))
              go_wp2
              go_roundw
              case rel => exact ⟨t + 1, by omega, by go_num, hd4⟩
              case measure => simp [intOf]; omega
            · obtain rfl : t = k := by omega
              have H8 : Hid (KA w wr (fun k => k = ar ∨ k = al) ar G (tri (stW m (cur L1 c) [] dd) (stW m L1 [] dd) (stW m L1 [] (len1 + 1)))) :=
                ⟨H7.out.1.below HB7.out, H7.out.2.1.keep (H7.out.1.stay HB7.out ar (.inl rfl)), .inl rfl⟩
              go_wp2
              go_loopw [20] (fun i wr => ∃ j : Nat, j ≤ t ∧ i = .int .i64 j ∧ KA w wr (fun k => k = ar ∨ k = al) ar G (tri (stW m (cur L1 c) [] dd) (stW m L1 [] dd) (stW m L1 (wrs m 101 ys j) (len1 + 1 + j)))) (fun i _ => t - (intOf i).toNat)
              case atStart => exact ⟨0, Nat.zero_le _, rfl, H8.out⟩
              case round =>
                obtain ⟨j, hj, rfl, hka⟩ := hrel
                have HKA := Lib.hid hka
                clear hka
                by_cases hjlt : j < t
                · obtain ⟨gy, oy, rfl, hgy, hcy⟩ := HR2.out.cells (by omega)
                  have hwfz := HR2.out.wf _ (getD_mem ys j (by rw [HR2.out.len]; exact hjlt))
                  have hmod := sec_mod m ys j (HPO.out j hjlt)
                  have hsl := secOf_lt m ys j (by omega)
                  have HWQ := Lib.hid (wrs_succ m 101 ys j)
                  obtain ⟨q, hq⟩ : ∃ q, ys.getD j 0 = q := ⟨_, rfl⟩
                  obtain ⟨sc, hsc⟩ : ∃ sc, secOf m ys j = sc := ⟨_, rfl⟩
                  have HCB : Hid (∀ W, KA w W (fun k => k = ar ∨ k = al) ar G (tri (stW m (cur L1 c) [] dd) (stW m L1 [] dd) (stW m L1 (wrs m 101 ys j) (len1 + 1 + j))) ∨ KA w W (fun k => k = ar ∨ k = al) ar G (tri (stW m (cur L1 c) [] dd) (stW m L1 [] dd) (stW m L1 (wrs m 101 ys (j + 1)) (len1 + 1 + (j + 1)))) → W.cell? ⟨ar, 2, none⟩ = some (.pointer (some ⟨g2, 0, none⟩)) ∧ W.cell? ⟨gy, oy + j, none⟩ = some (.int .i64 q)) := fun W hW => by
                    rw [← HG2.out, ← hq]
                    rcases hW with h | h
                    · exact ⟨h.2.1.cell 2 (by omega), (h.1.bel.cell (p := ⟨gy, oy + j, none⟩) hgy).trans (hcy j hjlt)⟩
                    · exact ⟨h.2.1.cell 2 (by omega), (h.1.bel.cell (p := ⟨gy, oy + j, none⟩) hgy).trans (hcy j hjlt)⟩
                  rw [hq] at hwfz hmod
                  rw [hsc] at hmod hsl HWQ
                  have hi64 : IntKind.i64.wrap ((j : Int) + 101) = (j : Int) + 101 := IntWalk.i64_in _ (by omega)
                  have hu8 : IntKind.u8.wrap ((j : Int) + 101) = (j : Int) + 101 := by rw [IntKind.wrap_u8']; omega
                  have hBx := u8_val j 101 (by omega)
                  have HBY : Hid (∀ W, Calls Try.prog 28 #[.int .u8 ((j : Int) + 101)] W fun e w' => e = .returned (.slice (some ⟨W.heap.size, 0, none⟩) 16 16) ∧ Blk w' W.heap.size 5 (byN (j + 101)) ∧ Below W.heap.size W w') := fun W => by rw [show ((j : Int) + 101) = ((j : Int) + (101 : Nat)) from rfl, hBx]; exact bytes_any _ W
                  have HKW : Hid (∀ W, Below wr.heap.size wr W → KA w W (fun k => k = ar ∨ k = al) ar G (tri (stW m (cur L1 c) [] dd) (stW m L1 [] dd) (stW m L1 (wrs m 101 ys j) (len1 + 1 + j)))) := fun W hW => ⟨HKA.out.1.below hW, HKA.out.2.1.keep (HKA.out.1.stay hW ar (.inl rfl)), .inl rfl⟩
                  have HWR : Hid (∀ W, Below wr.heap.size wr W → ∀ A, Rd W A 16 16 (byN (j + 101)) → Calls Try.prog 13 #[.pointer (some ⟨g2, 0, none⟩), .int .i64 (sc : Int), .slice A 16 16] W fun e b => e = .returned (.int .i64 0) ∧ KA w b (fun k => k = ar ∨ k = al) ar G (tri (stW m (cur L1 c) [] dd) (stW m L1 [] dd) (stW m L1 (wrs m 101 ys (j + 1)) (len1 + 1 + (j + 1))))) := fun W hW A hA => by
                    refine (Write_kd (HKW.out W hW).1 2 (by omega) g2 HG2.out _ rfl (stW_fine _ _ _ _ (by rw [wrs_length]; omega)) (by show len1 + 1 + j < _; omega) (sc : Int) A 16 16 _ hA (by omega) _ _ (stW_write _ _ _ _ _ hsl _ rfl)).mono ?_
                    rintro e b ⟨he, hkd, hst⟩
                    rw [← HWQ.out] at hkd
                    exact ⟨he, (HKW.out W hW).op hkd hst tri_2⟩
                  clear hq hsc hcy hBx
                  go_wp2_with fail
                  have hd1 : Below wr.heap.size wr wr.drew := (Below.refl _ _).drew
                  refine wp_region_held_drew (S := fun W => W.cell? ⟨ar, 2, none⟩ = some (.pointer (some ⟨g2, 0, none⟩)) ∧ W.cell? ⟨gy, oy + j, none⟩ = some (.int .i64 q)) (by kernel_rfl) (HCB.out _ (.inl (HKW.out _ hd1))) (fun hHeld => ?_)
                  refine wpAnyH_take (i := 0) (oi := { dst := some 178, op := Go.Op.indexAddr 57 (Go.Operand.tmp 7) (Go.Operand.const (Go.Value.int Go.IntKind.i64 2)), type := 0, pos := "more.go:50", after := #[], guard := none }) (v := ?ve0) rfl (by kernel_rfl) (by kernel_rfl) (by kernel_rfl) (fun _ _ _ h => h) (Or.inl ⟨by rfl, ?hye0⟩) hHeld ?_
                  case hye0 => (intro w hSw; (try dsimp only at hSw); go_simp; first | done | with_reducible rfl)
                  try simp only [Act.put, List.setIfInBounds_toArray, List.set_cons_zero, List.set_cons_succ]
                  refine wpAnyH_take (i := 1) (oi := { dst := some 179, op := Go.Op.load 25 (Go.Operand.tmp 178), type := 25, pos := "more.go:50", after := #[{ on := 0, ground := Go.Ground.data }], guard := none }) (v := ?ve1) rfl (by kernel_rfl) (by kernel_rfl) (by kernel_rfl) (fun _ _ _ h => h) (Or.inl ⟨by rfl, ?hye1⟩) hHeld ?_
                  case hye1 => (intro w hSw; (try dsimp only at hSw); go_simp; first | done | with_reducible rfl)
                  try simp only [Act.put, List.setIfInBounds_toArray, List.set_cons_zero, List.set_cons_succ]
                  refine wpAnyH_take (i := 2) (oi := { dst := some 180, op := Go.Op.move (Go.Operand.tmp 2), type := 52, pos := "more.go:50", after := #[], guard := none }) (v := ?ve2) rfl (by kernel_rfl) (by kernel_rfl) (by kernel_rfl) (fun _ _ _ h => h) (Or.inl ⟨by rfl, ?hye2⟩) hHeld ?_
                  case hye2 => (intro w hSw; (try dsimp only at hSw); go_simp; first | done | with_reducible rfl)
                  try simp only [Act.put, List.setIfInBounds_toArray, List.set_cons_zero, List.set_cons_succ]
                  refine wpAnyH_take (i := 3) (oi := { dst := some 181, op := Go.Op.move (Go.Operand.tmp 20), type := 3, pos := "more.go:50", after := #[], guard := none }) (v := ?ve3) rfl (by kernel_rfl) (by kernel_rfl) (by kernel_rfl) (fun _ _ _ h => h) (Or.inl ⟨by rfl, ?hye3⟩) hHeld ?_
                  case hye3 => (intro w hSw; (try dsimp only at hSw); go_simp; first | done | with_reducible rfl)
                  try simp only [Act.put, List.setIfInBounds_toArray, List.set_cons_zero, List.set_cons_succ]
                  refine wpAnyH_take (i := 4) (oi := { dst := some 182, op := Go.Op.indexAddr 52 (Go.Operand.tmp 180) (Go.Operand.tmp 181), type := 0, pos := "more.go:50", after := #[{ on := 2, ground := Go.Ground.data }, { on := 3, ground := Go.Ground.data }], guard := none }) (v := ?ve4) rfl (by kernel_rfl) (by kernel_rfl) (by kernel_rfl) (fun _ _ _ h => h) (Or.inl ⟨by rfl, ?hye4⟩) hHeld ?_
                  case hye4 => (intro w hSw; (try dsimp only at hSw); go_simp; first | done | with_reducible rfl)
                  try simp only [Act.put, List.setIfInBounds_toArray, List.set_cons_zero, List.set_cons_succ]
                  refine wpAnyH_take (i := 5) (oi := { dst := some 183, op := Go.Op.load 3 (Go.Operand.tmp 182), type := 3, pos := "more.go:50", after := #[{ on := 4, ground := Go.Ground.data }], guard := none }) (v := ?ve5) rfl (by kernel_rfl) (by kernel_rfl) (by kernel_rfl) (fun _ _ _ h => h) (Or.inl ⟨by rfl, ?hye5⟩) hHeld ?_
                  case hye5 => (intro w hSw; (try dsimp only at hSw); go_simp; first | done | with_reducible rfl)
                  try simp only [Act.put, List.setIfInBounds_toArray, List.set_cons_zero, List.set_cons_succ]
                  refine wpAnyH_take (i := 6) (oi := { dst := some 184, op := Go.Op.move (Go.Operand.tmp 0), type := 3, pos := "more.go:50", after := #[], guard := none }) (v := ?ve6) rfl (by kernel_rfl) (by kernel_rfl) (by kernel_rfl) (fun _ _ _ h => h) (Or.inl ⟨by rfl, ?hye6⟩) hHeld ?_
                  case hye6 => (intro w hSw; (try dsimp only at hSw); go_simp; first | done | with_reducible rfl)
                  try simp only [Act.put, List.setIfInBounds_toArray, List.set_cons_zero, List.set_cons_succ]
                  refine wpAnyH_take (i := 7) (oi := { dst := some 185, op := Go.Op.binOp Go.BinOp.rem 3 (Go.Operand.tmp 183) (Go.Operand.tmp 184) 3, type := 3, pos := "more.go:50", after := #[{ on := 5, ground := Go.Ground.data }, { on := 6, ground := Go.Ground.data }], guard := none }) (v := ?ve7) rfl (by kernel_rfl) (by kernel_rfl) (by kernel_rfl) (fun _ _ _ h => h) (Or.inl ⟨by rfl, ?hye7⟩) hHeld ?_
                  case hye7 => (intro w hSw; (try dsimp only at hSw); go_simp; first | done | with_reducible rfl)
                  try simp only [Act.put, List.setIfInBounds_toArray, List.set_cons_zero, List.set_cons_succ]
                  refine wpAnyH_take (i := 8) (oi := { dst := some 186, op := Go.Op.move (Go.Operand.tmp 20), type := 3, pos := "more.go:50", after := #[], guard := none }) (v := ?ve8) rfl (by kernel_rfl) (by kernel_rfl) (by kernel_rfl) (fun _ _ _ h => h) (Or.inl ⟨by rfl, ?hye8⟩) hHeld ?_
                  case hye8 => (intro w hSw; (try dsimp only at hSw); go_simp; first | done | with_reducible rfl)
                  try simp only [Act.put, List.setIfInBounds_toArray, List.set_cons_zero, List.set_cons_succ]
                  refine wpAnyH_take (i := 9) (oi := { dst := some 187, op := Go.Op.binOp Go.BinOp.add 3 (Go.Operand.tmp 186) (Go.Operand.const (Go.Value.int Go.IntKind.i64 101)) 3, type := 3, pos := "more.go:50", after := #[{ on := 8, ground := Go.Ground.data }], guard := none }) (v := ?ve9) rfl (by kernel_rfl) (by kernel_rfl) (by kernel_rfl) (fun _ _ _ h => h) (Or.inl ⟨by rfl, ?hye9⟩) hHeld ?_
                  case hye9 => (intro w hSw; (try dsimp only at hSw); go_simp; first | done | with_reducible rfl)
                  try simp only [Act.put, List.setIfInBounds_toArray, List.set_cons_zero, List.set_cons_succ]
                  refine wpAnyH_take (i := 10) (oi := { dst := some 188, op := Go.Op.convert 3 5 (Go.Operand.tmp 187), type := 5, pos := "more.go:50", after := #[{ on := 9, ground := Go.Ground.data }], guard := none }) (v := ?ve10) rfl (by kernel_rfl) (by kernel_rfl) (by kernel_rfl) (fun _ _ _ h => h) (Or.inl ⟨by rfl, ?hye10⟩) hHeld ?_
                  case hye10 => (intro w hSw; (try dsimp only at hSw); go_simp; first | done | with_reducible rfl)
                  try simp only [Act.put, List.setIfInBounds_toArray, List.set_cons_zero, List.set_cons_succ]
                  refine wpAnyH_ready (rs := [11]) (by kernel_rfl) (by simp) ?_
                  refine AllReadyH.cons (o := { dst := some 189, op := Go.Op.call { callee := Go.Callee.value (Go.Operand.func 28), args := #[Go.Operand.tmp 188], argTypes := #[5] }, type := 32, pos := "more.go:50", after := #[{ on := 10, ground := Go.Ground.data }], guard := none }) rfl (fun K hK => ?_) AllReadyH.nil
                  go_simp
                  refine (HBY.out _).mono ?_
                  rintro e wB ⟨rfl, hkB, hbB⟩
                  have hd2 := Bs.below_step hd1 hbB
                  have HWC := Lib.hid (HWR.out wB hd2 _ (hkB.all' 16 16 rfl (Nat.le_refl _)))
                  clear hkB hbB
                  go_wp2_with fail
                  refine hK.out _ _ (HCB.out _ (.inl (HKW.out _ hd2))) (fun hHeld => ?_)
                  clear hK K
                  try simp only [Act.put, List.setIfInBounds_toArray, List.set_cons_zero, List.set_cons_succ]
                  refine wpAnyH_ready (rs := [12]) (by kernel_rfl) (by simp) ?_
                  refine AllReadyH.cons (o := { dst := some 190, op := Go.Op.call { callee := Go.Callee.value (Go.Operand.func 13), args := #[Go.Operand.tmp 179, Go.Operand.tmp 185, Go.Operand.tmp 189], argTypes := #[25, 3, 32] }, type := 26, pos := "more.go:50", after := #[{ on := 1, ground := Go.Ground.data }, { on := 7, ground := Go.Ground.data }, { on := 11, ground := Go.Ground.data }, { on := 11, ground := Go.Ground.chain }], guard := none }) rfl (fun K hK => ?_) AllReadyH.nil
                  go_simp
                  refine HWC.out.mono ?_
                  rintro e wD ⟨rfl, hdD⟩
                  have HDD := Lib.hid hdD
                  clear hdD
                  go_wp2_with fail
                  refine hK.out _ _ (HCB.out _ (.inr HDD.out)) (fun hHeld => ?_)
                  clear hK K
                  try simp only [Act.put, List.setIfInBounds_toArray, List.set_cons_zero, List.set_cons_succ]
                  refine wpAnyH_done (by kernel_rfl) ?_ _
                  go_wp2
                  go_roundw
                  case rel => exact ⟨j + 1, by omega, by go_num, HDD.out⟩
                  case measure => simp [intOf]; omega
                · obtain rfl : j = t := by omega
                  have h82 := HKA.out.2.1.cell 2 (by omega)
                  rw [HG2.out] at h82
                  have HFL : Hid (Calls Try.prog 15 #[.pointer (some ⟨g2, 0, none⟩)] wr fun e b => e = .returned (.int .i64 0) ∧ KA w b (fun k => k = ar ∨ k = al) ar G (tri (stW m (cur L1 c) [] dd) (stW m L1 [] dd) (stW m (cur L1 c) [] (len1 + 1 + j + 1)))) := by
                    refine (Flush_kd HKA.out.1 2 (by omega) g2 HG2.out _ rfl (by show len1 + 1 + j < _; omega) _ _ (stW_flush m _ _ _)).mono ?_
                    rintro e b ⟨he, hkd, hst⟩
                    rw [HC.out] at hkd
                    exact ⟨he, HKA.out.op hkd hst tri_2⟩
                  go_wp2_with fail
                  refine HFL.out.mono ?_
                  rintro e w9 ⟨rfl, h9⟩
                  have H9 := Lib.hid h9
                  clear h9 h82
                  go_wp2
                  go_loopw [21] (fun i wr => ∃ s : Nat, s ≤ m ∧ i = .int .i64 s ∧ Below w9.heap.size w9 wr) (fun i _ => m - (intOf i).toNat)
                  case atStart => exact ⟨0, Nat.zero_le _, rfl, Below.refl _ _⟩
                  case round =>
                    obtain ⟨s, hs, rfl, hb9⟩ := hrel
                    have HB9 := Lib.hid hb9
                    clear hb9
                    by_cases hsl : s < m
                    · have hA0 : wr.cell? ⟨ar, 0, none⟩ = some (.pointer (some ⟨g0, 0, none⟩)) := by
                        rw [← HG0.out]; exact (H9.out.2.1.keep (H9.out.1.stay HB9.out ar (.inl rfl))).cell 0 (by omega)
                      have HLN : Hid ((cur L1 c s).length = 16) := by
                        obtain ⟨Ds, h⟩ := H9.out.1
                        exact (h.dk 2 (by omega)).ok.ls s
                      have HRA : Hid (∀ W, Below w9.heap.size w9 W → Calls Try.prog 23 #[.pointer (some ⟨g0, 0, none⟩), .int .i64 (s : Int)] W fun e b => ∃ v, e = .returned (.tuple #[v, .int .i64 0]) ∧ ReadV W b v (cur L1 c s) ∧ Below W.heap.size W b) := fun W hW =>
                        Read_kd (H9.out.1.below hW) 0 (by omega) g0 HG0.out _ rfl (s : Int) _ _ (stW_read m (cur L1 c) [] _ s hsl)
                      have HRB : Hid (∀ W, Below w9.heap.size w9 W → Calls Try.prog 23 #[.pointer (some ⟨g2, 0, none⟩), .int .i64 (s : Int)] W fun e b => ∃ v, e = .returned (.tuple #[v, .int .i64 0]) ∧ ReadV W b v (cur L1 c s) ∧ Below W.heap.size W b) := fun W hW =>
                        Read_kd (H9.out.1.below hW) 2 (by omega) g2 HG2.out _ rfl (s : Int) _ _ (stW_read m (cur L1 c) [] _ s hsl)
                      go_wp2_with fail
                      refine (HRA.out wr HB9.out).mono ?_
                      rintro e wP ⟨vP, rfl, hvP, hbP⟩
                      obtain ⟨rfl, hkP⟩ := readV_rd hvP 16 HLN.out (by omega)
                      obtain ⟨zP, hzP⟩ : ∃ z, wr.heap.size = z := ⟨_, rfl⟩
                      rw [hzP] at hkP ⊢
                      have HKP := Lib.hid hkP
                      have hd2 := bstep HB9.out hbP
                      have hA2 : wP.cell? ⟨ar, 2, none⟩ = some (.pointer (some ⟨g2, 0, none⟩)) := by
                        rw [← HG2.out]; exact (H9.out.2.1.keep (H9.out.1.stay hd2 ar (.inl rfl))).cell 2 (by omega)
                      have HD2 := Lib.hid hd2
                      clear hvP hkP hbP hzP hA0 hd2
                      go_wp2_with fail
                      refine (HRB.out wP HD2.out).mono ?_
                      rintro e wQ ⟨vQ, rfl, hvQ, hbQ⟩
                      obtain ⟨rfl, hkQ⟩ := readV_rd hvQ 16 HLN.out (by omega)
                      obtain ⟨zQ, hzQ⟩ : ∃ z, wP.heap.size = z := ⟨_, rfl⟩
                      have hd4 := Lib.hid (bstep HD2.out hbQ)
                      have e5 := string_rd wQ _ _ _ _ ((HKP.out.all' 16 16 HLN.out (Nat.le_refl _)).keep hbQ)
                      rw [hzQ] at hkQ ⊢
                      have e6 := string_rd wQ _ _ _ _ (hkQ.all' 16 16 HLN.out (Nat.le_refl _))
                      clear hvQ hkQ hbQ hzQ hA2
                      go_wp2
                      go_roundw
                      case rel => exact ⟨s + 1, by omega, by go_num, hd4.out⟩
                      case measure => simp [intOf]; omega
                    · obtain rfl : s = m := by omega
                      have HB := Lib.hid (bstep H9.out.1.bel HB9.out)
                      go_wp2_with fail
                      refine (awake_any wr).mono ?_
                      rintro e wX ⟨rfl, hbx⟩
                      have HX := Lib.hid (bstep HB.out hbx)
                      clear hbx
                      go_wp2
                      go_ret
                      exact ⟨rfl, HX.out⟩


set_option maxRecDepth 100000 in
set_option maxHeartbeats 4000000 in
theorem walk (a0 : Int) (a1 : Option Addr) (len1 cap1 : Nat) (a2 : Option Addr) (len2 cap2 : Nat) (w : World) (w0 : (Lit.int .i64 a0).wf = true) (w1 : IsI w a1 len1 cap1) (w2 : IsI w a2 len2 cap2) :
    Calls Try.prog 7 #[.int .i64 a0, .slice a1 len1 cap1, .slice a2 len2 cap2] w fun e w' => e = .returned (.bool true) ∧ Below w.heap.size w w' := by
  obtain ⟨h1m, zs, hr1⟩ := w1
  obtain ⟨h2m, ys, hr2⟩ := w2
  have wf := bounds_i64 w0
  by_cases e1 : a0 < 1
  · skip
    clear hr1 hr2
    go_enter Try.func7, Try.ntmps7
    go_wp2
    go_ret
    exact ⟨rfl, Below.refl _ _⟩
  by_cases e2 : 30 < a0
  · skip
    clear hr1 hr2
    go_enter Try.func7, Try.ntmps7
    go_wp2
    go_ret
    exact ⟨rfl, Below.refl _ _⟩
  by_cases e3 : 60 < len1
  · skip
    clear hr1 hr2
    go_enter Try.func7, Try.ntmps7
    go_wp2
    go_ret
    exact ⟨rfl, Below.refl _ _⟩
  by_cases e4 : 60 < len2
  · skip
    clear hr1 hr2
    go_enter Try.func7, Try.ntmps7
    go_wp2
    go_ret
    exact ⟨rfl, Below.refl _ _⟩
  obtain ⟨m, rfl⟩ := Int.eq_ofNat_of_zero_le (show 0 ≤ a0 by omega)
  exact walkGood m a1 len1 cap1 a2 len2 cap2 w zs ys hr1 hr2 (by omega) (by omega) (by omega) (by omega)

set_option maxRecDepth 100000 in
theorem lifted (os : Os) (started : os.Started) (H : Type) (enc : TypeId × Value → H) :
    ReturnsInHanded {} Try.checked os 7 .any (Rows.diskKeepsSpec.pre6 enc Try.prog Try.f7 Rows.diskKeepsRow.domain false) (Rows.diskKeepsSpec.post enc Try.prog Try.f7 false true false false) := by
  refine returnsInHanded_of_change (C := Try.checked) own started (by kernel_rfl) Try.func7
    (ChangeSpec.witness6 (enc := enc) (C := Try.checked) false ⟨#[], #[.int .i64 0, .slice none 0 0, .slice none 0 0], []⟩ 8 (by kernel_rfl) (by kernel_rfl) (by kernel_rfl) (by kernel_rfl)) ?_
  intro W base args ds gs before hval0 hW hcnd _
  have hval : ∀ (j : Nat) t v, Try.f7.params[j]? = some t → args[j]? = some v → Value.okWide Try.prog W .any base t v := hval0
  have hW' := hW
  obtain ⟨p, q, hA0, hV, rfl, hfz, hnd⟩ := hW
  have hA : DataW.TrodAll enc Try.prog W 0 (fun _ => true) true Try.f7.params.toList args.toList ds p := hA0
  rw [Try.params7] at hA hval
  obtain ⟨v0, vs0, d0, ds0, p0, q0, hargs, rfl, rfl, h0, r0⟩ := trodAll_cons hA
  obtain ⟨v1, vs1, d1, ds1, p1, q1, rfl, rfl, rfl, h1, r1⟩ := trodAll_cons r0
  obtain ⟨v2, vs2, d2, ds2, p2, q2, rfl, rfl, rfl, h2, r2⟩ := trodAll_cons r1
  obtain ⟨rfl, rfl, rfl⟩ := trodAll_nil r2
  obtain rfl : args = #[v0, v1, v2] := by cases args; simp_all
  obtain ⟨rfl, rfl⟩ := trodVars_none hV
  obtain ⟨a0, rfl, rfl, rfl, w0⟩ := open_int Try.underlying3 (hval 0 3 v0 rfl rfl) h0
  obtain ⟨a1, len1, cap1, rfl⟩ := okWide_slice Try.underlying52 (hval 1 52 v1 rfl rfl)
  have k1 := h1
  have lt1 : ∀ x ∈ p1, x.block < W.heap.size := by obtain ⟨m, hm⟩ := k1; exact DataW.trod_lt m _ _ _ hm
  have w1 : IsI W a1 len1 cap1 := by
    obtain ⟨fuel, hf⟩ := h1
    exact IsI.of hf
  obtain ⟨a2, len2, cap2, rfl⟩ := okWide_slice Try.underlying52 (hval 2 52 v2 rfl rfl)
  have k2 := h2
  have lt2 : ∀ x ∈ p2, x.block < W.heap.size := by obtain ⟨m, hm⟩ := k2; exact DataW.trod_lt m _ _ _ hm
  have w2 : IsI W a2 len2 cap2 := by
    obtain ⟨fuel, hf⟩ := h2
    exact IsI.of hf
  clear hA0 hval0
  refine (walk a0 a1 len1 cap1 a2 len2 cap2 W w0 w1 w2).mono fun e W' ⟨he, bel⟩ => ?_
  subst he
  exact ⟨_, rfl, _, _, _, [], _, [], hW', trodAll_mk1 (shut_bool Try.underlying4 _), (trodAll_cons_mk (shut_int Try.underlying3 w0) (trodAll_cons_mk (Below.trod laidOut (by kernel_rfl) (of_decide_eq_true (by kernel_rfl)) k1 bel lt1) (trodAll_cons_mk (Below.trod laidOut (by kernel_rfl) (of_decide_eq_true (by kernel_rfl)) k2 bel lt2) trodAll_mk0))), rfl, bel.frame _, fun h => by cases h⟩

theorem over : Rows.diskKeepsRow.holds Try.pinned (OpenSpec.ofChange Rows.diskKeepsSpec) :=
  OpenClaim.holds_of_wide 7 Try.f7 rfl rfl rfl rfl rfl rfl rfl ⟨rfl, rfl, rfl, rfl, rfl⟩ rfl rfl rfl rfl rfl (by kernel_rfl) Try.func7 (by kernel_rfl)
    (of_decide_eq_true (by kernel_rfl)) (by unfold Func.isWrapper; first | (rw [if_pos (by decide +kernel)]; kernel_rfl) | (rw [if_neg (by decide +kernel)]; exact ⟨rfl, rfl⟩))
    (fun os started H enc _ => lifted os started H enc)

/-- the statement. -/
theorem proved : Rows.DiskKeepsSaid := over
#print axioms proved
end Go.Proofs.Ytikajhfaoccicaa.diskKeeps
