/-
  The statement 'NodeSizes' (chandlerylaw08) holds at every input: the call returns true and leaves its arguments as they were. Conditions: none beyond the row's own.
-/
import Derived.Test.YtedhcohpcdkgnaaRows
import Derived.Test.YtedhcohpcdkgnaaArgN
import Derived.Test.YtedhcohpcdkgnaaN3
import Derived.Test.YtedhcohpcdkgnaaNA
import Derived.Test.YtedhcohpcdkgnaaNG
import Derived.WalkKit
import Derived.ProofKit
import Derived.OpenShut
import Derived.ChangeOld
import Derived.Below
namespace Go.Proofs.Ytedhcohpcdkgnaa.nodeSizes
open Go.ChangeShapes Go.WideShapes Go.ChangeAt Go.RowKit Go.Bs 
open Go.ChangeMaps (open_string shut_string)
set_option linter.unusedVariables false

theorem own : ownKnob Try.prog.godebug = none := by kernel_rfl
theorem laidOut : laidOutB Try.prog = true := by kernel_rfl

theorem news_new (w : World) (e : Nat) (l : List Value) : ∀ a, (some ⟨w.heap.size, 0, none⟩ : Option Addr) = some a → ∀ j u, l[j]? = some u → (w.alloc (.cells l.toArray e)).cell? (a.add j) = some u := fun a ha j u hu => by
  cases ha
  rw [addr_add, Nat.zero_add, cell_of_row _ w.heap.size j _ e (0, 0) (heap_alloc_new w _)]
  simpa using hu
theorem psum_one (ps : List Pr) (a b : ByteArray) : psum (ps ++ [(a, b)]) = psum ps + (2 + a.size + b.size) := by simp [psum, psz]
theorem ssum_one (ks : List ByteArray) (a : ByteArray) : ssum (ks ++ [a]) = ssum ks + (1 + a.size) := by simp [ssum]
theorem below_app {N base : Nat} {w a b : World} {row : Option Nat} (h : Below N w a) (hg : a.grownBy b row) (hr : ∀ k, row = some k → base ≤ k) (hN : N ≤ base) (hs : N ≤ a.heap.size) : Below N w b :=
  ⟨hg.os.trans h.os, hg.tape.trans h.tape, hg.output.trans h.output, Nat.le_trans h.size hg.size, fun k hk => (hg.block k (by omega) (fun e => by have := hr k e.symm; omega)).trans (h.block k hk)⟩
theorem below_set {N g i : Nat} {w a : World} (h : Below N w a) (hg : N ≤ g) (v : Value) : Below N w (a.setCell ⟨g, i, none⟩ v) := h.setCell (p := ⟨g, i, none⟩) hg v
theorem set_size (w : World) (a : Addr) (v : Value) : (w.setCell a v).heap.size = w.heap.size := by simp [World.setCell]
theorem fz_of_row {w : World} {g i : Nat} {cs : Array Value} (h : w.heap[g]? = some (.cells cs 26 (0, 0))) : w.frozen? ⟨g, i, none⟩ = false := by simp [World.frozen?, h]

set_option maxRecDepth 100000 in
set_option maxHeartbeats 4000000 in
theorem walk (h0 : Hd) (N0 : Nd) (a1 : ByteArray) (a2 : ByteArray) (a3 : Int) (w : World) (w0 : NdA w h0 N0) (w1 : a1.size ≤ 140737488351232) (w2 : a2.size ≤ 140737488351232) (w3 : (Lit.int .i64 a3).wf = true) :
    Calls Try.prog 7 #[nv h0 N0.leaf, .string a1, .string a2, .int .i64 a3] w fun e w' => e = .returned (.bool true) ∧ Below w.heap.size w w' := by
  have w0' := w0
  obtain ⟨leaf, ps, ks, cs⟩ := N0
  obtain ⟨pA, pl, pc, kA, kl, kc, cA, cl, cc⟩ := h0
  obtain ⟨hN, hpm, hkm, hcm⟩ := w0
  have HH := Lib.hid hN
  have HPL : Hid (ps.length = pl) := hN.p.len
  have HKL : Hid (ks.length = kl) := hN.k.len
  have HCL : Hid (cs.length = cl) := hN.c.len
  have hpc : pl ≤ pc := hN.p.cap
  have hkc : kl ≤ kc := hN.k.cap
  have hcc : cl ≤ cc := hN.c.cap
  simp only at hpm hkm hcm
  clear hN
  obtain ⟨g, hg⟩ : ∃ g, w.heap.size = g := ⟨_, rfl⟩
  have HG := Lib.hid hg
  obtain ⟨W, hW⟩ : ∃ W, w.alloc (.cells (ncs ⟨pA, pl, pc, kA, kl, kc, cA, cl, cc⟩ leaf) 26) = W := ⟨_, rfl⟩
  have hbx : Bx W g ⟨pA, pl, pc, kA, kl, kc, cA, cl, cc⟩ leaf := by rw [← hW, ← hg]; exact Bx.new _ _ _
  have hbw : Below g w W := by rw [← hW, ← hg]; exact (Below.refl _ _).alloc (Nat.le_refl _) _
  obtain ⟨c0, c1, c2, c3⟩ := hbx.cells
  have HBX := Lib.hid hbx
  have HBW := Lib.hid hbw
  have hWg : g ≤ W.heap.size := by have := hbw.size; rw [hg] at this; exact this
  have HFEW := Lib.hid (few_any W ⟨pA, pl, pc, kA, kl, kc, cA, cl, cc⟩ ⟨leaf, ps, ks, cs⟩ (HH.out.keep (by rw [HG.out]; exact hbw)) hpm hkm hcm)
  simp only [nv, ncs] at HFEW
  unfold maxLen at hpm hkm hcm
  clear hbx hbw
  simp only [nv]
  rw [hg]
  have b3 := bounds_i64 w3
  clear w0' w3
  have q1 : IntKind.i64.wrap ((a1.size : Int) + (a2.size : Int)) = (a1.size : Int) + (a2.size : Int) := IntWalk.i64_in _ (by omega)
  go_enter Try.func7, Try.ntmps7
  go_wp2_with fail
  refine HFEW.out.mono ?_
  rintro e w1 ⟨rfl | ⟨rfl, hfew⟩, hb1⟩
  · have HB1 := Lib.hid (HBW.out.trans (hb1.mono hWg))
    clear hb1 HFEW
    go_wp2
    go_ret
    exact ⟨rfl, HB1.out⟩
  have HB_w1 := Lib.hid (HBW.out.trans (hb1.mono hWg))
  have HX_w1 := Lib.hid (HBX.out.keep hb1)
  have hs_w1 : g ≤ w1.heap.size := Nat.le_trans hWg hb1.size
  have HN_w1 := Lib.hid (HH.out.keep (by rw [HG.out]; exact HB_w1.out))
  have HFW := Lib.hid hfew
  have hpl2 : pl ≤ 200 := by rw [← HPL.out]; exact hfew.p
  have hkl2 : kl ≤ 200 := by rw [← HKL.out]; exact hfew.k
  have hcl2 : cl ≤ 200 := by rw [← HCL.out]; exact hfew.c
  obtain ⟨y0, hy0⟩ : ∃ y0, w1.heap.size = y0 := ⟨_, rfl⟩
  have HY0 := Lib.hid hy0
  have hgy : g < y0 := by rw [← hy0]; exact HX_w1.out.lt
  clear hb1 hfew HFEW c0 c1 c2 c3 hW
  by_cases hbig : 2000 < a1.size + a2.size
  · go_wp2
    go_ret
    exact ⟨rfl, HB_w1.out⟩
  obtain ⟨d0, d1, d2, d3⟩ := HX_w1.out.cells
  obtain ⟨i49, z49, hi49, hz49, hs49, hy49, hc49⟩ := pair_info
  obtain ⟨i9, z9, hi9, hz9, hs9, hy9, hc9⟩ := str_info
  obtain ⟨i3, z3, hi3, hz3, hs3, hy3, hc3⟩ := int_info
  have HPS2 : Hid (∀ p ∈ ps ++ [(a1, a2)], p.1.size ≤ 140737488351232 ∧ p.2.size ≤ 140737488351232) := fun p hp => by
    rcases List.mem_append.1 hp with h | h
    · exact HN_w1.out.p.sizes p h
    · obtain rfl := List.mem_singleton.1 h
      exact ⟨by show a1.size ≤ _; omega, by show a2.size ≤ _; omega⟩
  have HKS2 : Hid (∀ p ∈ ks ++ [a1], p.size ≤ maxLen) := fun p hp => by
    rcases List.mem_append.1 hp with h | h
    · exact HN_w1.out.k.sizes p h
    · obtain rfl := List.mem_singleton.1 h
      unfold maxLen; omega
  have HCS2 : Hid (∀ p ∈ cs ++ [a3], -9223372036854775808 ≤ p ∧ p ≤ 9223372036854775807) := fun p hp => by
    rcases List.mem_append.1 hp with h | h
    · exact HN_w1.out.c.wf p h
    · obtain rfl := List.mem_singleton.1 h
      omega
  obtain ⟨W1, hW1⟩ : ∃ W1, w1.alloc (.cells #[.bool leaf, .slice pA pl pc, .slice kA kl kc, .slice cA cl cc] 26) = W1 := ⟨_, rfl⟩
  have hsW1 : W1.heap.size = y0 + 1 := by rw [← hW1]; simp [hy0]
  have HR0 : Hid (W1.heap[y0]? = some (.cells #[.bool leaf, .slice pA pl pc, .slice kA kl kc, .slice cA cl cc] 26 (0, 0))) := by rw [← hW1, ← hy0]; exact heap_alloc_new w1 _
  have HB1W : Hid (Below y0 w1 W1) := by rw [← hW1]; exact (Below.refl _ _).alloc (by omega) _
  obtain ⟨W2, hW2⟩ : ∃ W2, W1.alloc (.cells #[] 49) = W2 := ⟨_, rfl⟩
  have hE1 := own_empty W1 49 2
  rw [hW2, hsW1] at hE1
  have hBW2 : Below (y0 + 1) W1 W2 := by rw [← hW2]; exact (Below.refl _ _).alloc (by omega) _
  have hsW2 : y0 + 1 ≤ W2.heap.size := by have := hBW2.size; omega
  have HBN2 : Hid (Below w1.heap.size w1 W2) := by rw [HY0.out]; exact HB1W.out.trans (hBW2.mono (by omega))
  have hl1 : (pcells ps).length = pl * 2 := by rw [pcells_length, HPL.out]
  have hl3 : (scells ks).length = kl * 1 := by rw [scells_length, HKL.out]
  have hl5 : (icells cs).length = cl * 1 := by rw [icells_length, HCL.out]
  have hA1 : pA = none → pl = 0 := fun e => by
    rcases Nat.eq_zero_or_pos pl with h | h
    · exact h
    · obtain ⟨_, _, e2, _⟩ := HN_w1.out.p.cells h
      rw [show (pA : Option Addr) = none from e] at e2; cases e2
  have hA3 : kA = none → kl = 0 := fun e => by
    rcases Nat.eq_zero_or_pos kl with h | h
    · exact h
    · obtain ⟨_, _, e2, _⟩ := HN_w1.out.k.cells h
      rw [show (kA : Option Addr) = none from e] at e2; cases e2
  have hA5 : cA = none → cl = 0 := fun e => by
    rcases Nat.eq_zero_or_pos cl with h | h
    · exact h
    · obtain ⟨_, _, e2, _⟩ := HN_w1.out.c.cells h
      rw [show (cA : Option Addr) = none from e] at e2; cases e2
  have hn1 : ∀ a, pA = some a → ∀ j u, (pcells ps)[j]? = some u → W2.cell? (a.add j) = some u := fun a ha => by subst ha; exact (HN_w1.out.p.keep HBN2.out).news
  obtain ⟨d0_W2, d1_W2, d2_W2, d3_W2⟩ := (HX_w1.out.keep HBN2.out).cells
  go_wp2_with (first
    | (at_builtin; refine wpList_appN _ rfl (.tmp 24) (.tmp 26) 22 rfl (y0 + 1) 49 2 32 i49 z49 Try.underlying22 hi49 hz49 hs49 hy49 hc49 (by omega) _ 0 [] rfl hE1 pA pl pc (pcells ps) rfl hA1 hl1 hn1 (pcells_one ps) (by unfold maxLen; omega) (by omega) (by omega) ?_; intro v1 wA ho_wA hg_wA hat_wA; have HB_wA : Hid (Below (y0 + 1) W1 wA) := below_app hBW2 hg_wA (fun k hk => (own_lt hE1 k hk).1) (by omega) (by omega); rw [Nat.zero_add, List.nil_append] at ho_wA; obtain ⟨W3, hW3⟩ : ∃ W3, wA.alloc (.cells #[.string a1, .string a2] 49) = W3 := ⟨_, rfl⟩; have ho3 := own_alloc ho_wA (.cells #[.string a1, .string a2] 49); have hn2 := news_new wA 49 [.string a1, .string a2]; rw [hW3] at ho3; rw [show wA.alloc (.cells [Value.string a1, Value.string a2].toArray 49) = W3 from hW3] at hn2; have hBW3 : Below (y0 + 1) W1 W3 := (by rw [← hW3]; exact HB_wA.out.alloc (by have := HB_wA.out.size; omega) _); have hsA : y0 + 1 ≤ W3.heap.size := (by have := hBW3.size; omega); have HGA := Lib.hid hat_wA; clear ho_wA hg_wA hat_wA hE1 hn1 hl1 hA1)
    | (at_builtin; refine wpList_appN _ rfl (.tmp 27) (.tmp 31) 22 rfl (y0 + 1) 49 2 32 i49 z49 Try.underlying22 hi49 hz49 hs49 hy49 hc49 (by omega) v1 pl (pcells ps) rfl ho3 _ 1 1 (pcells [(a1, a2)]) rfl (fun e => by cases e) rfl hn2 (pcells_one _) (by unfold maxLen; omega) (by omega) hsA ?_; intro v2 wB ho_wB hg_wB hat_wB; have HB_wB : Hid (Below (y0 + 1) W1 wB) := below_app hBW3 hg_wB (fun k hk => (own_lt ho3 k hk).1) (by omega) hsA; rw [← pcells_app] at ho_wB; obtain ⟨A2, c2, hv2, hrd2⟩ := rdP_own ho_wB HPS2.out; subst hv2; have hrow : wB.heap[y0]? = some (.cells #[.bool leaf, .slice pA pl pc, .slice kA kl kc, .slice cA cl cc] 26 (0, 0)) := (HB_wB.out.block y0 (by omega)).trans HR0.out; have e1 : wB.cell? ⟨y0, 1, none⟩ = some (.slice pA pl pc) := (by rw [cell_of_row wB y0 _ _ 26 (0, 0) hrow]; rfl); have ef := fz_of_row (i := 1) hrow; obtain ⟨wC, hwC⟩ : ∃ wC, wB.setCell ⟨y0, 1, none⟩ (.slice A2 (pl + 1) c2) = wC := ⟨_, rfl⟩; have hrowC := row_set (i := 1) hrow (.slice A2 (pl + 1) c2); rw [hwC] at hrowC; have hxHROWC : wC.heap[y0]? = some (.cells #[.bool leaf, .slice A2 (pl + 1) c2, .slice kA kl kc, .slice cA cl cc] 26 (0, 0)) := (by simpa using hrowC); have HROWC := Lib.hid hxHROWC; clear hxHROWC; have HOC : Hid (wC.ownsRow (y0 + 1) 49 2 (.slice A2 (pl + 1) c2) (pl + 1) (pcells (ps ++ [(a1, a2)]))) := (by rw [← hwC]; exact own_keepB ho_wB (fun k hk => set_other wB y0 1 k _ (by have := (own_lt ho_wB k hk).1; omega))); have HB_wC : Hid (Below y0 w1 wC) := (by rw [← hwC]; exact below_set (HB1W.out.trans (HB_wB.out.mono (by omega))) (Nat.le_refl _) _); obtain ⟨d0_wC, d1_wC, d2_wC, d3_wC⟩ := (HX_w1.out.keep (by rw [HY0.out]; exact HB_wC.out)).cells; obtain ⟨y1, hy1⟩ : ∃ y1, wC.heap.size = y1 := ⟨_, rfl⟩; have hy01 : y0 + 1 ≤ y1 := (by rw [← hy1, ← hwC, set_size]; have := HB_wB.out.size; omega); obtain ⟨W4, hW4⟩ : ∃ W4, wC.alloc (.cells #[.bool leaf, .slice pA pl pc, .slice kA kl kc, .slice cA cl cc] 26) = W4 := ⟨_, rfl⟩; have hs4 : W4.heap.size = y1 + 1 := (by rw [← hW4]; simp [hy1]); have HR4 : Hid (W4.heap[y1]? = some (.cells #[.bool leaf, .slice pA pl pc, .slice kA kl kc, .slice cA cl cc] 26 (0, 0))) := (by rw [← hW4, ← hy1]; exact heap_alloc_new wC _); have HB4 : Hid (Below y1 wC W4) := (by rw [← hW4]; exact (Below.refl _ _).alloc (by omega) _); obtain ⟨W5, hW5⟩ : ∃ W5, W4.alloc (.cells #[] 9) = W5 := ⟨_, rfl⟩; have hE5 := own_empty W4 9 1; rw [hW5, hs4] at hE5; have hBW5 : Below (y1 + 1) W4 W5 := (by rw [← hW5]; exact (Below.refl _ _).alloc (by omega) _); have hs5 : y1 + 1 ≤ W5.heap.size := (by have := hBW5.size; omega); have HBW45 : Hid (Below w1.heap.size w1 W5) := (by rw [HY0.out]; exact HB_wC.out.trans ((HB4.out.trans (hBW5.mono (by omega))).mono (by omega))); have hn3 : ∀ a, kA = some a → ∀ j u, (scells ks)[j]? = some u → W5.cell? (a.add j) = some u := (fun a ha => by subst ha; exact (HN_w1.out.k.keep HBW45.out).news); obtain ⟨d0_W5, d1_W5, d2_W5, d3_W5⟩ := (HX_w1.out.keep HBW45.out).cells; clear ho_wB hg_wB hat_wB hrow hrowC ho3 hn2 hBW3 hsA hW3)
    | (at_builtin; refine wpList_appN _ rfl (.tmp 35) (.tmp 37) 23 rfl (y1 + 1) 9 1 16 i9 z9 Try.underlying23 hi9 hz9 hs9 hy9 hc9 (by omega) _ 0 [] rfl hE5 kA kl kc (scells ks) rfl hA3 hl3 hn3 (scells_one ks) (by unfold maxLen; omega) (by omega) hs5 ?_; intro v3 wD ho_wD hg_wD hat_wD; have HB_wD : Hid (Below (y1 + 1) W4 wD) := below_app hBW5 hg_wD (fun k hk => (own_lt hE5 k hk).1) (by omega) hs5; rw [Nat.zero_add, List.nil_append] at ho_wD; obtain ⟨W6, hW6⟩ : ∃ W6, wD.alloc (.cells #[.string a1] 9) = W6 := ⟨_, rfl⟩; have ho6 := own_alloc ho_wD (.cells #[.string a1] 9); have hn4 := news_new wD 9 [.string a1]; rw [hW6] at ho6; rw [show wD.alloc (.cells [Value.string a1].toArray 9) = W6 from hW6] at hn4; have hBW6 : Below (y1 + 1) W4 W6 := (by rw [← hW6]; exact HB_wD.out.alloc (by have := HB_wD.out.size; omega) _); have hsD : y1 + 1 ≤ W6.heap.size := (by have := hBW6.size; omega); clear ho_wD hg_wD hat_wD hE5 hn3 hl3 hA3)
    | (at_builtin; refine wpList_appN _ rfl (.tmp 38) (.tmp 40) 23 rfl (y1 + 1) 9 1 16 i9 z9 Try.underlying23 hi9 hz9 hs9 hy9 hc9 (by omega) v3 kl (scells ks) rfl ho6 _ 1 1 (scells [a1]) rfl (fun e => by cases e) rfl hn4 (scells_one _) (by unfold maxLen; omega) (by omega) hsD ?_; intro v4 wE ho_wE hg_wE hat_wE; have HB_wE : Hid (Below (y1 + 1) W4 wE) := below_app hBW6 hg_wE (fun k hk => (own_lt ho6 k hk).1) (by omega) hsD; rw [← scells_app] at ho_wE; obtain ⟨A4, c4, hv4, hrd4⟩ := rdS_own ho_wE HKS2.out; subst hv4; have hrow : wE.heap[y1]? = some (.cells #[.bool leaf, .slice pA pl pc, .slice kA kl kc, .slice cA cl cc] 26 (0, 0)) := (HB_wE.out.block y1 (by omega)).trans HR4.out; have e2 : wE.cell? ⟨y1, 2, none⟩ = some (.slice kA kl kc) := (by rw [cell_of_row wE y1 _ _ 26 (0, 0) hrow]; rfl); have ef2 := fz_of_row (i := 2) hrow; obtain ⟨wF, hwF⟩ : ∃ wF, wE.setCell ⟨y1, 2, none⟩ (.slice A4 (kl + 1) c4) = wF := ⟨_, rfl⟩; have hrowF := row_set (i := 2) hrow (.slice A4 (kl + 1) c4); rw [hwF] at hrowF; have hxHROWF : wF.heap[y1]? = some (.cells #[.bool leaf, .slice pA pl pc, .slice A4 (kl + 1) c4, .slice cA cl cc] 26 (0, 0)) := (by simpa using hrowF); have HROWF := Lib.hid hxHROWF; clear hxHROWF; have HOF : Hid (wF.ownsRow (y1 + 1) 9 1 (.slice A4 (kl + 1) c4) (kl + 1) (scells (ks ++ [a1]))) := (by rw [← hwF]; exact own_keepB ho_wE (fun k hk => set_other wE y1 2 k _ (by have := (own_lt ho_wE k hk).1; omega))); have HB_wF : Hid (Below y1 wC wF) := (by rw [← hwF]; exact below_set (HB4.out.trans (HB_wE.out.mono (by omega))) (Nat.le_refl _) _); obtain ⟨y2, hy2⟩ : ∃ y2, wF.heap.size = y2 := ⟨_, rfl⟩; have hy12 : y1 + 1 ≤ y2 := (by rw [← hy2, ← hwF, set_size]; have := HB_wE.out.size; omega); obtain ⟨W7, hW7⟩ : ∃ W7, wF.alloc (.cells #[] 3) = W7 := ⟨_, rfl⟩; have hE7 := own_empty wF 3 1; rw [hW7, hy2] at hE7; have hBW7 : Below y2 wF W7 := (by rw [← hW7]; exact (Below.refl _ _).alloc (by omega) _); have hs7 : y2 ≤ W7.heap.size := (by have := hBW7.size; omega); have HBW47 : Hid (Below w1.heap.size w1 W7) := (by rw [HY0.out]; exact HB_wC.out.trans ((HB_wF.out.trans (hBW7.mono (by omega))).mono (by omega))); have hn5 : ∀ a, cA = some a → ∀ j u, (icells cs)[j]? = some u → W7.cell? (a.add j) = some u := (fun a ha => by subst ha; exact (HN_w1.out.c.keep HBW47.out).news); obtain ⟨d0_W7, d1_W7, d2_W7, d3_W7⟩ := (HX_w1.out.keep HBW47.out).cells; clear ho_wE hg_wE hat_wE hrow hrowF ho6 hn4 hBW6 hsD hW6 hBW5 hs5 hW5)
    | (at_builtin; refine wpList_appN _ rfl (.tmp 43) (.tmp 45) 24 rfl y2 3 1 8 i3 z3 Try.underlying24 hi3 hz3 hs3 hy3 hc3 (by omega) _ 0 [] rfl hE7 cA cl cc (icells cs) rfl hA5 hl5 hn5 (icells_one cs) (by unfold maxLen; omega) (by omega) hs7 ?_; intro v5 wG ho_wG hg_wG hat_wG; have HB_wG : Hid (Below y2 wF wG) := below_app hBW7 hg_wG (fun k hk => (own_lt hE7 k hk).1) (by omega) hs7; rw [Nat.zero_add, List.nil_append] at ho_wG; obtain ⟨W8, hW8⟩ : ∃ W8, wG.alloc (.cells #[.int .i64 a3] 3) = W8 := ⟨_, rfl⟩; have ho8 := own_alloc ho_wG (.cells #[.int .i64 a3] 3); have hn6 := news_new wG 3 [.int .i64 a3]; rw [hW8] at ho8; rw [show wG.alloc (.cells [Value.int .i64 a3].toArray 3) = W8 from hW8] at hn6; have hBW8 : Below y2 wF W8 := (by rw [← hW8]; exact HB_wG.out.alloc (by have := HB_wG.out.size; omega) _); have hsG : y2 ≤ W8.heap.size := (by have := hBW8.size; omega); clear ho_wG hg_wG hat_wG hE7 hn5 hl5 hA5)
    | (at_builtin; refine wpList_appN _ rfl (.tmp 46) (.tmp 48) 24 rfl y2 3 1 8 i3 z3 Try.underlying24 hi3 hz3 hs3 hy3 hc3 (by omega) v5 cl (icells cs) rfl ho8 _ 1 1 (icells [a3]) rfl (fun e => by cases e) rfl hn6 (icells_one _) (by unfold maxLen; omega) (by omega) hsG ?_; intro v6 wH ho_wH hg_wH hat_wH; have HB_wH : Hid (Below y2 wF wH) := below_app hBW8 hg_wH (fun k hk => (own_lt ho8 k hk).1) (by omega) hsG; rw [← icells_app] at ho_wH; obtain ⟨A6, c6, hv6, hrd6⟩ := rdI_own ho_wH HCS2.out; subst hv6; have hrow : wH.heap[y1]? = some (.cells #[.bool leaf, .slice pA pl pc, .slice A4 (kl + 1) c4, .slice cA cl cc] 26 (0, 0)) := (HB_wH.out.block y1 (by omega)).trans HROWF.out; have e3 : wH.cell? ⟨y1, 3, none⟩ = some (.slice cA cl cc) := (by rw [cell_of_row wH y1 _ _ 26 (0, 0) hrow]; rfl); have ef3 := fz_of_row (i := 3) hrow; obtain ⟨wI, hwI⟩ : ∃ wI, wH.setCell ⟨y1, 3, none⟩ (.slice A6 (cl + 1) c6) = wI := ⟨_, rfl⟩; have hrowI := row_set (i := 3) hrow (.slice A6 (cl + 1) c6); rw [hwI] at hrowI; have hxHROWI : wI.heap[y1]? = some (.cells #[.bool leaf, .slice pA pl pc, .slice A4 (kl + 1) c4, .slice A6 (cl + 1) c6] 26 (0, 0)) := (by simpa using hrowI); have HROWI := Lib.hid hxHROWI; clear hxHROWI; have HOI : Hid (wI.ownsRow y2 3 1 (.slice A6 (cl + 1) c6) (cl + 1) (icells (cs ++ [a3]))) := (by rw [← hwI]; exact own_keepB ho_wH (fun k hk => set_other wH y1 3 k _ (by have := (own_lt ho_wH k hk).1; omega))); have HBFI : Hid (Below y1 wF wI) := (by rw [← hwI]; exact below_set (HB_wH.out.mono (by omega)) (Nat.le_refl _) _); have HOFI : Hid (wI.ownsRow (y1 + 1) 9 1 (.slice A4 (kl + 1) c4) (kl + 1) (scells (ks ++ [a1]))) := (own_keepB HOF.out (fun k hk => by rw [← hwI]; exact (set_other wH y1 3 k _ (by have := (own_lt HOF.out k hk).1; omega)).trans (HB_wH.out.block k (by have := (own_lt HOF.out k hk).2; omega)))); have HBCI : Hid (Below y1 wC wI) := HB_wF.out.trans HBFI.out; have HOCI : Hid (wI.ownsRow (y0 + 1) 49 2 (.slice A2 (pl + 1) c2) (pl + 1) (pcells (ps ++ [(a1, a2)]))) := (own_keep HOC.out (by rw [hy1]; exact HBCI.out)); have HROWL : Hid (wI.heap[y0]? = some (.cells #[.bool leaf, .slice A2 (pl + 1) c2, .slice kA kl kc, .slice cA cl cc] 26 (0, 0))) := ((HBCI.out.block y0 (by omega)).trans HROWC.out); have HB_wI : Hid (Below y0 w1 wI) := HB_wC.out.trans (HBCI.out.mono (by omega)); obtain ⟨d0_wI, d1_wI, d2_wI, d3_wI⟩ := (HX_w1.out.keep (by rw [HY0.out]; exact HB_wI.out)).cells; clear ho_wH hg_wH hat_wH hrow hrowI ho8 hn6 hBW8 hsG hW8))
  have HBI : Hid (Below w1.heap.size w1 wI) := by rw [HY0.out]; exact HB_wI.out
  have HNI := Lib.hid (HN_w1.out.keep HBI.out)
  have HNL : Hid (NdAt wI ⟨A2, pl + 1, c2, kA, kl, kc, cA, cl, cc⟩ ⟨leaf, ps ++ [(a1, a2)], ks, cs⟩) := by
    obtain ⟨A, c, e, hr⟩ := rdP_own HOCI.out HPS2.out
    cases e
    exact ⟨hr, HNI.out.k, HNI.out.c⟩
  have HNN : Hid (NdAt wI ⟨pA, pl, pc, A4, kl + 1, c4, A6, cl + 1, c6⟩ ⟨leaf, ps, ks ++ [a1], cs ++ [a3]⟩) := by
    obtain ⟨A, c, e, hr⟩ := rdS_own HOFI.out HKS2.out
    obtain ⟨A', c', e', hr'⟩ := rdI_own HOI.out HCS2.out
    cases e
    cases e'
    exact ⟨HNI.out.p, hr, hr'⟩
  have HFL : Hid ((⟨leaf, ps ++ [(a1, a2)], ks, cs⟩ : Nd).Few 7000) := by
    refine ⟨?_, Nat.le_trans HFW.out.k (by omega), Nat.le_trans HFW.out.c (by omega), fun p hp => ?_, HFW.out.sk⟩
    · show (ps ++ [(a1, a2)]).length ≤ 7000
      rw [List.length_append, HPL.out]
      show pl + 1 ≤ 7000
      omega
    · rcases List.mem_append.1 hp with h | h
      · exact HFW.out.sp p h
      · obtain rfl := List.mem_singleton.1 h
        show a1.size + a2.size ≤ 2000
        omega
  have HFN : Hid ((⟨leaf, ps, ks ++ [a1], cs ++ [a3]⟩ : Nd).Few 7000) := by
    refine ⟨Nat.le_trans HFW.out.p (by omega), ?_, ?_, HFW.out.sp, fun p hp => ?_⟩
    · show (ks ++ [a1]).length ≤ 7000
      rw [List.length_append, HKL.out]
      show kl + 1 ≤ 7000
      omega
    · show (cs ++ [a3]).length ≤ 7000
      rw [List.length_append, HCL.out]
      show cl + 1 ≤ 7000
      omega
    · rcases List.mem_append.1 hp with h | h
      · exact HFW.out.sk p h
      · obtain rfl := List.mem_singleton.1 h
        omega
  have HF7 := Lib.hid (HFW.out.mono (show 200 ≤ 7000 by omega))
  have hbs : psum ps ≤ 2002 * 200 := by have := psum_take_le ps 200 ps.length HFW.out.p HFW.out.sp; rwa [List.take_length] at this
  have hbk : ssum ks ≤ 2001 * 200 := by have := ssum_take_le ks 200 ks.length HFW.out.k HFW.out.sk; rwa [List.take_length] at this
  obtain ⟨S, hS⟩ : ∃ S, (⟨leaf, ps, ks, cs⟩ : Nd).size = S := ⟨_, rfl⟩
  have hSb : S ≤ 1000000 := by
    rw [← hS]
    show 3 + 3 * cs.length + psum ps + ssum ks ≤ 1000000
    rw [HCL.out]; omega
  obtain ⟨SL, hSL⟩ : ∃ SL, (⟨leaf, ps ++ [(a1, a2)], ks, cs⟩ : Nd).size = SL := ⟨_, rfl⟩
  obtain ⟨SN, hSN⟩ : ∃ SN, (⟨leaf, ps, ks ++ [a1], cs ++ [a3]⟩ : Nd).size = SN := ⟨_, rfl⟩
  have h1 : SL = S + 2 + a1.size + a2.size := by
    rw [← hS, ← hSL]
    show 3 + 3 * cs.length + psum (ps ++ [(a1, a2)]) + ssum ks = 3 + 3 * cs.length + psum ps + ssum ks + 2 + a1.size + a2.size
    rw [psum_one]; omega
  have h2 : SN = S + 4 + a1.size := by
    rw [← hS, ← hSN]
    show 3 + 3 * (cs ++ [a3]).length + psum ps + ssum (ks ++ [a1]) = 3 + 3 * cs.length + psum ps + ssum ks + 4 + a1.size
    rw [ssum_one, List.length_append]
    simp; omega
  have hq1 : ((SL : Int) == (S : Int) + 2 + (a1.size : Int) + (a2.size : Int)) = true := by simp; omega
  have hq2 : ((SN : Int) == (S : Int) + 4 + (a1.size : Int)) = true := by simp; omega
  have HSZ0 := Lib.hid (Size_any wI ⟨pA, pl, pc, kA, kl, kc, cA, cl, cc⟩ ⟨leaf, ps, ks, cs⟩ HNI.out HF7.out)
  rw [hS] at HSZ0
  simp only [nv, ncs] at HSZ0
  have HSLE := Lib.hid hSL
  have HSNE := Lib.hid hSN
  clear hbs hbk hS hSL hSN h1 h2
  go_wp2_with fail
  refine HSZ0.out.mono ?_
  rintro e p1 ⟨rfl, hb_p1⟩
  have HBp1 := Lib.hid hb_p1
  clear hb_p1
  go_wp2_with fail
  refine (awake_any p1).mono ?_
  rintro e p2 ⟨rfl, hb_p2⟩
  have HBp2 : Hid (Below wI.heap.size wI p2) := HBp1.out.trans (hb_p2.mono HBp1.out.size)
  have HRL : Hid (p2.heap[y0]? = some (.cells #[.bool leaf, .slice A2 (pl + 1) c2, .slice kA kl kc, .slice cA cl cc] 26 (0, 0))) := (HBp2.out.block y0 (Array.getElem?_eq_some_iff.1 HROWL.out).1).trans HROWL.out
  have r0 : p2.cell? ⟨y0, 0, none⟩ = some (.bool leaf) := by rw [cell_of_row p2 y0 _ _ 26 (0, 0) HRL.out]; rfl
  have r1 : p2.cell? ⟨y0, 1, none⟩ = some (.slice A2 (pl + 1) c2) := by rw [cell_of_row p2 y0 _ _ 26 (0, 0) HRL.out]; rfl
  have r2 : p2.cell? ⟨y0, 2, none⟩ = some (.slice kA kl kc) := by rw [cell_of_row p2 y0 _ _ 26 (0, 0) HRL.out]; rfl
  have r3 : p2.cell? ⟨y0, 3, none⟩ = some (.slice cA cl cc) := by rw [cell_of_row p2 y0 _ _ 26 (0, 0) HRL.out]; rfl
  have HSZ1 := Lib.hid (Size_any p2 _ _ (HNL.out.keep HBp2.out) HFL.out)
  rw [HSLE.out] at HSZ1
  simp only [nv, ncs] at HSZ1
  clear hb_p2
  go_wp2_with fail
  refine HSZ1.out.mono ?_
  rintro e p3 ⟨rfl, hb_p3⟩
  have HBp3 : Hid (Below wI.heap.size wI p3) := HBp2.out.trans (hb_p3.mono HBp2.out.size)
  have HRN : Hid (p3.heap[y1]? = some (.cells #[.bool leaf, .slice pA pl pc, .slice A4 (kl + 1) c4, .slice A6 (cl + 1) c6] 26 (0, 0))) := (HBp3.out.block y1 (Array.getElem?_eq_some_iff.1 HROWI.out).1).trans HROWI.out
  clear r0 r1 r2 r3 hb_p3
  have r0 : p3.cell? ⟨y1, 0, none⟩ = some (.bool leaf) := by rw [cell_of_row p3 y1 _ _ 26 (0, 0) HRN.out]; rfl
  have r1 : p3.cell? ⟨y1, 1, none⟩ = some (.slice pA pl pc) := by rw [cell_of_row p3 y1 _ _ 26 (0, 0) HRN.out]; rfl
  have r2 : p3.cell? ⟨y1, 2, none⟩ = some (.slice A4 (kl + 1) c4) := by rw [cell_of_row p3 y1 _ _ 26 (0, 0) HRN.out]; rfl
  have r3 : p3.cell? ⟨y1, 3, none⟩ = some (.slice A6 (cl + 1) c6) := by rw [cell_of_row p3 y1 _ _ 26 (0, 0) HRN.out]; rfl
  have HSZ2 := Lib.hid (Size_any p3 _ _ (HNN.out.keep HBp3.out) HFN.out)
  rw [HSNE.out] at HSZ2
  simp only [nv, ncs] at HSZ2
  go_wp2_with fail
  refine HSZ2.out.mono ?_
  rintro e p4 ⟨rfl, hb_p4⟩
  have HBp4 : Hid (Below wI.heap.size wI p4) := HBp3.out.trans (hb_p4.mono HBp3.out.size)
  have HSZ3 := Lib.hid (Size_any p4 ⟨none, 0, 0, none, 0, 0, none, 0, 0⟩ ⟨false, [], [], []⟩ ⟨RdP.nil _ _ _, RdS.nil _ _ _, RdI.nil _ _ _⟩ ⟨by simp, by simp, by simp, by simp, by simp⟩)
  simp only [nv, ncs] at HSZ3
  clear r0 r1 r2 r3 hb_p4
  go_wp2_with fail
  refine HSZ3.out.mono ?_
  rintro e p5 ⟨rfl, hb_p5⟩
  have HBp5 : Hid (Below g w p5) := HB_w1.out.trans ((HB_wI.out.trans ((HBp4.out.trans (hb_p5.mono HBp4.out.size)).mono (by have := HB_wI.out.size; omega))).mono (by omega))
  have h30 : ((Nd.size ⟨false, [], [], []⟩ : Nat) : Int) = 3 := rfl
  rw [h30]
  clear hb_p5 h30
  go_wp2
  go_ret
  exact ⟨rfl, HBp5.out⟩

set_option maxRecDepth 100000 in
theorem lifted (os : Os) (started : os.Started) (H : Type) (enc : TypeId × Value → H) :
    ReturnsInHanded {} Try.checked os 7 .any (Rows.nodeSizesSpec.pre6 enc Try.prog Try.f7 Rows.nodeSizesRow.domain false) (Rows.nodeSizesSpec.post enc Try.prog Try.f7 false true false false) := by
  refine returnsInHanded_of_change_sized (C := Try.checked) own started (by kernel_rfl) Try.func7
    (ChangeSpec.witness6 (enc := enc) (C := Try.checked) false ⟨#[], #[.agg #[.bool false, .slice none 0 0, .slice none 0 0, .slice none 0 0], .string ByteArray.empty, .string ByteArray.empty, .int .i64 0], []⟩ 8 (by kernel_rfl) (by kernel_rfl) (by kernel_rfl) (by kernel_rfl)) ?_
  intro W base args ds gs before hval0 hW hcnd hsz0 _
  have hval : ∀ (j : Nat) t v, Try.f7.params[j]? = some t → args[j]? = some v → Value.okWide Try.prog W .any base t v := hval0
  have hsz : (DataW.weightsEach Try.prog (Try.f7.params.toList ++ Rows.nodeSizesSpec.plain.varTypes Try.prog) (ds ++ gs)).all (· ≤ reachBytes) = true := hsz0
  have hW' := hW
  obtain ⟨p, q, hA0, hV, rfl, hfz, hnd⟩ := hW
  have hA : DataW.TrodAll enc Try.prog W 0 (fun _ => true) true Try.f7.params.toList args.toList ds p := hA0
  rw [Try.params7] at hA hval hsz
  obtain ⟨v0, vs0, d0, ds0, p0, q0, hargs, rfl, rfl, t0, r0⟩ := trodAll_cons hA
  obtain ⟨v1, vs1, d1, ds1, p1, q1, rfl, rfl, rfl, t1, r1⟩ := trodAll_cons r0
  obtain ⟨v2, vs2, d2, ds2, p2, q2, rfl, rfl, rfl, t2, r2⟩ := trodAll_cons r1
  obtain ⟨v3, vs3, d3, ds3, p3, q3, rfl, rfl, rfl, t3, r3⟩ := trodAll_cons r2
  obtain ⟨rfl, rfl, rfl⟩ := trodAll_nil r3
  obtain rfl : args = #[v0, v1, v2, v3] := by cases args; simp_all
  obtain ⟨rfl, rfl⟩ := trodVars_none hV
  have k0 := t0
  have lt0 : ∀ x ∈ p0, x.block < W.heap.size := by obtain ⟨m, hm⟩ := k0; exact DataW.trod_lt m _ _ _ hm
  obtain ⟨h0, N0, rfl, w0⟩ := (IsN.of (hval 0 26 v0 rfl rfl) k0 (fun n hn => by
    have := List.all_eq_true.1 hsz n (DataW.weights_mem_each (j := 0) (t := 26) rfl rfl n hn)
    simpa using this)).ex
  obtain ⟨a1, rfl, rfl, rfl, wm1⟩ := open_string Try.underlying9 (hval 1 9 v1 rfl rfl) t1
  obtain ⟨a2, rfl, rfl, rfl, wm2⟩ := open_string Try.underlying9 (hval 2 9 v2 rfl rfl) t2
  obtain ⟨a3, rfl, rfl, rfl, w3⟩ := open_int Try.underlying3 (hval 3 3 v3 rfl rfl) t3
  have w1 : a1.size ≤ 140737488351232 := by
    have := sized_string hsz (j := 1) (t := 9) rfl rfl
    simpa [reach_eq] using this
  have w2 : a2.size ≤ 140737488351232 := by
    have := sized_string hsz (j := 2) (t := 9) rfl rfl
    simpa [reach_eq] using this
  clear hA0 hval0
  refine (walk h0 N0 a1 a2 a3 W w0 w1 w2 w3).mono fun e W' ⟨he, bel⟩ => ?_
  subst he
  exact ⟨_, rfl, _, _, _, [], _, [], hW', trodAll_mk1 (shut_bool Try.underlying4 _), (trodAll_cons_mk (Below.trod laidOut (by kernel_rfl) (of_decide_eq_true (by kernel_rfl)) k0 bel lt0) (trodAll_cons_mk (shut_string Try.underlying9 wm1) (trodAll_cons_mk (shut_string Try.underlying9 wm2) (trodAll_cons_mk (shut_int Try.underlying3 w3) trodAll_mk0)))), rfl, bel.frame _, fun h => by cases h⟩

theorem over : Rows.nodeSizesRow.holds Try.pinned (OpenSpec.ofChange Rows.nodeSizesSpec) :=
  OpenClaim.holds_of_wide 7 Try.f7 rfl rfl rfl rfl rfl rfl rfl ⟨rfl, rfl, rfl, rfl, rfl⟩ rfl rfl rfl rfl rfl (by kernel_rfl) Try.func7 (by kernel_rfl)
    (of_decide_eq_true (by kernel_rfl)) (by unfold Func.isWrapper; first | (rw [if_pos (by decide +kernel)]; kernel_rfl) | (rw [if_neg (by decide +kernel)]; exact ⟨rfl, rfl⟩))
    (fun os started H enc _ => lifted os started H enc)

/-- the statement. -/
theorem proved : Rows.NodeSizesSaid := over
#print axioms proved
end Go.Proofs.Ytedhcohpcdkgnaa.nodeSizes
