/- Parse. Conditions: none. -/
import Derived.Test.YtedhcohpcdkgnaaNI
import Derived.Test.YtedhcohpcdkgnaaNK
import Derived.Test.YtedhcohpcdkgnaaN7
namespace Go.Bs
open Go.RowKit
/-- what a function returns whose result lies in a variable, beside a plain one. -/
theorem results_cell2 {P : Program} {fn : Func} {t u : Tmp} {ty : TypeId} {ad : Addr} {v : Value} (h : fn.results = #[.cell t ty, .tmp u]) (tmps : Array Value) (w : World) (ht : tmps.getD t undef = .pointer (some ad))
    (hl : (loadVar ty ad).run P w = .ok v w) : (results fn tmps).run P w = .ok (.tuple #[v, tmps.getD u undef]) w := by
  have ht' : tmps[t]?.getD undef = .pointer (some ad) := by rw [← ht]; simp [Array.getD_eq_getD_getElem?]
  simp [results, h, ht', hl, asAddr]
def hd0 : Hd := ⟨none, 0, 0, none, 0, 0, none, 0, 0⟩
/-- what Parse tells of bytes. -/
def ParseR (w' : World) (b : List UInt8) (e : Ending) : Prop :=
  (okP b ∧ ∃ hd, e = .returned (.tuple #[nv hd (rdN b).1.leaf, .int .i64 0]) ∧ NdAt w' hd (rdN b).1) ∨ (¬ okP b ∧ e = .returned (.tuple #[nv hd0 false, .int .i64 4]))
theorem rdN_leaf (b : List UInt8) : (rdN b).1.leaf = decide (knd b = 1) := by
  unfold rdN; split
  · rename_i h; rw [decide_eq_true h]
  · rename_i h; rw [decide_eq_false h]
/-- a block of a node's size: its cells, that it may be written. -/
structure Zb (w : World) (g : Nat) (a b c d : Value) : Prop where
  row : w.heap[g]? = some (.cells #[a, b, c, d] 26 (0, 0))
theorem Zb.cells {w : World} {g : Nat} {a b c d : Value} (h : Zb w g a b c d) : w.cell? ⟨g, 0, none⟩ = some a ∧ w.cell? ⟨g, 1, none⟩ = some b ∧ w.cell? ⟨g, 2, none⟩ = some c ∧ w.cell? ⟨g, 3, none⟩ = some d ∧ w.frozen? ⟨g, 0, none⟩ = false ∧ w.frozen? ⟨g, 1, none⟩ = false ∧ w.frozen? ⟨g, 2, none⟩ = false ∧ w.frozen? ⟨g, 3, none⟩ = false := by
  refine ⟨?_, ?_, ?_, ?_, ?_, ?_, ?_, ?_⟩
  · rw [cell_of_row w g _ _ 26 (0, 0) h.row]; rfl
  · rw [cell_of_row w g _ _ 26 (0, 0) h.row]; rfl
  · rw [cell_of_row w g _ _ 26 (0, 0) h.row]; rfl
  · rw [cell_of_row w g _ _ 26 (0, 0) h.row]; rfl
  all_goals simp [World.frozen?, h.row]
abbrev set4 (w : World) (g : Nat) (a b c d : Value) : World := (((w.setCell ⟨g, 0, none⟩ a).setCell ⟨g, 1, none⟩ b).setCell ⟨g, 2, none⟩ c).setCell ⟨g, 3, none⟩ d
theorem Zb.set4 {w : World} {g : Nat} {a b c d : Value} (h : Zb w g a b c d) (a' b' c' d' : Value) : Zb (set4 w g a' b' c' d') g a' b' c' d' := by
  refine ⟨?_⟩
  have r3 := row_set (i := 3) (row_set (i := 2) (row_set (i := 1) (row_set (i := 0) h.row a') b') c') d'
  simpa using r3
theorem fr_set4 (w : World) (g : Nat) (a b c d : Value) : Fr (· = g) w (set4 w g a b c d) := ((((Fr.refl (· = g) w).setCell (.inl rfl) _).setCell (.inl rfl) _).setCell (.inl rfl) _).setCell (.inl rfl) _
theorem Zb.fr {w w' : World} {D : Nat → Prop} {g : Nat} {a b c d : Value} (h : Zb w g a b c d) (hf : Fr D w w') (hg : ¬ D g) : Zb w' g a b c d := ⟨(hf.block g (Array.getElem?_eq_some_iff.1 h.row).1 hg).trans h.row⟩
theorem Zb.other {w : World} {g : Nat} {x : Bool} (h : Zb w g (.bool x) (.slice none 0 0) (.slice none 0 0) (.slice none 0 0)) (i : Nat) (v : Value) (hv : w.cell? ⟨g, i, none⟩ = some v) : v = .bool x ∨ v = .slice none 0 0 := by
  rw [cell_of_row w g i _ 26 (0, 0) h.row] at hv
  match i, hv with
  | 0, hv => exact .inl (Option.some.inj hv).symm
  | 1, hv => exact .inr (Option.some.inj hv).symm
  | 2, hv => exact .inr (Option.some.inj hv).symm
  | 3, hv => exact .inr (Option.some.inj hv).symm
  | i + 4, hv => simp at hv
theorem NdAt.fr {w w' : World} {g : Nat} {h : Hd} {N : Nd} (H : NdAt w h N) (hf : Fr (· = g) w w') {x : Bool} (hz : Zb w g (.bool x) (.slice none 0 0) (.slice none 0 0) (.slice none 0 0)) : NdAt w' h N := by
  obtain ⟨p, k, ⟨c1, c2, c3, c4⟩⟩ := H
  have kc : ∀ {q i : Nat}, q < w.heap.size → q ≠ g → w'.cell? ⟨q, i, none⟩ = w.cell? ⟨q, i, none⟩ := fun hq hne => cell_of_blk (hf.block _ hq hne)
  have nostr : ∀ {q i : Nat} {s : ByteArray}, w.cell? ⟨q, i, none⟩ = some (.string s) → q ≠ g := fun hs e => by
    subst e
    rcases hz.other _ _ hs with h | h <;> cases h
  have noint : ∀ {q i : Nat} {s : Int}, w.cell? ⟨q, i, none⟩ = some (.int .i64 s) → q ≠ g := fun hs e => by
    subst e
    rcases hz.other _ _ hs with h | h <;> cases h
  refine ⟨⟨p.len, p.cap, p.sizes, fun hn => ?_⟩, ⟨k.len, k.cap, k.sizes, fun hn => ?_⟩, ⟨c1, c2, c3, fun hn => ?_⟩⟩
  · obtain ⟨q, o, e, hq, hcell⟩ := p.cells hn
    exact ⟨q, o, e, Nat.lt_of_lt_of_le hq hf.size, fun j hj => ⟨(kc hq (nostr (hcell j hj).1)).trans (hcell j hj).1, (kc hq (nostr (hcell j hj).1)).trans (hcell j hj).2⟩⟩
  · obtain ⟨q, o, e, hq, hcell⟩ := k.cells hn
    exact ⟨q, o, e, Nat.lt_of_lt_of_le hq hf.size, fun j hj => (kc hq (nostr (hcell j hj))).trans (hcell j hj)⟩
  · obtain ⟨q, o, e, hq, hcell⟩ := c4 hn
    exact ⟨q, o, e, Nat.lt_of_lt_of_le hq hf.size, fun j hj => (kc hq (noint (hcell j hj))).trans (hcell j hj)⟩
end Go.Bs
namespace Go.Proofs.Ytedhcohpcdkgnaa
open Go.RowKit Go.Bs

set_option maxRecDepth 100000 in
set_option maxHeartbeats 8000000 in
theorem Parse_any (w : World) (A : Option Addr) (n c : Nat) (b : List UInt8) (H : Rd w A n c b) (hn : n ≤ 5000) :
    Calls Try.prog 19 #[.slice A n c] w fun e w' => ParseR w' b e ∧ Below w.heap.size w w' := by
  obtain ⟨g, hg⟩ : ∃ g, w.heap.size = g := ⟨_, rfl⟩
  have HG := Lib.hid hg
  rw [hg]
  have HRD := Lib.hid H
  have hln := H.len
  have HL := Lib.hid hln
  obtain ⟨W0, hW0⟩ : ∃ W0, (w.alloc (.cells #[.bool false, .slice none 0 0, .slice none 0 0, .slice none 0 0] 26)).alloc (.cells #[.slice A n c, .bool false] 58) = W0 := ⟨_, rfl⟩
  have hb0 : Below w.heap.size w W0 := by rw [← hW0]; exact ((Below.refl _ _).alloc (Nat.le_refl _) _).alloc (by simp) _
  have hs0 : W0.heap.size = g + 2 := by rw [← hW0]; simp [hg]
  have HZ0 : Hid (Zb W0 g (.bool false) (.slice none 0 0) (.slice none 0 0) (.slice none 0 0)) := by
    refine ⟨?_⟩
    rw [← hW0, ← hg, heap_alloc_old _ _ (by simp)]
    exact heap_alloc_new _ _
  have HCU0 : Hid (Cu W0 (g + 1) g (b, false)) := by
    refine ⟨A, n, c, ?_, H.keep hb0, fun a ha h0 => ?_, hn⟩
    · have := heap_alloc_new (w.alloc (.cells #[.bool false, .slice none 0 0, .slice none 0 0, .slice none 0 0] 26)) (.cells #[.slice A n c, .bool false] 58)
      unfold CuAt
      rw [← hW0, ← hg]
      simpa using this
    · obtain ⟨q, o, e, hq, _⟩ := H.cells h0
      rw [e] at ha
      injection ha with ha
      subst ha
      show q ≠ g + 1 ∧ q < g
      omega
  have HFR0 : Hid (Fr (fun _ => False) w W0) := Fr.of hb0
  have HRE := Lib.hid (readers_any W0 (g + 1))
  rw [hs0] at HRE
  have HW0 := Lib.hid hW0
  clear H hb0 hW0 hln
  go_enter Try.func19, Try.ntmps19
  go_wp2_with fail
  rw [HW0.out]
  refine HRE.out.mono ?_
  rintro e w1 ⟨mb, rfl, hfm, hbox, hb1⟩
  have HFM := Lib.hid hfm
  have HBOX := Lib.hid hbox
  have HCU1 := Lib.hid (HCU0.out.keep (by rw [hs0]; exact hb1))
  have HZ1 := Lib.hid (HZ0.out.fr (D := fun _ => False) (Fr.of (by rw [hs0]; exact hb1)) id)
  have HFR1 : Hid (Fr (fun _ => False) w w1) := HFR0.out.trans (Fr.of (by rw [hs0]; exact hb1))
  have HNU := Lib.hid (number_any w1 (g + 1) _ g HCU1.out 1 (by omega))
  have hs1 : g + 2 < w1.heap.size := blt_of_cell hbox
  have hmb : mb ≠ g + 1 := by
    intro e
    subst e
    obtain ⟨es, clock, h1, _⟩ := hfm
    obtain ⟨_, _, _, h2, _⟩ := HCU1.out
    have h2' : w1.heap[g + 1]? = some _ := h2
    rw [h1] at h2'
    cases h2'
  clear hfm hbox hb1 HRE HCU0 HZ0 HFR0 hs0
  go_wp2_with fail
  refine HNU.out.mono ?_
  rintro e w2 ⟨rfl, hc2, hf2⟩
  have HFM2 := Lib.hid (HFM.out.keep (hf2.block mb HFM.out.lt hmb))
  have HBOX2 : Hid (w2.cell? ⟨g + 2, 0, none⟩ = some (.pointer (some ⟨g + 1, 0, none⟩))) := (cell_of_blk (hf2.block (g + 2) hs1 (by show ¬ g + 2 = g + 1; omega))).trans HBOX.out
  have HCU2 := Lib.hid hc2
  have HZ2 := Lib.hid (HZ1.out.fr hf2 (by show ¬ g = g + 1; omega))
  have HFR2 : Hid (Fr (· = g + 1) w w2) := (HFR1.out.mono (fun k hk => hk.elim)).trans hf2
  have hs2 : g + 2 < w2.heap.size := Nat.lt_of_lt_of_le hs1 hf2.size
  obtain ⟨kd, hkd⟩ : ∃ kd, (stNum (b, false) 1).1 = kd := ⟨_, rfl⟩
  have HKD : Hid (knd b = kd) := hkd
  have hkl : kd < 256 := by have := stNum_lt (b, false) 1 (by omega); rw [hkd] at this; simpa using this
  have hlk := HFM2.out.look (kd : Int) (by omega)
  rw [hkd]
  clear hc2 hf2 HFM HBOX HCU1 HZ1 HFR1 HNU hs1 hmb hkd
  have HERR : Hid (∀ W : World, Zb W g (.bool false) (.slice none 0 0) (.slice none 0 0) (.slice none 0 0) → Below g w W → ¬ okP b → ParseR (set4 W g (.bool false) (.slice none 0 0) (.slice none 0 0) (.slice none 0 0)) b (.returned (.tuple #[nv hd0 false, .int .i64 4])) ∧ Below g w (set4 W g (.bool false) (.slice none 0 0) (.slice none 0 0) (.slice none 0 0))) := fun W hz hb hno =>
    ⟨.inr ⟨hno, rfl⟩, hb.trans ((fr_set4 W g _ _ _ _).below (fun k hk => by have : k = g := hk; omega) (by have := (Array.getElem?_eq_some_iff.1 hz.row).1; omega))⟩
  by_cases hk1 : kd = 1
  · subst hk1
    have hlk1 : (Instr.lookup 61 (.map (some mb)) (.int .i64 1) true).run Try.prog w2 = .ok (.tuple #[.func (.func 41) #[] #[.pointer (some ⟨g + 2, 0, none⟩)], .bool true]) w2 := hlk
    have HN2 := Lib.hid (number_any w2 (g + 1) _ g HCU2.out 2 (by omega))
    obtain ⟨ct, hct⟩ : ∃ ct, cnt b = ct := ⟨_, rfl⟩
    rw [show stNum (stNum (b, false) 1).2 2 = ct from hct] at HN2
    have hcl : ct.1 ≤ 65535 := by rw [← hct]; exact cnt_lt b
    have HCT := Lib.hid hct
    clear hct
    go_wp2_with fail
    refine HN2.out.mono ?_
    rintro e w3 ⟨rfl, hc3, hf3⟩
    have HZ3 := Lib.hid (HZ2.out.fr hf3 (by show ¬ g = g + 1; omega))
    have HFR3 : Hid (Fr (· = g + 1) w w3) := HFR2.out.trans hf3
    have hbox3 : w3.cell? ⟨g + 2, 0, none⟩ = some (.pointer (some ⟨g + 1, 0, none⟩)) := (cell_of_blk (hf3.block (g + 2) hs2 (by show ¬ g + 2 = g + 1; omega))).trans HBOX2.out
    have hs3 : g + 2 < w3.heap.size := Nat.lt_of_lt_of_le hs2 hf3.size
    have HRL := Lib.hid (leafRd_any w3 (g + 1) g (g + 2) ct.1 ct.2 hc3 (by omega) hbox3 (by omega) hcl)
    have HRDN : Hid (rdN b = (⟨true, (prs ct.1 ct.2).1, [], []⟩, (prs ct.1 ct.2).2)) := by
      show rdN b = _
      unfold rdN
      rw [if_pos HKD.out, HCT.out]
    have HLF : Hid ((rdN b).1.leaf = true) := by show (rdN b).1.leaf = true; rw [HRDN.out]
    clear hc3 hf3 hbox3 HN2 HBOX2 HFM2 HCU2 HZ2 HFR2 hlk hlk1
    go_wp2_with fail
    refine HRL.out.mono ?_
    rintro e w4 ⟨⟨hd, rfl, hnd⟩, hc4, hf4⟩
    have hnd : NdAt w4 hd (rdN b).1 := by rw [HRDN.out]; exact hnd
    obtain ⟨st, hst⟩ : ∃ st, (prs ct.1 ct.2).2 = st := ⟨_, rfl⟩
    rw [hst] at hc4
    have HST : Hid ((rdN b).2 = st) := by show (rdN b).2 = st; rw [HRDN.out]; exact hst
    obtain ⟨lfb, hlfb⟩ : ∃ lfb, true = lfb := ⟨_, rfl⟩
    rw [hlfb] at HLF ⊢
    clear hst hlfb HRDN HRL
    obtain ⟨pA, pl, pc, kA, kl, kc, cA, cl, cc⟩ := hd
    obtain ⟨l3, sh3⟩ := st
    have HZ4 := Lib.hid (HZ3.out.fr hf4 (by show ¬ g = g + 1; omega))
    have HFR4 : Hid (Fr (· = g + 1) w w4) := HFR3.out.trans hf4
    have hs4 : g + 2 < w4.heap.size := Nat.lt_of_lt_of_le hs3 hf4.size
    obtain ⟨W5, hW5⟩ : ∃ W5, w4.alloc (.cells #[.bool lfb, .slice pA pl pc, .slice kA kl kc, .slice cA cl cc] 26) = W5 := ⟨_, rfl⟩
    have hb45 : Below w4.heap.size w4 W5 := by rw [← hW5]; exact (Below.refl _ _).alloc (Nat.le_refl _) _
    have hx5 : Bx W5 w4.heap.size ⟨pA, pl, pc, kA, kl, kc, cA, cl, cc⟩ lfb := by rw [← hW5]; exact Bx.new w4 ⟨pA, pl, pc, kA, kl, kc, cA, cl, cc⟩ lfb
    obtain ⟨y, hy⟩ : ∃ y, w4.heap.size = y := ⟨_, rfl⟩
    rw [hy] at hx5
    have HX5 := Lib.hid hx5
    obtain ⟨d0, d1, d2, d3⟩ := hx5.cells
    have HZ5 := Lib.hid (HZ4.out.fr (D := fun _ => False) (Fr.of hb45) id)
    have HFR5 : Hid (Fr (· = g + 1) w W5) := HFR4.out.step (Fr.of (D := fun _ => False) hb45) (fun i hi => hi.elim)
    have HND5 := Lib.hid (hnd.keep hb45)
    have HCU5 := Lib.hid (hc4.keep hb45)
    have fl := HCU5.out.flag
    have hs5 : g + 2 < W5.heap.size := Nat.lt_of_lt_of_le hs4 hb45.size
    have hbg5 : Below g w W5 := HFR5.out.below (fun k hk => by have : k = g + 1 := hk; omega) (by omega)
    have HBG5 := Lib.hid hbg5
    simp only at fl
    simp only [nv, ncs]
    obtain ⟨z0, z1, z2, z3, f0, f1, f2, f3⟩ := HZ5.out.cells
    clear hnd hc4 hf4 hb45 hx5 hbg5 HZ3 HFR3 HZ4 HFR4
    cases sh3 with
    | true =>
      have hno : ¬ okP b := fun h => by have := h.2.1; rw [HST.out] at this; cases this
      have HE := Lib.hid (HERR.out W5 HZ5.out HBG5.out hno)
      have HZE := Lib.hid (HZ5.out.set4 (.bool false) (.slice none 0 0) (.slice none 0 0) (.slice none 0 0))
      clear hno d0 d1 d2 d3
      go_wp2
      exact bodyPost_ret (results_cell2 (P := Try.prog) (fn := Try.f19) rfl _ _ rfl (run_loadVar_row _ g 26 26 _ (0, 0) _ HZE.out.row Try.underlying26 rfl (by kernel_rfl))) rfl HE.out
    | false =>
      have HF7 := Lib.hid (rdN_few b (by rw [HL.out]; exact hn) (by rw [HST.out]))
      obtain ⟨N, hN⟩ : ∃ N, (rdN b).1 = N := ⟨_, rfl⟩
      rw [hN] at HND5 HF7 HLF
      have HCK := Lib.hid (Check_any W5 ⟨pA, pl, pc, kA, kl, kc, cA, cl, cc⟩ N HND5.out HF7.out (n : Int))
      simp only [nv, ncs] at HCK
      rw [HLF.out] at HCK
      have HN := Lib.hid hN
      obtain ⟨R, hR⟩ : ∃ R, N.chk (n : Int) = R := ⟨_, rfl⟩
      rw [hR] at HCK
      have HR := Lib.hid hR
      clear hR hN
      go_wp2_with fail
      refine HCK.out.mono ?_
      rintro e w6 ⟨rfl, hb6⟩
      have HX6 := Lib.hid (HX5.out.keep hb6)
      have HZ6 := Lib.hid (HZ5.out.fr (D := fun _ => False) (Fr.of hb6) id)
      have HND6 := Lib.hid (HND5.out.keep hb6)
      have hcu6 := HCU5.out.keep hb6
      have HFR6 : Hid (Fr (· = g + 1) w w6) := HFR5.out.step (Fr.of (D := fun _ => False) hb6) (fun i hi => hi.elim)
      have hbg6 : Below g w w6 := HBG5.out.trans (hb6.mono (by omega))
      have HBG6 := Lib.hid hbg6
      obtain ⟨A3, n3, c3, hca, hr3, _, hn3⟩ := hcu6.ex
      simp only at hca hr3
      have HAN := Lib.hid (allNought_any w6 A3 n3 c3 l3 hr3 hn3)
      have q0 := hca.cells.1
      clear hb6 hcu6 hbg6 hca hr3 hn3 d0 d1 d2 d3 z0 z1 z2 z3 f0 f1 f2 f3 fl HCK
      obtain ⟨z0, z1, z2, z3, f0, f1, f2, f3⟩ := HZ6.out.cells
      obtain ⟨d0, d1, d2, d3⟩ := HX6.out.cells
      by_cases hR0 : R = 0
      · subst hR0
        obtain ⟨al, hal⟩ : ∃ al, l3.all (· == 0) = al := ⟨_, rfl⟩
        rw [hal] at HAN
        have HAL := Lib.hid hal
        clear hal
        go_wp2_with fail
        refine HAN.out.mono ?_
        rintro e w7 ⟨rfl, rfl⟩
        clear HAN
        cases al with
        | true =>
          have HOKP : Hid (okP b) := ⟨by rw [HKD.out]; omega, by rw [HST.out], by rw [HN.out, HL.out]; exact HR.out, by rw [HST.out]; exact HAL.out⟩
          have hZE := HZ6.out.set4 (.bool lfb) (.slice pA pl pc) (.slice kA kl kc) (.slice cA cl cc)
          have HZE := Lib.hid hZE
          have hap : ∀ (B : Option Addr) (k : Nat) (q : Nat), True := fun _ _ _ => trivial
          have HE : Hid (ParseR (set4 w6 g (.bool lfb) (.slice pA pl pc) (.slice kA kl kc) (.slice cA cl cc)) b (.returned (.tuple #[.agg #[.bool lfb, .slice pA pl pc, .slice kA kl kc, .slice cA cl cc], .int .i64 0])) ∧ Below g w (set4 w6 g (.bool lfb) (.slice pA pl pc) (.slice kA kl kc) (.slice cA cl cc))) := by
            have hfs := fr_set4 w6 g (.bool lfb) (.slice pA pl pc) (.slice kA kl kc) (.slice cA cl cc)
            refine ⟨.inl ⟨HOKP.out, ⟨pA, pl, pc, kA, kl, kc, cA, cl, cc⟩, ?_, ?_⟩, HBG6.out.trans (hfs.below (fun k hk => by have : k = g := hk; omega) (by have := (Array.getElem?_eq_some_iff.1 HZ6.out.row).1; omega))⟩
            · rw [HN.out, HLF.out]; rfl
            · rw [HN.out]
              exact HND6.out.fr hfs HZ6.out
          clear d0 d1 d2 d3
          have d0 := HX6.out.cells.1
          have d1 := HX6.out.cells.2.1
          have d2 := HX6.out.cells.2.2.1
          have d3 := HX6.out.cells.2.2.2
          clear hap hZE
          go_wp2
          exact bodyPost_ret (results_cell2 (P := Try.prog) (fn := Try.f19) rfl _ _ rfl (run_loadVar_row _ g 26 26 _ (0, 0) _ HZE.out.row Try.underlying26 rfl (by kernel_rfl))) rfl HE.out
        | false =>
          have hno : ¬ okP b := fun h => by have := h.2.2.2; rw [HST.out] at this; simp only at this; rw [HAL.out] at this; cases this
          have HE := Lib.hid (HERR.out w6 HZ6.out HBG6.out hno)
          have HZE := Lib.hid (HZ6.out.set4 (.bool false) (.slice none 0 0) (.slice none 0 0) (.slice none 0 0))
          clear hno d0 d1 d2 d3
          go_wp2
          exact bodyPost_ret (results_cell2 (P := Try.prog) (fn := Try.f19) rfl _ _ rfl (run_loadVar_row _ g 26 26 _ (0, 0) _ HZE.out.row Try.underlying26 rfl (by kernel_rfl))) rfl HE.out
      · have hno : ¬ okP b := fun h => hR0 (by rw [← HR.out, ← HN.out, ← HL.out]; exact h.2.2.1)
        have HE := Lib.hid (HERR.out w6 HZ6.out HBG6.out hno)
        have HZE := Lib.hid (HZ6.out.set4 (.bool false) (.slice none 0 0) (.slice none 0 0) (.slice none 0 0))
        have hRn : (R != 0) = true := by simpa using hR0
        clear hno d0 d1 d2 d3 hR0
        go_wp2
        exact bodyPost_ret (results_cell2 (P := Try.prog) (fn := Try.f19) rfl _ _ rfl (run_loadVar_row _ g 26 26 _ (0, 0) _ HZE.out.row Try.underlying26 rfl (by kernel_rfl))) rfl HE.out
  · by_cases hk2 : kd = 2
    · subst hk2
      have hlk1 : (Instr.lookup 61 (.map (some mb)) (.int .i64 2) true).run Try.prog w2 = .ok (.tuple #[.func (.func 43) #[] #[.pointer (some ⟨g + 2, 0, none⟩)], .bool true]) w2 := hlk
      have HN2 := Lib.hid (number_any w2 (g + 1) _ g HCU2.out 2 (by omega))
      obtain ⟨ct, hct⟩ : ∃ ct, cnt b = ct := ⟨_, rfl⟩
      rw [show stNum (stNum (b, false) 1).2 2 = ct from hct] at HN2
      have hcl : ct.1 ≤ 65535 := by rw [← hct]; exact cnt_lt b
      have HCT := Lib.hid hct
      clear hct
      go_wp2_with fail
      refine HN2.out.mono ?_
      rintro e w3 ⟨rfl, hc3, hf3⟩
      have HZ3 := Lib.hid (HZ2.out.fr hf3 (by show ¬ g = g + 1; omega))
      have HFR3 : Hid (Fr (· = g + 1) w w3) := HFR2.out.trans hf3
      have hbox3 : w3.cell? ⟨g + 2, 0, none⟩ = some (.pointer (some ⟨g + 1, 0, none⟩)) := (cell_of_blk (hf3.block (g + 2) hs2 (by show ¬ g + 2 = g + 1; omega))).trans HBOX2.out
      have hs3 : g + 2 < w3.heap.size := Nat.lt_of_lt_of_le hs2 hf3.size
      have HRL := Lib.hid (innerRd_any w3 (g + 1) g (g + 2) ct.1 ct.2 hc3 (by omega) hbox3 (by omega) hcl)
      have HRDN : Hid (rdN b = (⟨false, [], (kys ct.1 (chs (ct.1 + 1) ct.2).2).1, (chs (ct.1 + 1) ct.2).1⟩, (kys ct.1 (chs (ct.1 + 1) ct.2).2).2)) := by
        show rdN b = _
        unfold rdN
        rw [if_neg (by rw [HKD.out]; omega), HCT.out]
      have HLF : Hid ((rdN b).1.leaf = false) := by show (rdN b).1.leaf = false; rw [HRDN.out]
      clear hc3 hf3 hbox3 HN2 HBOX2 HFM2 HCU2 HZ2 HFR2 hlk hlk1
      go_wp2_with fail
      refine HRL.out.mono ?_
      rintro e w4 ⟨⟨hd, rfl, hnd⟩, hc4, hf4⟩
      have hnd : NdAt w4 hd (rdN b).1 := by rw [HRDN.out]; exact hnd
      obtain ⟨st, hst⟩ : ∃ st, (kys ct.1 (chs (ct.1 + 1) ct.2).2).2 = st := ⟨_, rfl⟩
      rw [hst] at hc4
      have HST : Hid ((rdN b).2 = st) := by show (rdN b).2 = st; rw [HRDN.out]; exact hst
      obtain ⟨lfb, hlfb⟩ : ∃ lfb, false = lfb := ⟨_, rfl⟩
      rw [hlfb] at HLF ⊢
      clear hst hlfb HRDN HRL
      obtain ⟨pA, pl, pc, kA, kl, kc, cA, cl, cc⟩ := hd
      obtain ⟨l3, sh3⟩ := st
      have HZ4 := Lib.hid (HZ3.out.fr hf4 (by show ¬ g = g + 1; omega))
      have HFR4 : Hid (Fr (· = g + 1) w w4) := HFR3.out.trans hf4
      have hs4 : g + 2 < w4.heap.size := Nat.lt_of_lt_of_le hs3 hf4.size
      obtain ⟨W5, hW5⟩ : ∃ W5, w4.alloc (.cells #[.bool lfb, .slice pA pl pc, .slice kA kl kc, .slice cA cl cc] 26) = W5 := ⟨_, rfl⟩
      have hb45 : Below w4.heap.size w4 W5 := by rw [← hW5]; exact (Below.refl _ _).alloc (Nat.le_refl _) _
      have hx5 : Bx W5 w4.heap.size ⟨pA, pl, pc, kA, kl, kc, cA, cl, cc⟩ lfb := by rw [← hW5]; exact Bx.new w4 ⟨pA, pl, pc, kA, kl, kc, cA, cl, cc⟩ lfb
      obtain ⟨y, hy⟩ : ∃ y, w4.heap.size = y := ⟨_, rfl⟩
      rw [hy] at hx5
      have HX5 := Lib.hid hx5
      obtain ⟨d0, d1, d2, d3⟩ := hx5.cells
      have HZ5 := Lib.hid (HZ4.out.fr (D := fun _ => False) (Fr.of hb45) id)
      have HFR5 : Hid (Fr (· = g + 1) w W5) := HFR4.out.step (Fr.of (D := fun _ => False) hb45) (fun i hi => hi.elim)
      have HND5 := Lib.hid (hnd.keep hb45)
      have HCU5 := Lib.hid (hc4.keep hb45)
      have fl := HCU5.out.flag
      have hs5 : g + 2 < W5.heap.size := Nat.lt_of_lt_of_le hs4 hb45.size
      have hbg5 : Below g w W5 := HFR5.out.below (fun k hk => by have : k = g + 1 := hk; omega) (by omega)
      have HBG5 := Lib.hid hbg5
      simp only at fl
      simp only [nv, ncs]
      obtain ⟨z0, z1, z2, z3, f0, f1, f2, f3⟩ := HZ5.out.cells
      clear hnd hc4 hf4 hb45 hx5 hbg5 HZ3 HFR3 HZ4 HFR4
      cases sh3 with
      | true =>
        have hno : ¬ okP b := fun h => by have := h.2.1; rw [HST.out] at this; cases this
        have HE := Lib.hid (HERR.out W5 HZ5.out HBG5.out hno)
        have HZE := Lib.hid (HZ5.out.set4 (.bool false) (.slice none 0 0) (.slice none 0 0) (.slice none 0 0))
        clear hno d0 d1 d2 d3
        go_wp2
        exact bodyPost_ret (results_cell2 (P := Try.prog) (fn := Try.f19) rfl _ _ rfl (run_loadVar_row _ g 26 26 _ (0, 0) _ HZE.out.row Try.underlying26 rfl (by kernel_rfl))) rfl HE.out
      | false =>
        have HF7 := Lib.hid (rdN_few b (by rw [HL.out]; exact hn) (by rw [HST.out]))
        obtain ⟨N, hN⟩ : ∃ N, (rdN b).1 = N := ⟨_, rfl⟩
        rw [hN] at HND5 HF7 HLF
        have HCK := Lib.hid (Check_any W5 ⟨pA, pl, pc, kA, kl, kc, cA, cl, cc⟩ N HND5.out HF7.out (n : Int))
        simp only [nv, ncs] at HCK
        rw [HLF.out] at HCK
        have HN := Lib.hid hN
        obtain ⟨R, hR⟩ : ∃ R, N.chk (n : Int) = R := ⟨_, rfl⟩
        rw [hR] at HCK
        have HR := Lib.hid hR
        clear hR hN
        go_wp2_with fail
        refine HCK.out.mono ?_
        rintro e w6 ⟨rfl, hb6⟩
        have HX6 := Lib.hid (HX5.out.keep hb6)
        have HZ6 := Lib.hid (HZ5.out.fr (D := fun _ => False) (Fr.of hb6) id)
        have HND6 := Lib.hid (HND5.out.keep hb6)
        have hcu6 := HCU5.out.keep hb6
        have HFR6 : Hid (Fr (· = g + 1) w w6) := HFR5.out.step (Fr.of (D := fun _ => False) hb6) (fun i hi => hi.elim)
        have hbg6 : Below g w w6 := HBG5.out.trans (hb6.mono (by omega))
        have HBG6 := Lib.hid hbg6
        obtain ⟨A3, n3, c3, hca, hr3, _, hn3⟩ := hcu6.ex
        simp only at hca hr3
        have HAN := Lib.hid (allNought_any w6 A3 n3 c3 l3 hr3 hn3)
        have q0 := hca.cells.1
        clear hb6 hcu6 hbg6 hca hr3 hn3 d0 d1 d2 d3 z0 z1 z2 z3 f0 f1 f2 f3 fl HCK
        obtain ⟨z0, z1, z2, z3, f0, f1, f2, f3⟩ := HZ6.out.cells
        obtain ⟨d0, d1, d2, d3⟩ := HX6.out.cells
        by_cases hR0 : R = 0
        · subst hR0
          obtain ⟨al, hal⟩ : ∃ al, l3.all (· == 0) = al := ⟨_, rfl⟩
          rw [hal] at HAN
          have HAL := Lib.hid hal
          clear hal
          go_wp2_with fail
          refine HAN.out.mono ?_
          rintro e w7 ⟨rfl, rfl⟩
          clear HAN
          cases al with
          | true =>
            have HOKP : Hid (okP b) := ⟨by rw [HKD.out]; omega, by rw [HST.out], by rw [HN.out, HL.out]; exact HR.out, by rw [HST.out]; exact HAL.out⟩
            have hZE := HZ6.out.set4 (.bool lfb) (.slice pA pl pc) (.slice kA kl kc) (.slice cA cl cc)
            have HZE := Lib.hid hZE
            have hap : ∀ (B : Option Addr) (k : Nat) (q : Nat), True := fun _ _ _ => trivial
            have HE : Hid (ParseR (set4 w6 g (.bool lfb) (.slice pA pl pc) (.slice kA kl kc) (.slice cA cl cc)) b (.returned (.tuple #[.agg #[.bool lfb, .slice pA pl pc, .slice kA kl kc, .slice cA cl cc], .int .i64 0])) ∧ Below g w (set4 w6 g (.bool lfb) (.slice pA pl pc) (.slice kA kl kc) (.slice cA cl cc))) := by
              have hfs := fr_set4 w6 g (.bool lfb) (.slice pA pl pc) (.slice kA kl kc) (.slice cA cl cc)
              refine ⟨.inl ⟨HOKP.out, ⟨pA, pl, pc, kA, kl, kc, cA, cl, cc⟩, ?_, ?_⟩, HBG6.out.trans (hfs.below (fun k hk => by have : k = g := hk; omega) (by have := (Array.getElem?_eq_some_iff.1 HZ6.out.row).1; omega))⟩
              · rw [HN.out, HLF.out]; rfl
              · rw [HN.out]
                exact HND6.out.fr hfs HZ6.out
            clear d0 d1 d2 d3
            have d0 := HX6.out.cells.1
            have d1 := HX6.out.cells.2.1
            have d2 := HX6.out.cells.2.2.1
            have d3 := HX6.out.cells.2.2.2
            clear hap hZE
            go_wp2
            exact bodyPost_ret (results_cell2 (P := Try.prog) (fn := Try.f19) rfl _ _ rfl (run_loadVar_row _ g 26 26 _ (0, 0) _ HZE.out.row Try.underlying26 rfl (by kernel_rfl))) rfl HE.out
          | false =>
            have hno : ¬ okP b := fun h => by have := h.2.2.2; rw [HST.out] at this; simp only at this; rw [HAL.out] at this; cases this
            have HE := Lib.hid (HERR.out w6 HZ6.out HBG6.out hno)
            have HZE := Lib.hid (HZ6.out.set4 (.bool false) (.slice none 0 0) (.slice none 0 0) (.slice none 0 0))
            clear hno d0 d1 d2 d3
            go_wp2
            exact bodyPost_ret (results_cell2 (P := Try.prog) (fn := Try.f19) rfl _ _ rfl (run_loadVar_row _ g 26 26 _ (0, 0) _ HZE.out.row Try.underlying26 rfl (by kernel_rfl))) rfl HE.out
        · have hno : ¬ okP b := fun h => hR0 (by rw [← HR.out, ← HN.out, ← HL.out]; exact h.2.2.1)
          have HE := Lib.hid (HERR.out w6 HZ6.out HBG6.out hno)
          have HZE := Lib.hid (HZ6.out.set4 (.bool false) (.slice none 0 0) (.slice none 0 0) (.slice none 0 0))
          have hRn : (R != 0) = true := by simpa using hR0
          clear hno d0 d1 d2 d3 hR0
          go_wp2
          exact bodyPost_ret (results_cell2 (P := Try.prog) (fn := Try.f19) rfl _ _ rfl (run_loadVar_row _ g 26 26 _ (0, 0) _ HZE.out.row Try.underlying26 rfl (by kernel_rfl))) rfl HE.out
    · have hF : rdF (g + 2) (kd : Int) = none := by unfold rdF; rw [if_neg (by omega), if_neg (by omega)]
      rw [hF] at hlk
      simp only [Option.getD_none, Option.isSome_none] at hlk
      have hno : ¬ okP b := fun h => by have := h.1; rw [HKD.out] at this; omega
      have hb2 : Below g w w2 := HFR2.out.below (fun k hk => by have : k = g + 1 := hk; omega) (by omega)
      have HE := Lib.hid (HERR.out w2 HZ2.out hb2 hno)
      have HZE := Lib.hid (HZ2.out.set4 (.bool false) (.slice none 0 0) (.slice none 0 0) (.slice none 0 0))
      obtain ⟨z0, z1, z2, z3, f0, f1, f2, f3⟩ := HZ2.out.cells
      clear hF hno hb2
      go_wp2
      exact bodyPost_ret (results_cell2 (P := Try.prog) (fn := Try.f19) rfl _ _ rfl (run_loadVar_row _ g 26 26 _ (0, 0) _ HZE.out.row Try.underlying26 rfl (by kernel_rfl))) rfl HE.out
end Go.Proofs.Ytedhcohpcdkgnaa
