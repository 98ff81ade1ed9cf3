/-
  The statement 'Sha256Mixes' (chandlerylaw03), as its tied card, holds at every input: the call returns true and leaves its arguments as they were. Conditions: none beyond the row's own: the two package-level tables start as the program's text lays them (the card ties them).
-/
import Derived.Test.YtnoldhedocejbaaDoorCard
import Derived.Test.YtnoldhedocejbaaDoorR6
import Derived.Test.YtnoldhedocejbaaDoorR9
import Derived.Test.YtnoldhedocejbaaDoorS11
import Derived.Test.YtnoldhedocejbaaDoorS13
import Derived.Deep.RegionHeld3
namespace Go.Proofs.YtnoldhedocejbaaDoor.sha256Mixes
open Go.ChangeShapes Go.WideShapes Go.ChangeAt Go.RowKit Go.Bs Go.Sha
open Go.ChangeMaps (open_string shut_string)
set_option linter.unusedVariables false

theorem laidOut : laidOutB Tryd.prog = true := by kernel_rfl
def IsRow (k : IntKind) (w : World) (a : Option Addr) (len cap : Nat) (zs : List Int) : Prop :=
  (a = none ∧ len = 0 ∧ cap = 0 ∧ zs = []) ∨
  ∃ x, a = some x ∧ len ≤ cap ∧ cap ≤ maxLen ∧ zs.length = cap ∧ (∀ i, i < zs.length → w.cell? (x.add i) = some (.int k (zs.getD i 0))) ∧ ∀ n ∈ zs, (Lit.int k n).wf = true

theorem cells29 : Tryd.prog.cellsOf 29 = 8 := by kernel_rfl
theorem open_arr8 {H : Type} {enc : TypeId × Value → H} {w : World} {base : Nat} {spare : Nat → Bool} {held : Bool} {fuel : Nat} {l : List Value} {x : DataW H × List MemPlace} (hl : l.length = 8)
    (h : DataW.trod enc Tryd.prog w base spare held fuel 29 l = some x) :
    ∃ x0 x1 x2 x3 x4 x5 x6 x7 : Int, l = [.int .i64 x0, .int .i64 x1, .int .i64 x2, .int .i64 x3, .int .i64 x4, .int .i64 x5, .int .i64 x6, .int .i64 x7] ∧ ∀ z ∈ [x0, x1, x2, x3, x4, x5, x6, x7], (Lit.int .i64 z).wf = true := by
  obtain ⟨xs, m, rfl, hx, hlen, hn, hel⟩ := DataW.trod_array Tryd.underlying29 h
  have c3 : Tryd.prog.cellsOf 3 = 1 := by kernel_rfl
  match l, hl, hel with
  | [c0, c1, c2, c3', c4, c5, c6, c7], _, hel =>
    have one : ∀ i, i < 8 → ∀ c, (([c0, c1, c2, c3', c4, c5, c6, c7] : List Value).drop (i * 1)).take 1 = [c] → ∃ z, c = .int .i64 z ∧ (Lit.int .i64 z).wf = true := by
      intro i hi c hc
      have := hel i hi
      rw [c3, hc, List.getElem?_eq_getElem (by omega)] at this
      obtain ⟨z, e, _, hw⟩ := DataW.trod_int Tryd.underlying3 this
      exact ⟨z, by simpa using e, hw⟩
    obtain ⟨x0, rfl, w0⟩ := one 0 (by omega) c0 rfl
    obtain ⟨x1, rfl, w1⟩ := one 1 (by omega) c1 rfl
    obtain ⟨x2, rfl, w2⟩ := one 2 (by omega) c2 rfl
    obtain ⟨x3, rfl, w3⟩ := one 3 (by omega) c3' rfl
    obtain ⟨x4, rfl, w4⟩ := one 4 (by omega) c4 rfl
    obtain ⟨x5, rfl, w5⟩ := one 5 (by omega) c5 rfl
    obtain ⟨x6, rfl, w6⟩ := one 6 (by omega) c6 rfl
    obtain ⟨x7, rfl, w7⟩ := one 7 (by omega) c7 rfl
    refine ⟨x0, x1, x2, x3, x4, x5, x6, x7, rfl, fun z hz => ?_⟩
    simp only [List.mem_cons, List.not_mem_nil, or_false] at hz
    rcases hz with rfl | rfl | rfl | rfl | rfl | rfl | rfl | rfl <;> assumption

/-- what Mix answers, as values. -/
theorem Mix_gen (zs : List Int) (za : Array Value) (z0 z1 z2 z3 z4 z5 z6 z7 : Int) (hzs : zs = [z0, z1, z2, z3, z4, z5, z6, z7]) (hza : za = #[N z0, N z1, N z2, N z3, N z4, N z5, N z6, N z7]) (A : Option Addr) (n c : Nat) (bs : List UInt8) (w : World) (h : Rd w A n c bs) (hc : c ≤ 9223372036854775807) (hL : Laid w) :
    Calls Tryd.prog 11 #[.agg za, .slice A n c] w fun e w' => ∃ (ns : Array Value) (er : Int), e = .returned (.tuple #[.agg ns, .int .i64 er]) ∧ Below w.heap.size w w' ∧ ns.size = 8 ∧ ns.all (·.oneCell') = true ∧
      Hid ((n = 64 ∧ (∀ z ∈ zs, okI z) ∧ ns = (mixS (stOf zs) bs).ns ∧ er = 0) ∨ (¬ (n = 64 ∧ ∀ z ∈ zs, okI z) ∧ ns = Z8i ∧ er = 1)) := by
  subst hzs hza
  refine (Mix_any z0 z1 z2 z3 z4 z5 z6 z7 A n c bs w h hc hL).mono ?_
  rintro e w' ⟨hb, hr⟩
  rcases hr with ⟨h1, h2, rfl⟩ | ⟨h1, rfl⟩
  · exact ⟨_, _, rfl, hb, rfl, ns_one _, .inl ⟨h1, h2, rfl, rfl⟩⟩
  · exact ⟨_, _, rfl, hb, rfl, by simp [Value.oneCell'], .inr ⟨h1, rfl, rfl⟩⟩

theorem eq8 (W : World) : (Op.equalIn 10000 29 (.agg Z8i) (.agg Z8i)).run Tryd.prog W = .ok true W := by kernel_rfl
theorem getD_mem (zs : List Int) (h8 : zs.length = 8) (j : Nat) (hj : j < 8) : zs.getD j 0 ∈ zs := by
  have : zs.getD j 0 = zs[j] := by simp [List.getD, List.getElem?_eq_getElem (show j < zs.length by omega)]
  rw [this]
  exact List.getElem_mem _
theorem getD_all (zs : List Int) (h8 : zs.length = 8) (h : ∀ j, j < 8 → okI (zs.getD j 0)) : ∀ z ∈ zs, okI z := by
  intro z hz
  obtain ⟨j, hj, rfl⟩ := List.getElem_of_mem hz
  have := h j (by omega)
  have e : zs.getD j 0 = zs[j] := by simp [List.getD, List.getElem?_eq_getElem hj]
  rw [e] at this
  exact this
theorem st_ns (z0 z1 z2 z3 z4 z5 z6 z7 : Int) (h : ∀ z ∈ [z0, z1, z2, z3, z4, z5, z6, z7], okI z) : (#[N z0, N z1, N z2, N z3, N z4, N z5, N z6, N z7] : Array Value) = (stOf [z0, z1, z2, z3, z4, z5, z6, z7]).ns := by
  have key : ∀ z : Int, okI z → N z = I z.toNat := fun z hz => by
    show Value.int .i64 z = Value.int .i64 (z.toNat : Int)
    rw [Int.toNat_of_nonneg hz.1]
  rw [key z0 (h _ (by simp)), key z1 (h _ (by simp)), key z2 (h _ (by simp)), key z3 (h _ (by simp)), key z4 (h _ (by simp)), key z5 (h _ (by simp)), key z6 (h _ (by simp)), key z7 (h _ (by simp))]
  rfl
theorem st_ok (z0 z1 z2 z3 z4 z5 z6 z7 : Int) (h : ∀ z ∈ [z0, z1, z2, z3, z4, z5, z6, z7], okI z) : (stOf [z0, z1, z2, z3, z4, z5, z6, z7]).ok := by
  have key : ∀ z : Int, okI z → z.toNat < 4294967296 := fun z hz => by have := hz.1; have := hz.2; omega
  exact ⟨key z0 (h _ (by simp)), key z1 (h _ (by simp)), key z2 (h _ (by simp)), key z3 (h _ (by simp)), key z4 (h _ (by simp)), key z5 (h _ (by simp)), key z6 (h _ (by simp)), key z7 (h _ (by simp))⟩
theorem rdW_row {w : World} {g t : Nat} {s : St} (h : w.heap[g]? = some (.cells s.ns t (0, 0))) : RdW w (some ⟨g, 0, none⟩) 8 8 s.l := by
  refine ⟨rfl, Nat.le_refl _, fun _ => ⟨g, 0, rfl, ?_, fun j hj => ?_⟩⟩
  · rcases Nat.lt_or_ge g w.heap.size with hlt | hge
    · exact hlt
    · rw [Array.getElem?_eq_none hge] at h; cases h
  · rw [Nat.zero_add, cell_of_row w g j _ t (0, 0) h]
    have : j = 0 ∨ j = 1 ∨ j = 2 ∨ j = 3 ∨ j = 4 ∨ j = 5 ∨ j = 6 ∨ j = 7 := by omega
    rcases this with e | e | e | e | e | e | e | e <;> subst e <;> rfl
theorem rdI_row {w : World} {g t : Nat} {z0 z1 z2 z3 z4 z5 z6 z7 : Int} (h : w.heap[g]? = some (.cells #[N z0, N z1, N z2, N z3, N z4, N z5, N z6, N z7] t (0, 0)))
    (hwf : ∀ z ∈ [z0, z1, z2, z3, z4, z5, z6, z7], -9223372036854775808 ≤ z ∧ z ≤ 9223372036854775807) : RdI w (some ⟨g, 0, none⟩) 8 8 [z0, z1, z2, z3, z4, z5, z6, z7] := by
  refine ⟨rfl, Nat.le_refl _, hwf, fun _ => ⟨g, 0, rfl, ?_, fun j hj => ?_⟩⟩
  · rcases Nat.lt_or_ge g w.heap.size with hlt | hge
    · exact hlt
    · rw [Array.getElem?_eq_none hge] at h; cases h
  · rw [Nat.zero_add, cell_of_row w g j _ t (0, 0) h]
    have : j = 0 ∨ j = 1 ∨ j = 2 ∨ j = 3 ∨ j = 4 ∨ j = 5 ∨ j = 6 ∨ j = 7 := by omega
    rcases this with e | e | e | e | e | e | e | e <;> subst e <;> rfl
theorem l_ok {s : St} (h : s.ok) : ∀ x ∈ s.l, x < 4294967296 := by
  obtain ⟨h1, h2, h3, h4, h5, h6, h7, h8⟩ := h
  intro x hx
  simp only [St.l, List.mem_cons, List.not_mem_nil, or_false] at hx
  rcases hx with rfl | rfl | rfl | rfl | rfl | rfl | rfl | rfl <;> assumption

set_option maxRecDepth 100000 in
set_option maxHeartbeats 4000000 in
theorem walkIn (zs : List Int) (za : Array Value) (z0 z1 z2 z3 z4 z5 z6 z7 : Int) (hzs : zs = [z0, z1, z2, z3, z4, z5, z6, z7]) (hza : za = #[N z0, N z1, N z2, N z3, N z4, N z5, N z6, N z7])
    (hwf : ∀ z ∈ zs, -9223372036854775808 ≤ z ∧ z ≤ 9223372036854775807) (A : Option Addr) (n c : Nat) (bs : List UInt8) (w : World) (h : Rd w A n c bs) (hn : n ≤ 300) (hL : Laid w) :
    Calls Tryd.prog 4 #[.agg za, .slice A n c] w fun e w' => e = .returned (.bool true) ∧ Below w.heap.size w w' := by
  have hz8 : za.size = 8 := by rw [hza]; rfl
  have HZA := Lib.hid hza
  have HZS := Lib.hid hzs
  have HWF := Lib.hid hwf
  have HLEN := Lib.hid h.len
  have HL := Lib.hid hL
  clear hL hza hzs hwf
  obtain ⟨g0, hg0⟩ : ∃ g, w.heap.size = g := ⟨_, rfl⟩
  obtain ⟨W0, hW0⟩ : ∃ W0, w.alloc (.cells za 29) = W0 := ⟨_, rfl⟩
  have hb0 : Below w.heap.size w W0 := by rw [← hW0]; exact (Below.refl _ _).alloc (Nat.le_refl _) _
  have hrow0 : W0.heap[g0]? = some (.cells za 29 (0, 0)) := by rw [← hW0, ← hg0]; exact heap_alloc_new w _
  have hsz0 : W0.heap.size = g0 + 1 := by rw [← hW0, ← hg0]; simp
  have hr0 := h.keep hb0
  have HR := Lib.hid hr0
  have HB0 := Lib.hid hb0
  have HW0 := Lib.hid hW0
  have hszA : g0 + 1 ≤ (W0.alloc (.cells #[] 5)).heap.size := by simp; omega
  have hOE : Own (W0.alloc (.cells #[] 5)) (g0 + 1) 5 (.slice (some ⟨g0 + 1, 0, none⟩) 0 0) [] := by rw [← hsz0]; exact Own.empty W0 5
  have hbE : Below W0.heap.size W0 (W0.alloc (.cells #[] 5)) := (Below.refl _ _).alloc (Nat.le_refl _) _
  have hrE : Rd (W0.alloc (.cells #[] 5)) A n c bs := hr0.alloc _
  clear h hb0 hr0
  go_enter Tryd.func4, Tryd.ntmps4
  go_wp2_with (first
    | (at_builtin; refine wpList_app _ rfl (.tmp 12) (.tmp 13) _ rfl (g0 + 1) 5 Tryd.underlying22 u8_info _ [] rfl hOE A n c bs rfl hrE (by simp; omega) hszA ?_; intro v1 w1 ho1 hb1; rw [List.nil_append] at ho1; have hb1 : Below (g0 + 1) W0 w1 := (by rw [← hsz0]; exact hbE.trans (by rw [hsz0]; exact hb1)); obtain ⟨A1, c1, rfl, hr1, hc1⟩ := own_slice ho1 n HLEN.out; have hrow1 : w1.heap[g0]? = some (.cells za 29 (0, 0)) := (hb1.block g0 (by omega)).trans hrow0; have hld : (loadVar 29 ⟨g0, 0, none⟩).run Tryd.prog w1 = .ok (.agg za) w1 := run_loadVar_row (P := Tryd.prog) w1 g0 29 29 za (0, 0) _ hrow1 Tryd.underlying29 rfl (by rw [hz8]; kernel_rfl); clear hbE hOE hrE hszA ho1)
    | ((with_reducible refine wl_loadRow (ty := 29) (x := .tmp 2) (g := g0) (v := .agg za) ?hx hld ?_); (case hx => rfl)))
  have HB1 : Hid (Below g0 w w1) := by
    show Below g0 w w1
    rw [← hg0]
    exact HB0.out.trans (hb1.mono (by omega))
  have HRA : Hid (Rd w1 A n c bs) := HR.out.keep (by rw [hsz0]; exact hb1)
  have HR1 := Lib.hid hr1
  have HL1 := Lib.hid (HL.out.keep (by rw [hg0]; exact HB1.out))
  have HM := Lib.hid (Mix_gen zs za z0 z1 z2 z3 z4 z5 z6 z7 HZS.out HZA.out A1 n c1 bs w1 hr1 hc1 HL1.out)
  have hsz1 : g0 + 1 ≤ w1.heap.size := by have := hb1.size; omega
  clear hb1 hr1 hld hrow0 HB0 hW0 HW0
  refine HM.out.mono ?_
  rintro e w2 ⟨ns, er, rfl, hb2, hz2, h12, HCASE⟩
  have HB2 := Lib.hid (HB1.out.trans (hb2.mono (by omega)))
  have HR2 := Lib.hid (HR1.out.keep hb2)
  have HRA2 := Lib.hid (HRA.out.keep hb2)
  have hrow2 := (hb2.block g0 (by omega)).trans hrow1
  have hsz2 : g0 + 1 ≤ w2.heap.size := Nat.le_trans hsz1 hb2.size
  obtain ⟨gs, hgs⟩ : ∃ gs, w2.heap.size = gs := ⟨_, rfl⟩
  obtain ⟨W3, hW3⟩ : ∃ W, w2.alloc (.cells Z8i 29) = W := ⟨_, rfl⟩
  have hrow3 : W3.heap[gs]? = some (.cells Z8i 29 (0, 0)) := by rw [← hW3, ← hgs]; exact heap_alloc_new w2 _
  have hb3 : Below gs w2 W3 := by rw [← hW3, ← hgs]; exact (Below.refl _ _).alloc (Nat.le_refl _) _
  have hst := stC (P := Tryd.prog) W3 gs 29 8 ns _ hrow3 hz2 rfl h12
  obtain ⟨Y, hY⟩ : ∃ Y, W3.setRow gs ns = Y := ⟨_, rfl⟩
  have hszY : Y.heap.size = gs + 1 := by rw [← hY, ← hW3, ← hgs]; simp
  have hbY : Below gs w2 Y := by rw [← hY]; exact below_row hb3 (Nat.le_refl _) (by have := hb3.size; omega) _
  have hrowY : Y.heap[gs]? = some (.cells ns 29 (0, 0)) := by rw [← hY]; exact setRow_heap W3 gs _ _ 29 _ hrow3
  rw [hY] at hst
  have HBY := Lib.hid (HB2.out.trans (hbY.mono (by omega)))
  have HRY := Lib.hid (And.intro (HR2.out.keep (by rw [hgs]; exact hbY)) (HRA2.out.keep (by rw [hgs]; exact hbY)))
  have hrowY0 := (hbY.block g0 (by omega)).trans hrow2
  have HS := Lib.hid (Start_any Y (HL.out.keep (by rw [hg0]; exact HBY.out)))
  rw [show Sha.start.n = .agg Sha.start.ns from rfl] at HS
  clear hb2 hrow1 hrow2 hrow3 hb3 hbY HR1 HRA HR2 HRA2 HM HB1 HR hY
  go_wp2_with fail
  refine HS.out.mono ?_
  rintro e w3 ⟨rfl, hb3⟩
  have HB3 := Lib.hid (HBY.out.trans (hb3.mono (by omega)))
  have HR3 := Lib.hid (And.intro (HRY.out.1.keep hb3) (HRY.out.2.keep hb3))
  have hsz3 : gs + 1 ≤ w3.heap.size := by have := hb3.size; omega
  have hrowS := (hb3.block gs (by omega)).trans hrowY
  have hrow0 := (hb3.block g0 (by omega)).trans hrowY0
  obtain ⟨gt, hgt⟩ : ∃ gs, w3.heap.size = gs := ⟨_, rfl⟩
  obtain ⟨W4, hW4⟩ : ∃ W, w3.alloc (.cells Z8i 29) = W := ⟨_, rfl⟩
  have hrow4 : W4.heap[gt]? = some (.cells Z8i 29 (0, 0)) := by rw [← hW4, ← hgt]; exact heap_alloc_new w3 _
  have hb4 : Below gt w3 W4 := by rw [← hW4, ← hgt]; exact (Below.refl _ _).alloc (Nat.le_refl _) _
  obtain ⟨ss, hss⟩ : ∃ cs : Array Value, Sha.start.ns = cs := ⟨_, rfl⟩
  have hzs8 : ss.size = 8 := by rw [← hss]; rfl
  have hst4 := stC (P := Tryd.prog) W4 gt 29 8 ss _ hrow4 hzs8 rfl (by rw [← hss]; exact ns_one _)
  obtain ⟨Y5, hY5⟩ : ∃ Y, W4.setRow gt ss = Y := ⟨_, rfl⟩
  have hszY5 : Y5.heap.size = gt + 1 := by rw [← hY5, ← hW4, ← hgt]; simp
  have hbY5 : Below gt w3 Y5 := by rw [← hY5]; exact below_row hb4 (Nat.le_refl _) (by have := hb4.size; omega) _
  have hrowT : Y5.heap[gt]? = some (.cells Sha.start.ns 29 (0, 0)) := by rw [hss, ← hY5]; exact setRow_heap W4 gt _ _ 29 _ hrow4
  rw [hY5] at hst4
  rw [hss]
  have HB5 := Lib.hid (HB3.out.trans (hbY5.mono (by omega)))
  have HR5 := Lib.hid (And.intro (HR3.out.1.keep (by rw [hgt]; exact hbY5)) (HR3.out.2.keep (by rw [hgt]; exact hbY5)))
  have hrowS5 := (hbY5.block gs (by omega)).trans hrowS
  have hrow05 := (hbY5.block g0 (by omega)).trans hrow0
  have HROW := Lib.hid (And.intro hrow05 (And.intro hrowS5 hrowT))
  have HSZ : Hid (g0 < Y5.heap.size ∧ gs < Y5.heap.size ∧ gt < Y5.heap.size) := ⟨by omega, by omega, by omega⟩
  clear hb3 hrowS hrow0 hrow4 hb4 hbY5 hrowS5 hrow05 hrowT hrowY hrowY0 HR3 HRY HB3 HBY HB2 hY5 hss HS
  obtain ⟨v0, hv0⟩ : ∃ v, Value.slice A n c = v := ⟨_, rfl⟩
  obtain ⟨v1, hv1⟩ : ∃ v, Value.slice A1 n c1 = v := ⟨_, rfl⟩
  have HV0 := Lib.hid hv0
  have HCV : Hid (∀ W, Below Y5.heap.size Y5 W → (convert 22 9 v0).run Tryd.prog W = .ok (.string ⟨bs.toArray⟩) W ∧ (convert 22 9 v1).run Tryd.prog W = .ok (.string ⟨bs.toArray⟩) W) := fun W hW => by
    rw [← hv0, ← hv1]
    exact ⟨string_rd W _ _ _ _ (HR5.out.2.keep hW), string_rd W _ _ _ _ (HR5.out.1.keep hW)⟩
  rw [hv0, hv1]
  clear hv0 hv1
  go_wp2
  have hd1 : Below Y5.heap.size Y5 Y5.drew := (Below.refl _ _).drew
  refine wp_region_held_drew (S := fun W => (convert 22 9 v0).run Tryd.prog W = .ok (.string ⟨bs.toArray⟩) W ∧ (convert 22 9 v1).run Tryd.prog W = .ok (.string ⟨bs.toArray⟩) W) (by kernel_rfl) (HCV.out _ hd1) (fun hHeld => ?_)
  refine wpAnyH_take (i := 0) (oi := { dst := some 22, op := Op.move (Operand.tmp 5), type := 22, pos := "law.go:34", after := #[], guard := none }) (v := ?v0) rfl (by kernel_rfl) (by kernel_rfl) (by kernel_rfl) (fun _ _ _ h => h) (Or.inl ⟨by rfl, ?hy0⟩) hHeld ?_
  case hy0 => (intro w hSw; (try dsimp only at hSw); go_simp; first | done | with_reducible rfl)
  try simp only [Act.put, List.setIfInBounds_toArray, List.set_cons_zero, List.set_cons_succ]
  refine wpAnyH_take (i := 1) (oi := { dst := some 23, op := Op.convert 22 9 (Operand.tmp 22), type := 9, pos := "law.go:34", after := #[{ on := 0, ground := Ground.data }], guard := none }) (v := ?v1) rfl (by kernel_rfl) (by kernel_rfl) (by kernel_rfl) (fun _ _ _ h => h) (Or.inl ⟨by rfl, ?hy1⟩) hHeld ?_
  case hy1 => (intro w hSw; (try dsimp only at hSw); go_simp; first | done | with_reducible rfl)
  try simp only [Act.put, List.setIfInBounds_toArray, List.set_cons_zero, List.set_cons_succ]
  refine wpAnyH_take (i := 2) (oi := { dst := some 24, op := Op.move (Operand.tmp 1), type := 22, pos := "law.go:34", after := #[], guard := none }) (v := ?v2) rfl (by kernel_rfl) (by kernel_rfl) (by kernel_rfl) (fun _ _ _ h => h) (Or.inl ⟨by rfl, ?hy2⟩) hHeld ?_
  case hy2 => (intro w hSw; (try dsimp only at hSw); go_simp; first | done | with_reducible rfl)
  try simp only [Act.put, List.setIfInBounds_toArray, List.set_cons_zero, List.set_cons_succ]
  refine wpAnyH_take (i := 3) (oi := { dst := some 25, op := Op.convert 22 9 (Operand.tmp 24), type := 9, pos := "law.go:34", after := #[{ on := 2, ground := Ground.data }], guard := none }) (v := ?v3) rfl (by kernel_rfl) (by kernel_rfl) (by kernel_rfl) (fun _ _ _ h => h) (Or.inl ⟨by rfl, ?hy3⟩) hHeld ?_
  case hy3 => (intro w hSw; (try dsimp only at hSw); go_simp; first | done | with_reducible rfl)
  try simp only [Act.put, List.setIfInBounds_toArray, List.set_cons_zero, List.set_cons_succ]
  refine wpAnyH_take (i := 4) (oi := { dst := some 26, op := Op.binOp BinOp.neq 9 (Operand.tmp 23) (Operand.tmp 25) 9, type := 4, pos := "law.go:34", after := #[{ on := 1, ground := Ground.data }, { on := 3, ground := Ground.data }], guard := none }) (v := ?v4) rfl (by kernel_rfl) (by kernel_rfl) (by kernel_rfl) (fun _ _ _ h => h) (Or.inl ⟨by rfl, ?hy4⟩) hHeld ?_
  case hy4 => (intro w hSw; (try dsimp only at hSw); go_simp; first | done | with_reducible rfl)
  try simp only [Act.put, List.setIfInBounds_toArray, List.set_cons_zero, List.set_cons_succ]
  refine wpAnyH_take (i := 5) (oi := { dst := some 27, op := Op.move (Operand.tmp 26), type := 4, pos := "law.go:34", after := #[{ on := 4, ground := Ground.data }], guard := none }) (v := ?v5) rfl (by kernel_rfl) (by kernel_rfl) (by kernel_rfl) (fun _ _ _ h => h) (Or.inl ⟨by rfl, ?hy5⟩) hHeld ?_
  case hy5 => (intro w hSw; (try dsimp only at hSw); go_simp; first | done | with_reducible rfl)
  try simp only [Act.put, List.setIfInBounds_toArray, List.set_cons_zero, List.set_cons_succ]
  refine wpAnyH_take (i := 6) (oi := { dst := some 28, op := Op.slice 29 (Operand.tmp 8) none none none, type := 34, pos := "law.go:34", after := #[{ on := 5, ground := Ground.guard }], guard := some (5, false) }) (v := ?v6) rfl (by kernel_rfl) (by kernel_rfl) (by kernel_rfl) (fun _ _ _ h => h) (Or.inl ⟨by rfl, ?hy6⟩) hHeld ?_
  case hy6 => (intro w hSw; (try dsimp only at hSw); go_simp; first | done | with_reducible rfl)
  try simp only [Act.put, List.setIfInBounds_toArray, List.set_cons_zero, List.set_cons_succ]
  refine wpAnyH_ready (rs := [7]) (by kernel_rfl) (by simp) ?_
  refine AllReadyH.cons (o := { dst := some 29, op := Op.call { callee := Callee.value (Operand.func 14), args := #[], argTypes := #[] }, type := 34, pos := "law.go:34", after := #[{ on := 5, ground := Ground.chain }, { on := 5, ground := Ground.guard }], guard := some (5, false) }) rfl (fun K hK => ?_) AllReadyH.nil
  go_simp
  refine (rStart_any _).mono ?_
  rintro e w6 ⟨v6, rfl, ho6, hb6⟩
  obtain ⟨A6, c6, rfl, hr6⟩ := ho6.slice 8 rfl
  have hd2 := Bs.below_step hd1 hb6
  go_wp2_with fail
  refine hK.out _ _ (HCV.out _ hd2) (fun hHeld => ?_)
  clear hK K
  try simp only [Act.put, List.setIfInBounds_toArray, List.set_cons_zero, List.set_cons_succ]
  refine wpAnyH_ready (rs := [8]) (by kernel_rfl) (by simp) ?_
  refine AllReadyH.cons (o := { dst := some 30, op := Op.call { callee := Callee.value (Operand.func 13), args := #[Operand.tmp 28, Operand.tmp 29], argTypes := #[34, 34] }, type := 4, pos := "law.go:34", after := #[{ on := 6, ground := Ground.data }, { on := 7, ground := Ground.data }, { on := 7, ground := Ground.chain }, { on := 5, ground := Ground.guard }], guard := some (5, false) }) rfl (fun K hK => ?_) AllReadyH.nil
  go_simp
  refine (Ints_eq _ 8 _ A6 c6 Sha.start.l _ (rdW_row ((hd2.block gt HSZ.out.2.2).trans HROW.out.2.2)) hr6 (l_ok start_ok) (by omega)).mono ?_
  rintro e w7 ⟨rfl, hb7⟩
  have hd3 := Bs.below_step hd2 hb7
  go_wp2_with fail
  refine hK.out _ _ (HCV.out _ hd3) (fun hHeld => ?_)
  clear hK K
  try simp only [Act.put, List.setIfInBounds_toArray, List.set_cons_zero, List.set_cons_succ]
  refine wpAnyH_take (i := 9) (oi := { dst := some 31, op := Op.unOp UnOp.not 4 (Operand.tmp 30), type := 4, pos := "law.go:34", after := #[{ on := 8, ground := Ground.data }, { on := 5, ground := Ground.guard }], guard := some (5, false) }) (v := ?v9) rfl (by kernel_rfl) (by kernel_rfl) (by kernel_rfl) (fun _ _ _ h => h) (Or.inl ⟨by rfl, ?hy9⟩) hHeld ?_
  case hy9 => (intro w hSw; (try dsimp only at hSw); go_simp; first | done | with_reducible rfl)
  try simp only [Act.put, List.setIfInBounds_toArray, List.set_cons_zero, List.set_cons_succ]
  refine wpAnyH_take (i := 10) (oi := { dst := some 32, op := Op.pick (Operand.tmp 27) (Operand.const (Value.bool true)) (Operand.tmp 31), type := 4, pos := "law.go:34", after := #[{ on := 5, ground := Ground.data }, { on := 9, ground := Ground.data }], guard := none }) (v := ?v10) rfl (by kernel_rfl) (by kernel_rfl) (by kernel_rfl) (fun _ _ _ h => h) (Or.inl ⟨by rfl, ?hy10⟩) hHeld ?_
  case hy10 => (intro w hSw; (try dsimp only at hSw); go_simp; first | done | with_reducible rfl)
  try simp only [Act.put, List.setIfInBounds_toArray, List.set_cons_zero, List.set_cons_succ]
  refine wpAnyH_done (by kernel_rfl) ?_ _
  have HB7 := Lib.hid (HB5.out.trans (hd3.mono (by have := HSZ.out; omega)))
  have HROW7 : Hid (w7.heap[g0]? = some (.cells za 29 (0, 0)) ∧ w7.heap[gs]? = some (.cells ns 29 (0, 0))) := ⟨(hd3.block g0 HSZ.out.1).trans HROW.out.1, (hd3.block gs HSZ.out.2.1).trans HROW.out.2.1⟩
  have HR7 := Lib.hid (HR5.out.2.keep hd3)
  have HSZ7 : Hid (g0 < w7.heap.size ∧ gs < w7.heap.size) := ⟨Nat.lt_of_lt_of_le HSZ.out.1 hd3.size, Nat.lt_of_lt_of_le HSZ.out.2.1 hd3.size⟩
  clear hd1 hd2 hd3 hb6 hb7 ho6 hr6 hHeld HCV HR5 HROW HB5
  rw [← HV0.out]
  have hzl : zs.length = 8 := by rw [HZS.out]; rfl
  by_cases h64 : n = 64
  · have hne : ((n : Int) != 64) = false := by rw [bne_eq_false_iff_eq]; omega
    have HRI : RdI w7 (some ⟨g0, 0, none⟩) 8 8 zs := by rw [HZS.out]; exact rdI_row (by rw [← HZA.out]; exact HROW7.out.1) (by rw [← HZS.out]; exact HWF.out)
    have HIS := Lib.hid (Is_any _ 8 8 zs w7 HRI (by omega))
    have H64 := Lib.hid h64
    clear HRI h64
    go_wp2_with fail
    refine HIS.out.mono ?_
    rintro e w8 ⟨b, rfl, hw8, hiff⟩
    rw [hw8]
    clear hw8
    cases b
    · obtain ⟨rfl, rfl⟩ : ns = Z8i ∧ er = 1 := by
        rcases HCASE.out with ⟨_, hall, _⟩ | ⟨_, h1, h2⟩
        · have : (false : Bool) = true := hiff.2 fun j hj => hall _ (getD_mem zs hzl j hj)
          cases this
        · exact ⟨h1, h2⟩
      clear HCASE hiff
      have heq := eq8
      go_wp2_with fail
      refine (awake_any w7 (HL.out.keep (by rw [hg0]; exact HB7.out))).mono ?_
      rintro e w9 ⟨rfl, hb9⟩
      have hrow9 := (hb9.block gs HSZ7.out.2).trans HROW7.out.2
      have d0 : w9.cell? ⟨gs, 0, none⟩ = some (.int .i64 0) := cell_of_row w9 gs 0 _ 29 (0, 0) hrow9
      have d1 : w9.cell? ⟨gs, 1, none⟩ = some (.int .i64 0) := cell_of_row w9 gs 1 _ 29 (0, 0) hrow9
      have d2 : w9.cell? ⟨gs, 2, none⟩ = some (.int .i64 0) := cell_of_row w9 gs 2 _ 29 (0, 0) hrow9
      have d3 : w9.cell? ⟨gs, 3, none⟩ = some (.int .i64 0) := cell_of_row w9 gs 3 _ 29 (0, 0) hrow9
      have d4 : w9.cell? ⟨gs, 4, none⟩ = some (.int .i64 0) := cell_of_row w9 gs 4 _ 29 (0, 0) hrow9
      have d5 : w9.cell? ⟨gs, 5, none⟩ = some (.int .i64 0) := cell_of_row w9 gs 5 _ 29 (0, 0) hrow9
      have d6 : w9.cell? ⟨gs, 6, none⟩ = some (.int .i64 0) := cell_of_row w9 gs 6 _ 29 (0, 0) hrow9
      have d7 : w9.cell? ⟨gs, 7, none⟩ = some (.int .i64 0) := cell_of_row w9 gs 7 _ 29 (0, 0) hrow9
      have HB9 := Lib.hid (HB7.out.trans (hb9.mono (Nat.le_of_lt HSZ7.out.1)))
      clear hb9 hrow9
      go_wp2
      go_ret
      exact ⟨rfl, by rw [hg0]; exact HB9.out⟩
    · have hall : ∀ z ∈ zs, okI z := getD_all zs hzl (hiff.1 rfl)
      obtain ⟨hns, rfl⟩ : ns = (mixS (stOf zs) bs).ns ∧ er = 0 := by
        rcases HCASE.out with ⟨_, _, h1, h2⟩ | ⟨h0, _⟩
        · exact ⟨h1, h2⟩
        · exact absurd ⟨H64.out, hall⟩ h0
      have hSok : (stOf zs).ok := by rw [HZS.out]; exact st_ok _ _ _ _ _ _ _ _ (by rw [← HZS.out]; exact hall)
      have hzaN : za = (stOf zs).ns := by rw [HZA.out, HZS.out]; exact st_ns _ _ _ _ _ _ _ _ (by rw [← HZS.out]; exact hall)
      obtain ⟨S, hS⟩ : ∃ S, stOf zs = S := ⟨_, rfl⟩
      rw [hS] at hns hSok hzaN
      have HROWN : Hid (w7.heap[g0]? = some (.cells S.ns 29 (0, 0)) ∧ w7.heap[gs]? = some (.cells (mixS S bs).ns 29 (0, 0))) := by rw [← hns, ← hzaN]; exact HROW7.out
      have HR64 : Hid (Rd w7 A 64 c bs) := by
        have := HR7.out
        rw [H64.out] at this
        exact this
      have h64 := H64.out
      rw [h64]
      clear HCASE hiff hall hns hzaN hS h64 HROW7 hne HIS hn
      go_wp2_with fail
      have HL7 := Lib.hid (HL.out.keep (by rw [hg0]; exact HB7.out))
      have he1 : Below w7.heap.size w7 w7.drew := (Below.refl _ _).drew
      refine wp_region_held_drew (S := fun _ => True) (by kernel_rfl) (trivial) (fun hHeld => ?_)
      refine wpAnyH_ready (rs := [0]) (by kernel_rfl) (by simp) ?_
      refine AllReadyH.cons (o := { dst := some 51, op := Op.call { callee := Callee.value (Operand.func 9), args := #[], argTypes := #[] }, type := 4, pos := "law.go:40", after := #[], guard := none }) rfl (fun K hK => ?_) AllReadyH.nil
      go_simp
      refine (awake_any _ (HL7.out.keep he1)).mono ?_
      rintro e w9 ⟨rfl, hb9⟩
      have he2 := Bs.below_step he1 hb9
      go_wp2_with fail
      refine hK.out _ _ (trivial) (fun hHeld => ?_)
      clear hK K
      try simp only [Act.put, List.setIfInBounds_toArray, List.set_cons_zero, List.set_cons_succ]
      refine wpAnyH_take (i := 1) (oi := { dst := some 52, op := Op.move (Operand.tmp 51), type := 4, pos := "law.go:40", after := #[{ on := 0, ground := Ground.data }, { on := 0, ground := Ground.chain }], guard := none }) (v := ?vq1) rfl (by kernel_rfl) (by kernel_rfl) (by kernel_rfl) (fun _ _ _ h => h) (Or.inl ⟨by rfl, ?hyq1⟩) hHeld ?_
      case hyq1 => (intro w hSw; (try dsimp only at hSw); go_simp; first | done | with_reducible rfl)
      try simp only [Act.put, List.setIfInBounds_toArray, List.set_cons_zero, List.set_cons_succ]
      refine wpAnyH_take (i := 2) (oi := { dst := some 53, op := Op.move (Operand.tmp 7), type := 23, pos := "law.go:40", after := #[{ on := 1, ground := Ground.guard }], guard := some (1, true) }) (v := ?vq2) rfl (by kernel_rfl) (by kernel_rfl) (by kernel_rfl) (fun _ _ _ h => h) (Or.inl ⟨by rfl, ?hyq2⟩) hHeld ?_
      case hyq2 => (intro w hSw; (try dsimp only at hSw); go_simp; first | done | with_reducible rfl)
      try simp only [Act.put, List.setIfInBounds_toArray, List.set_cons_zero, List.set_cons_succ]
      refine wpAnyH_take (i := 3) (oi := { dst := some 54, op := Op.binOp BinOp.eql 23 (Operand.tmp 53) (Operand.const (Value.int IntKind.i64 0)) 23, type := 4, pos := "law.go:40", after := #[{ on := 2, ground := Ground.data }, { on := 1, ground := Ground.guard }], guard := some (1, true) }) (v := ?vq3) rfl (by kernel_rfl) (by kernel_rfl) (by kernel_rfl) (fun _ _ _ h => h) (Or.inl ⟨by rfl, ?hyq3⟩) hHeld ?_
      case hyq3 => (intro w hSw; (try dsimp only at hSw); go_simp; first | done | with_reducible rfl)
      try simp only [Act.put, List.setIfInBounds_toArray, List.set_cons_zero, List.set_cons_succ]
      refine wpAnyH_take (i := 4) (oi := { dst := some 55, op := Op.pick (Operand.tmp 52) (Operand.tmp 54) (Operand.const (Value.bool false)), type := 4, pos := "law.go:40", after := #[{ on := 1, ground := Ground.data }, { on := 3, ground := Ground.data }], guard := none }) (v := ?vq4) rfl (by kernel_rfl) (by kernel_rfl) (by kernel_rfl) (fun _ _ _ h => h) (Or.inl ⟨by rfl, ?hyq4⟩) hHeld ?_
      case hyq4 => (intro w hSw; (try dsimp only at hSw); go_simp; first | done | with_reducible rfl)
      try simp only [Act.put, List.setIfInBounds_toArray, List.set_cons_zero, List.set_cons_succ]
      refine wpAnyH_take (i := 5) (oi := { dst := some 56, op := Op.move (Operand.tmp 55), type := 4, pos := "law.go:40", after := #[{ on := 4, ground := Ground.data }, { on := 1, ground := Ground.chain }], guard := none }) (v := ?vq5) rfl (by kernel_rfl) (by kernel_rfl) (by kernel_rfl) (fun _ _ _ h => h) (Or.inl ⟨by rfl, ?hyq5⟩) hHeld ?_
      case hyq5 => (intro w hSw; (try dsimp only at hSw); go_simp; first | done | with_reducible rfl)
      try simp only [Act.put, List.setIfInBounds_toArray, List.set_cons_zero, List.set_cons_succ]
      refine wpAnyH_take (i := 6) (oi := { dst := some 57, op := Op.slice 29 (Operand.tmp 6) none none none, type := 34, pos := "law.go:40", after := #[{ on := 5, ground := Ground.guard }], guard := some (5, true) }) (v := ?vq6) rfl (by kernel_rfl) (by kernel_rfl) (by kernel_rfl) (fun _ _ _ h => h) (Or.inl ⟨by rfl, ?hyq6⟩) hHeld ?_
      case hyq6 => (intro w hSw; (try dsimp only at hSw); go_simp; first | done | with_reducible rfl)
      try simp only [Act.put, List.setIfInBounds_toArray, List.set_cons_zero, List.set_cons_succ]
      refine wpAnyH_take (i := 7) (oi := { dst := some 58, op := Op.slice 29 (Operand.tmp 2) none none none, type := 34, pos := "law.go:40", after := #[{ on := 5, ground := Ground.guard }], guard := some (5, true) }) (v := ?vq7) rfl (by kernel_rfl) (by kernel_rfl) (by kernel_rfl) (fun _ _ _ h => h) (Or.inl ⟨by rfl, ?hyq7⟩) hHeld ?_
      case hyq7 => (intro w hSw; (try dsimp only at hSw); go_simp; first | done | with_reducible rfl)
      try simp only [Act.put, List.setIfInBounds_toArray, List.set_cons_zero, List.set_cons_succ]
      refine wpAnyH_take (i := 8) (oi := { dst := some 59, op := Op.move (Operand.tmp 1), type := 22, pos := "law.go:40", after := #[{ on := 5, ground := Ground.guard }], guard := some (5, true) }) (v := ?vq8) rfl (by kernel_rfl) (by kernel_rfl) (by kernel_rfl) (fun _ _ _ h => h) (Or.inl ⟨by rfl, ?hyq8⟩) hHeld ?_
      case hyq8 => (intro w hSw; (try dsimp only at hSw); go_simp; first | done | with_reducible rfl)
      try simp only [Act.put, List.setIfInBounds_toArray, List.set_cons_zero, List.set_cons_succ]
      refine wpAnyH_ready (rs := [9]) (by kernel_rfl) (by simp) ?_
      refine AllReadyH.cons (o := { dst := some 60, op := Op.call { callee := Callee.value (Operand.func 16), args := #[Operand.tmp 58, Operand.tmp 59], argTypes := #[34, 22] }, type := 34, pos := "law.go:40", after := #[{ on := 7, ground := Ground.data }, { on := 8, ground := Ground.data }, { on := 5, ground := Ground.chain }, { on := 5, ground := Ground.guard }], guard := some (5, true) }) rfl (fun K hK => ?_) AllReadyH.nil
      go_simp
      refine (rMix_any S hSok _ 8 _ c bs _ (rdW_row ((he2.block g0 HSZ7.out.1).trans HROWN.out.1)) (HR64.out.keep he2)).mono ?_
      rintro e w10 ⟨v10, rfl, ho10, hb10⟩
      obtain ⟨A10, c10, rfl, hr10⟩ := ho10.slice 8 rfl
      have he3 := Bs.below_step he2 hb10
      go_wp2_with fail
      refine hK.out _ _ (trivial) (fun hHeld => ?_)
      clear hK K
      try simp only [Act.put, List.setIfInBounds_toArray, List.set_cons_zero, List.set_cons_succ]
      refine wpAnyH_ready (rs := [10]) (by kernel_rfl) (by simp) ?_
      refine AllReadyH.cons (o := { dst := some 61, op := Op.call { callee := Callee.value (Operand.func 13), args := #[Operand.tmp 57, Operand.tmp 60], argTypes := #[34, 34] }, type := 4, pos := "law.go:40", after := #[{ on := 6, ground := Ground.data }, { on := 9, ground := Ground.data }, { on := 9, ground := Ground.chain }, { on := 5, ground := Ground.guard }], guard := some (5, true) }) rfl (fun K hK => ?_) AllReadyH.nil
      go_simp
      refine (Ints_eq _ 8 _ A10 c10 (mixS S bs).l _ (rdW_row ((he3.block gs HSZ7.out.2).trans HROWN.out.2)) hr10 (l_ok (mixS_ok _ _)) (by omega)).mono ?_
      rintro e w11 ⟨rfl, hb11⟩
      have he4 := Bs.below_step he3 hb11
      go_wp2_with fail
      refine hK.out _ _ (trivial) (fun hHeld => ?_)
      clear hK K
      try simp only [Act.put, List.setIfInBounds_toArray, List.set_cons_zero, List.set_cons_succ]
      refine wpAnyH_take (i := 11) (oi := { dst := some 62, op := Op.pick (Operand.tmp 56) (Operand.tmp 61) (Operand.const (Value.bool false)), type := 4, pos := "law.go:40", after := #[{ on := 5, ground := Ground.data }, { on := 10, ground := Ground.data }], guard := none }) (v := ?vq11) rfl (by kernel_rfl) (by kernel_rfl) (by kernel_rfl) (fun _ _ _ h => h) (Or.inl ⟨by rfl, ?hyq11⟩) hHeld ?_
      case hyq11 => (intro w hSw; (try dsimp only at hSw); go_simp; first | done | with_reducible rfl)
      try simp only [Act.put, List.setIfInBounds_toArray, List.set_cons_zero, List.set_cons_succ]
      refine wpAnyH_take (i := 12) (oi := { dst := some 4, op := Op.assign (Operand.tmp 62), type := 4, pos := "law.go:40", after := #[{ on := 11, ground := Ground.data }, { on := 10, ground := Ground.chain }, { on := 0, ground := Ground.phase }, { on := 1, ground := Ground.phase }, { on := 2, ground := Ground.phase }, { on := 3, ground := Ground.phase }, { on := 4, ground := Ground.phase }, { on := 5, ground := Ground.phase }, { on := 6, ground := Ground.phase }, { on := 7, ground := Ground.phase }, { on := 8, ground := Ground.phase }, { on := 9, ground := Ground.phase }, { on := 10, ground := Ground.phase }, { on := 11, ground := Ground.phase }], guard := none }) (v := ?vq12) rfl (by kernel_rfl) (by kernel_rfl) (by kernel_rfl) (fun _ _ _ h => h) (Or.inl ⟨by rfl, ?hyq12⟩) hHeld ?_
      case hyq12 => (intro w hSw; (try dsimp only at hSw); go_simp; first | done | with_reducible rfl)
      try simp only [Act.put, List.setIfInBounds_toArray, List.set_cons_zero, List.set_cons_succ]
      refine wpAnyH_done (by kernel_rfl) ?_ _
      go_wp2
      go_ret
      exact ⟨rfl, by rw [hg0]; exact HB7.out.trans (he4.mono (Nat.le_of_lt HSZ7.out.1))⟩
  · have hne : ((n : Int) != 64) = true := by rw [bne_iff_ne]; omega
    · obtain ⟨rfl, rfl⟩ : ns = Z8i ∧ er = 1 := by
        rcases HCASE.out with ⟨h0, _⟩ | ⟨_, h1, h2⟩
        · exact absurd h0 h64
        · exact ⟨h1, h2⟩
      clear HCASE h64
      have heq := eq8
      go_wp2_with fail
      refine (awake_any w7 (HL.out.keep (by rw [hg0]; exact HB7.out))).mono ?_
      rintro e w9 ⟨rfl, hb9⟩
      have hrow9 := (hb9.block gs HSZ7.out.2).trans HROW7.out.2
      have d0 : w9.cell? ⟨gs, 0, none⟩ = some (.int .i64 0) := cell_of_row w9 gs 0 _ 29 (0, 0) hrow9
      have d1 : w9.cell? ⟨gs, 1, none⟩ = some (.int .i64 0) := cell_of_row w9 gs 1 _ 29 (0, 0) hrow9
      have d2 : w9.cell? ⟨gs, 2, none⟩ = some (.int .i64 0) := cell_of_row w9 gs 2 _ 29 (0, 0) hrow9
      have d3 : w9.cell? ⟨gs, 3, none⟩ = some (.int .i64 0) := cell_of_row w9 gs 3 _ 29 (0, 0) hrow9
      have d4 : w9.cell? ⟨gs, 4, none⟩ = some (.int .i64 0) := cell_of_row w9 gs 4 _ 29 (0, 0) hrow9
      have d5 : w9.cell? ⟨gs, 5, none⟩ = some (.int .i64 0) := cell_of_row w9 gs 5 _ 29 (0, 0) hrow9
      have d6 : w9.cell? ⟨gs, 6, none⟩ = some (.int .i64 0) := cell_of_row w9 gs 6 _ 29 (0, 0) hrow9
      have d7 : w9.cell? ⟨gs, 7, none⟩ = some (.int .i64 0) := cell_of_row w9 gs 7 _ 29 (0, 0) hrow9
      have HB9 := Lib.hid (HB7.out.trans (hb9.mono (Nat.le_of_lt HSZ7.out.1)))
      clear hb9 hrow9
      go_wp2
      go_ret
      exact ⟨rfl, by rw [hg0]; exact HB9.out⟩
set_option maxHeartbeats 4000000 in
theorem walk (x0_0 x0_1 x0_2 x0_3 x0_4 x0_5 x0_6 x0_7 : Int) (a1 : Option Addr) (len1 cap1 : Nat) (z1 : List Int) (w : World) (w0 : ∀ z ∈ [x0_0, x0_1, x0_2, x0_3, x0_4, x0_5, x0_6, x0_7], (Lit.int .i64 z).wf = true) (w1 : IsRow .u8 w a1 len1 cap1 z1) (hL : Laid w) :
    Calls Tryd.prog 4 #[.agg #[.int .i64 x0_0, .int .i64 x0_1, .int .i64 x0_2, .int .i64 x0_3, .int .i64 x0_4, .int .i64 x0_5, .int .i64 x0_6, .int .i64 x0_7], .slice a1 len1 cap1] w fun e w' => e = .returned (.bool true) ∧ Below w.heap.size w w' := by
  obtain ⟨hlen, bs, hr⟩ := rd_of_row w1
  by_cases hbig : 300 < len1
  · have hb : (300 : Int) < (len1 : Int) := by omega
    go_enter Tryd.func4, Tryd.ntmps4
    go_wp2
    go_ret
    exact ⟨rfl, (Below.refl _ _).alloc (Nat.le_refl _) _⟩
  · exact walkIn _ _ _ _ _ _ _ _ _ _ rfl rfl (fun z hz => bounds_i64 (w0 z hz)) a1 len1 cap1 bs w hr (by omega) hL

theorem contract (H : Type) (enc : TypeId × Value → H) (W : World) (base : Nat) (args : Array Value) (ds gs : List (DataW H)) (before : List MemPlace)
    (hval : ∀ (j : Nat) t v, Tryd.f4.params[j]? = some t → args[j]? = some v → Value.okWide Tryd.prog W .any base t v)
    (hW : DataW.Whole enc Tryd.prog Tryd.f4.params.toList Rows.sha256MixesSpec.vars false W args.toList ds gs before) (hL : laidMetH Tryd.prog Rows.sha256MixesRow.laid W) :
    Calls Tryd.prog 4 args W fun e W' => ∃ v, e = .returned v ∧ Rows.sha256MixesSpec.post enc Tryd.prog Tryd.f4 false true false false W args v W' := by
  have hW' := hW
  obtain ⟨p, q, hA0, hV, rfl, hfz, hnd⟩ := hW
  have hA : DataW.TrodAll enc Tryd.prog W 0 (fun _ => true) true Tryd.f4.params.toList args.toList ds p := hA0
  rw [Tryd.params4] at hA hval
  obtain ⟨v0, vs0, d0, ds0, p0, q0, hargs, rfl, rfl, h0, r0⟩ := trodAll_cons hA
  obtain ⟨v1, vs1, d1, ds1, p1, q1, rfl, rfl, rfl, h1, r1⟩ := trodAll_cons r0
  obtain ⟨rfl, rfl, rfl⟩ := trodAll_nil r1
  obtain rfl : args = #[v0, v1] := by cases args; simp_all
  obtain ⟨rfl, rfl⟩ := trodVars_none hV
  obtain ⟨cs0, rfl, hsz0, _⟩ : ∃ cs, v0 = .agg cs ∧ cs.size = Tryd.prog.cellsOf 29 ∧ Row.okWide Tryd.prog W .any base 29 cs := by
    have := hval 0 29 v0 rfl rfl
    simpa [Value.okWide, Tryd.underlying29] using this
  have k0 := h0
  have lt0 : ∀ x ∈ p0, x.block < W.heap.size := by obtain ⟨m, hm⟩ := k0; exact DataW.trod_lt m _ _ _ hm
  obtain ⟨fuel0, hf0⟩ := h0
  obtain ⟨x0_0, x0_1, x0_2, x0_3, x0_4, x0_5, x0_6, x0_7, e0, w0⟩ := open_arr8 (l := cs0.toList) (by simpa [cells29] using hsz0) (by simpa [Value.cells] using hf0)
  obtain rfl : cs0 = #[.int .i64 x0_0, .int .i64 x0_1, .int .i64 x0_2, .int .i64 x0_3, .int .i64 x0_4, .int .i64 x0_5, .int .i64 x0_6, .int .i64 x0_7] := by
    obtain ⟨l⟩ := cs0
    simp only at e0
    rw [e0]
  obtain ⟨a1, len1, cap1, rfl⟩ := okWide_slice Tryd.underlying22 (hval 1 22 v1 rfl rfl)
  have k1 := h1
  have lt1 : ∀ x ∈ p1, x.block < W.heap.size := by obtain ⟨m, hm⟩ := k1; exact DataW.trod_lt m _ _ _ hm
  obtain ⟨z1, w1⟩ : ∃ zs, IsRow .u8 W a1 len1 cap1 zs := by
    obtain ⟨fuel, hf⟩ := h1
    rcases open_ints Tryd.underlying22 Tryd.underlying5 (by kernel_rfl) hf with ⟨hcs, _⟩ | ⟨x, l, c, zs, hcs, _, hl, hm, hz, _, hcell, hwz⟩
    · simp [Value.cells] at hcs
      obtain ⟨rfl, rfl, rfl⟩ := hcs
      exact ⟨[], .inl ⟨rfl, rfl, rfl, rfl⟩⟩
    · simp [Value.cells] at hcs
      obtain ⟨rfl, rfl, rfl⟩ := hcs
      exact ⟨zs, .inr ⟨_, rfl, hl, hm, by simpa using hz, hcell, hwz⟩⟩
  clear hA0
  refine (walk x0_0 x0_1 x0_2 x0_3 x0_4 x0_5 x0_6 x0_7 a1 len1 cap1 z1 W w0 w1 (laid_of hL)).mono fun e W' ⟨he, bel⟩ => ?_
  subst he
  exact ⟨_, rfl, _, _, _, [], _, [], hW', trodAll_mk1 (shut_bool Tryd.underlying4 _), (trodAll_cons_mk (Below.trod laidOut (by kernel_rfl) (of_decide_eq_true (by kernel_rfl)) k0 bel lt0) (trodAll_cons_mk (Below.trod laidOut (by kernel_rfl) (of_decide_eq_true (by kernel_rfl)) k1 bel lt1) trodAll_mk0)), rfl, bel.frame _, fun h => by cases h⟩

theorem laid_met (os : Os) : laidMet Tryd.prog Rows.sha256MixesRow.laid ((laidWorld os).forCall (fun _ _ => 0) ⟨#[], #[.agg #[.int .i64 0, .int .i64 0, .int .i64 0, .int .i64 0, .int .i64 0, .int .i64 0, .int .i64 0, .int .i64 0], .slice none 0 0], []⟩).memory :=
  laidMet_of_run' 8 (by kernel_rfl) (by kernel_rfl)
theorem reads (os : Os) {H : Type} (enc : TypeId × Value → H) : ∃ places, DataW.whole enc Tryd.prog ((laidWorld os).forCall (fun _ _ => 0) ⟨#[], #[.agg #[.int .i64 0, .int .i64 0, .int .i64 0, .int .i64 0, .int .i64 0, .int .i64 0, .int .i64 0, .int .i64 0], .slice none 0 0], []⟩).memory Tryd.f4.params.toList Rows.sha256MixesSpec.vars false (#[.agg #[.int .i64 0, .int .i64 0, .int .i64 0, .int .i64 0, .int .i64 0, .int .i64 0, .int .i64 0, .int .i64 0], .slice none 0 0] : Array Value).toList 8 = some ([.agg [.lit (.int .i64 0), .lit (.int .i64 0), .lit (.int .i64 0), .lit (.int .i64 0), .lit (.int .i64 0), .lit (.int .i64 0), .lit (.int .i64 0), .lit (.int .i64 0)], .nil], [], places) :=
  ⟨[], by kernel_rfl⟩

set_option maxRecDepth 100000 in
theorem lifted (os : Os) (started : os.Started) (H : Type) (enc : TypeId × Value → H) (F : Stop.Interp) :
    ReturnsInHanded {} Tryd.checked os 4 .any ((OpenSpec.ofChange Rows.sha256MixesSpec).preRow enc Tryd.prog Tryd.f4 Rows.sha256MixesRow.domain false Rows.sha256MixesRow.laid) (((OpenSpec.ofChange Rows.sha256MixesSpec).at F).post enc Tryd.prog Tryd.f4 false true false false) := by
  obtain ⟨places, hx⟩ := reads os enc
  refine returnsInHanded_of_row (C := Tryd.checked) (s := OpenSpec.ofChange Rows.sha256MixesSpec) own started (by kernel_rfl) Tryd.func4
    (witness_row_at (enc := enc) (C := Tryd.checked) false (laidWorld os) #[.agg #[.int .i64 0, .int .i64 0, .int .i64 0, .int .i64 0, .int .i64 0, .int .i64 0, .int .i64 0, .int .i64 0], .slice none 0 0] rfl (by kernel_rfl) (by kernel_rfl) (by kernel_rfl)
      (OpenSpec.preRow_of_cond 8 hx (by kernel_rfl) (fun k hk => by cases hk) (by kernel_rfl) (laid_met os))) ?_
  intro W base args ds gs before hval hW _ _ _ hL _ _
  exact contract H enc W base args ds gs before hval hW hL

theorem said : Rows.Sha256MixesSaid :=
  OpenClaim.holds_of_cond 4 Tryd.f4 rfl rfl rfl rfl rfl rfl rfl ⟨rfl, rfl, rfl, rfl, rfl⟩ rfl rfl rfl rfl rfl (by kernel_rfl) Tryd.func4 (by kernel_rfl)
    (of_decide_eq_true (by kernel_rfl)) (by unfold Func.isWrapper; first | (rw [if_pos (by decide +kernel)]; kernel_rfl) | (rw [if_neg (by decide +kernel)]; exact ⟨rfl, rfl⟩))
    (fun os started H enc _ F => by rw [OpenClaim.pre_eq_preRow]; exact lifted os started H enc F)

theorem plain (f : FuncId) (fn : Func) (hf : Tryd.pinned.checked.prog.funcNamed "chandlery/chandlerylaw03.Sha256Mixes" = some f) (hfn : Tryd.pinned.checked.prog.funcs[f]? = some fn) :
    false = Tryd.pinned.checked.prog.looks [] ∧ ∀ (j : Nat) t, fn.params[j]? = some t → Tryd.pinned.checked.prog.wantsStandIn t = false := by
  obtain rfl : f = 4 := Option.some.inj ((show Tryd.prog.funcNamed "chandlery/chandlerylaw03.Sha256Mixes" = some 4 by kernel_rfl).symm.trans hf) |>.symm
  obtain rfl : fn = Tryd.f4 := (Option.some.inj (Tryd.func4.symm.trans hfn)).symm
  refine ⟨by kernel_rfl, fun j t ht => ?_⟩
  rw [Tryd.params4] at ht
  have hm : t ∈ [29, 22] := by simpa using Array.mem_of_getElem? ht
  have hall : ([29, 22].all fun u => !Tryd.prog.wantsStandIn u) = true := by kernel_rfl
  exact (show Tryd.prog.wantsStandIn t = false by simpa using List.all_eq_true.1 hall t hm)

theorem proved : Rows.Sha256MixesCardSaid :=
  Claim7.holds_tied_plain_at .later [] _ _ _ _ said (fun _ h => by cases h) (by kernel_rfl) (fun _ h => by cases h) sha256Mixes_row_tie rfl ⟨rfl, rfl⟩ (by kernel_rfl) rfl plain (by kernel_rfl)
#print axioms proved
end Go.Proofs.YtnoldhedocejbaaDoor.sha256Mixes
