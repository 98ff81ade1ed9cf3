/-
  The statement 'Sha256Parts' (chandlerylaw03), as its tied card, holds at every input: the call returns true and leaves its arguments as they were. Conditions: none beyond the row's own: the two package-level tables start as the program's text lays them (the card ties them).
-/
import Derived.Test.YtnoldhedocejbaaDoorCard
import Derived.Test.YtnoldhedocejbaaDoorP1
import Derived.Deep.RegionHeld3
namespace Go.Proofs.YtnoldhedocejbaaDoor.sha256Parts
open Go.ChangeShapes Go.WideShapes Go.ChangeAt Go.RowKit Go.Bs Go.Sha
open Go.ChangeMaps (open_string shut_string)
set_option linter.unusedVariables false

theorem laidOut : laidOutB Tryd.prog = true := by kernel_rfl
def IsRow (k : IntKind) (w : World) (a : Option Addr) (len cap : Nat) (zs : List Int) : Prop :=
  (a = none ∧ len = 0 ∧ cap = 0 ∧ zs = []) ∨
  ∃ x, a = some x ∧ len ≤ cap ∧ cap ≤ maxLen ∧ zs.length = cap ∧ (∀ i, i < zs.length → w.cell? (x.add i) = some (.int k (zs.getD i 0))) ∧ ∀ n ∈ zs, (Lit.int k n).wf = true

theorem open_rows {H : Type} {enc : TypeId × Value → H} {w : World} {base : Nat} {held : Bool} {fuel : Nat} {a : Option Addr} {len cap : Nat} {x : DataW H × List MemPlace}
    (h : DataW.trod enc Tryd.prog w base (fun _ => true) held fuel 42 [.slice a len cap] = some x) : ∃ F, RdP w a len F := by
  rcases Deep.open_int_rows Tryd.underlying42 Tryd.underlying22 Tryd.underlying5 (by kernel_rfl) (by kernel_rfl) h with ⟨hcs, _⟩ | ⟨b, len', cap', A, L, C, Z, hcs, _, hl, hm, _, hx⟩
  · simp at hcs
    obtain ⟨rfl, rfl, rfl⟩ := hcs
    exact ⟨fun _ => [], fun j hj => by omega⟩
  · simp at hcs
    obtain ⟨rfl, rfl, rfl⟩ := hcs
    have each : ∀ r, r < len → ∃ bs, Rd w (A r) (L r) (C r) bs := fun r hr => by
      obtain ⟨_, h1, h2, h3, h4, h5, h6⟩ := hx r (by omega)
      refine (rd_of_row (zs := Z r) ?_).2
      cases hA : A r with
      | none =>
        have := h5 hA
        exact .inl ⟨rfl, by omega, this, List.eq_nil_of_length_eq_zero (by omega)⟩
      | some b' => exact .inr ⟨b', rfl, h1, h2, h3, fun i hi => (h6 b' hA).2 i (by omega), h4⟩
    obtain ⟨F, hF⟩ := Deep.choose_lt each
    refine ⟨F, fun j hj => ?_⟩
    obtain ⟨g, o, spot⟩ := b
    have hc := (hx j (by omega)).1
    have hspot : spot = none := by simpa [Addr.add] using World.cell?_spot (hx 0 (by omega)).1
    subst hspot
    rw [addr_add] at hc
    refine ⟨g, o, A j, L j, C j, rfl, ?_, hc, hF j hj⟩
    rcases Nat.lt_or_ge g w.heap.size with hlt | hge
    · exact hlt
    · simp [World.cell?, Array.getElem?_eq_none hge] at hc

set_option maxRecDepth 100000 in
set_option maxHeartbeats 4000000 in
theorem walkIn (A : Option Addr) (n c : Nat) (F : Nat → List UInt8) (w : World) (h : RdP w A n F) (hn : n ≤ 60) (hL : Laid w) :
    Calls Tryd.prog 7 #[.slice A n c] w fun e w' => e = .returned (.bool true) ∧ Below w.heap.size w w' := by
  have HP := Lib.hid h
  have HL := Lib.hid hL
  have hg2 := hL.lt
  obtain ⟨gh, hgh⟩ : ∃ g, w.heap.size = g := ⟨_, rfl⟩
  rw [hgh] at hg2
  have HN := Lib.hid (New_any w hL)
  rw [hgh] at HN
  have HGH := Lib.hid hgh
  clear h hL
  have hnn : ¬ (60 : Int) < (n : Int) := by omega
  go_enter Tryd.func7, Tryd.ntmps7
  go_wp2_with fail
  refine HN.out.mono ?_
  rintro e w1 ⟨rfl, hH1, hb1⟩
  have H1 := Lib.hid (And.intro hH1 hb1)
  clear hH1 hb1 HN
  go_wp2
  go_loopw [4, 5] (fun v i wr => ∃ k : Nat, k ≤ n ∧ i = .int .i64 k ∧ Below gh w wr ∧ HashIs wr gh (cat F k) ∧ Own wr (gh + 1) 5 v (cat F k) ∧ Hid (∀ j, j < k → (F j).length ≤ 300)) (fun _ i _ => n - (intOf i).toNat)
  case atStart => exact ⟨0, Nat.zero_le _, rfl, H1.out.2, H1.out.1, Own.nil _ _ _, fun j hj => absurd hj (by omega)⟩
  case round =>
    obtain ⟨k, hk, rfl, hB, hH, hO, HJ⟩ := hrel
    have hBW : Below w.heap.size w wr := by rw [HGH.out]; exact hB
    by_cases hlt : k < n
    · obtain ⟨gp, op, a, l, cl, rfl, hgp, hcp, hrp⟩ := HP.out k hlt
      have c1 : wr.cell? ⟨gp, op + k, none⟩ = some (.slice a l cl) := (hBW.cell (p := ⟨gp, op + k, none⟩) hgp).trans hcp
      have hki : (k : Int) < (n : Int) := by omega
      by_cases hl : 300 < l
      · have hli : (300 : Int) < (l : Int) := by omega
        have HBX := Lib.hid hBW
        clear hB hH hO hBW hrp hcp
        go_wp2
        go_ret
        exact ⟨rfl, HBX.out⟩
      · have hli : ¬ (300 : Int) < (l : Int) := by omega
        have HHX := Lib.hid hH
        have HOX := Lib.hid hO
        have HBX := Lib.hid hB
        have hrl := hrp.len
        have HLEN := Lib.hid hrl
        have hcl : (cat F k).length ≤ 18000 := Nat.le_trans (cat_len F k 300 HJ.out) (by omega)
        have HCL := Lib.hid hcl
        obtain ⟨g6, hg6⟩ : ∃ g, wr.heap.size = g := ⟨_, rfl⟩
        have hghl : gh < g6 := by rw [← hg6]; exact hH.lt
        obtain ⟨W3, hW3⟩ : ∃ W, wr.alloc (.cells #[] 5) = W := ⟨_, rfl⟩
        have hOE : Own W3 g6 5 (.slice (some ⟨g6, 0, none⟩) 0 0) [] := by rw [← hW3, ← hg6]; exact Own.empty wr 5
        have hsz3 : W3.heap.size = g6 + 1 := by rw [← hW3, ← hg6]; simp
        have hb3 : Below g6 wr W3 := by rw [← hW3, ← hg6]; exact (Below.refl _ _).alloc (Nat.le_refl _) _
        have hrW : Rd wr a l cl (F k) := hrp.keep hBW
        have hr3 : Rd W3 a l cl (F k) := hrW.keep (by rw [hg6]; exact hb3)
        have hgp6 : gp < g6 := by have := hBW.size; omega
        have c3 : W3.cell? ⟨gp, op + k, none⟩ = some (.slice a l cl) := (hb3.cell (p := ⟨gp, op + k, none⟩) hgp6).trans c1
        have HRP := Lib.hid hrp
        have HGP := Lib.hid hcp
        have hb3s : g6 ≤ W3.heap.size := by omega
        clear hB hH hO hBW hrp hcp hrl hcl hrW
        go_wp2_with (at_builtin; refine wpList_app W3 rfl (.tmp 33) (.tmp 37) _ rfl g6 5 Tryd.underlying22 u8_info _ [] rfl hOE a l cl (F k) rfl hr3 (by simp; omega) hb3s ?_; intro v6 w4 ho6 hb4)
        rw [List.nil_append] at ho6
        have hb34 : Below g6 wr w4 := hb3.trans hb4
        obtain ⟨A6, c6, rfl, hr6⟩ := ho6.slice l HLEN.out
        have hne6 : ∀ b, A6 = some b → b.block ≠ gh := fun b hb => by
          have := ho6.base b.block (by rw [hb]; rfl)
          omega
        have hH4 : HashIs w4 gh (cat F k) := HHX.out.keep (hb34.block gh hghl)
        have hO4 : Own w4 (gh + 1) 5 u4 (cat F k) := HOX.out.keep (by rw [hg6]; exact hb34)
        have hu4 := own_lt HOX.out
        have hB4 : Below gh w w4 := HBX.out.trans (hb34.mono (by omega))
        have HWR := Lib.hid (Write_any gh (cat F k) (F k) A6 l c6 w4 hH4 hr6 hne6 (by have := HCL.out; omega) (HL.out.keep (by rw [HGH.out]; exact hB4)) hg2)
        have H4 := Lib.hid (And.intro ho6 (And.intro hO4 hB4))
        have HU4 := Lib.hid hu4
        have hs4 : g6 + 1 ≤ w4.heap.size := by have := hb4.size; omega
        clear ho6 hb34 hr6 hne6 hH4 hO4 hB4 hu4 hb4 hb3 hr3 hOE c3 c1 hW3 hsz3 hb3s
        refine HWR.out.mono ?_
        rintro e w5 ⟨rfl, hH5, hbu5⟩
        have hO5 : Own w5 (gh + 1) 5 u4 (cat F k) := hbu5.own H4.out.2.1 (fun e => by have := (HU4.out gh e).1; omega)
        have ho5 : Own w5 g6 5 (.slice A6 l c6) (F k) := hbu5.own H4.out.1 (fun e => by have := H4.out.1.base gh e; omega)
        have hB5 : Below gh w w5 := H4.out.2.2.trans (hbu5.below (Nat.le_refl _) (by omega))
        have hBW5 : Below w.heap.size w w5 := by rw [HGH.out]; exact hB5
        have c5 : w5.cell? ⟨gp, op + k, none⟩ = some (.slice a l cl) := (hBW5.cell (p := ⟨gp, op + k, none⟩) hgp).trans HGP.out
        have hr5 : Rd w5 a l cl (F k) := HRP.out.keep hBW5
        have hs5 : gh + 1 ≤ w5.heap.size := by have := hbu5.size; omega
        have hlen5 : (cat F k).length + l ≤ 70368744177664 := by have := HCL.out; omega
        have H5 := Lib.hid (And.intro hH5 (And.intro ho5 hB5))
        have hs45 := hbu5.size
        clear hH5 hbu5 ho5 hB5 hBW5 HWR
        go_wp2_with (at_builtin; refine wpList_appB w5 rfl (.tmp 43) (.tmp 47) rfl (gh + 1) u4 (cat F k) rfl hO5 a l cl (F k) rfl hr5 hlen5 hs5 ?_; intro v4 w6 hO6 hgr hob)
        have hH6 : HashIs w6 gh (cat F (k + 1)) := H5.out.1.grown hgr (fun e => by have := (HU4.out gh e).1; omega)
        have ho6 : Own w6 g6 5 (.slice A6 l c6) (F k) := own_grown hgr H5.out.2.1 (fun b hb e => by
          have h1 := H5.out.2.1.base b hb
          have h2 := (HU4.out b e).2
          omega)
        have hB6 : Below gh w w6 := H5.out.2.2.grown hgr (by omega) (fun b hb => by have := (HU4.out b hb).1; omega)
        have hl6 := own_lt hO6
        obtain ⟨go, hgo1, hgo2, hgo3⟩ : ∃ go, g6 ≤ go ∧ v4.ownBlock ≠ some go ∧ (0 < l → A6 = some ⟨go, 0, none⟩ ∧ ∃ cur, w6.heap[go]? = some (.cells cur 5 (0, 0)) ∧ l ≤ cur.size) := by
          rcases Nat.eq_zero_or_pos l with h0 | h0
          · refine ⟨w6.heap.size, by have := hgr.size; omega, fun e => ?_, fun h1 => by omega⟩
            have := (hl6 _ e).2
            omega
          · obtain ⟨go, c', cur, e1, e2, e3, e4⟩ := own_block ho6 l HLEN.out h0
            injection e1 with e1
            refine ⟨go, e2, fun e => ?_, fun _ => ⟨e1, cur, e3, e4⟩⟩
            have h4 := (own_lt H4.out.1 go (by rw [e1]; rfl)).2
            rcases hob with hob | hob
            · rw [e] at hob
              have := (HU4.out go hob.symm).2
              omega
            · rw [e] at hob
              injection hob with hob
              omega
        have H6 := Lib.hid (And.intro hH6 (And.intro hO6 hB6))
        have HGO := Lib.hid (And.intro hgo2 hgo3)
        have hs6 : gh < w6.heap.size := hH6.lt
        clear hH6 hO6 hB6 ho6 hgr hob hl6 hgo2 hgo3 hO5 hr5 c5 H4 H5 HU4
        go_loopw [7] (fun i wr => ∃ j : Nat, j ≤ l ∧ i = .int .i64 j ∧ But go w6 wr ∧ (0 < l → ∃ cur, wr.heap[go]? = some (.cells cur 5 (0, 0)) ∧ l ≤ cur.size)) (fun i _ => l - (intOf i).toNat)
        case atStart => exact ⟨0, Nat.zero_le _, rfl, But.refl _ _, fun h => (HGO.out.2 h).2⟩
        case round =>
          obtain ⟨j, hj, rfl, hbu, hcu⟩ := hrel
          by_cases hjl : j < l
          · obtain ⟨cur, hrow, hle⟩ := hcu (by omega)
            obtain ⟨rfl, _⟩ := HGO.out.2 (by omega)
            have hji : (j : Int) < (l : Int) := by omega
            have d1 : wr.cell? ⟨go, j, none⟩ = some cur[j] := by rw [cell_of_row wr go j _ 5 (0, 0) hrow]; simp [show j < cur.size by omega]
            have d2 : wr.frozen? ⟨go, j, none⟩ = false := by simp [World.frozen?, hrow]
            obtain ⟨z, hz⟩ : ∃ z, cur[j] = z := ⟨_, rfl⟩
            rw [hz] at d1
            have HRO := Lib.hid hrow
            have HBU := Lib.hid hbu
            clear hrow hbu hcu hz
            go_wp2
            refine ⟨?rel, ?measure⟩
            case rel =>
              refine ⟨j + 1, by omega, by go_num, HBU.out.trans (But.setCell _ _ _), fun _ => ⟨cur.setIfInBounds j (.int .u8 7), ?_, by simpa using hle⟩⟩
              rw [setCell_eq_setRow _ go j cur 5 (0, 0) _ HRO.out]
              exact setRow_heap _ go _ _ 5 _ HRO.out
            case measure => simp [intOf]; omega
          · have hjl' : ¬ (j : Int) < (l : Int) := by omega
            obtain ⟨w7, rfl⟩ : ∃ w7, w7 = wr := ⟨_, rfl⟩
            have hH7 : HashIs w7 gh (cat F (k + 1)) := H6.out.1.keep (hbu.block gh hs6 (by omega))
            have hO7 : Own w7 (gh + 1) 5 v4 (cat F (k + 1)) := hbu.own H6.out.2.1 HGO.out.1
            have hB7 : Below gh w w7 := H6.out.2.2.trans (hbu.below (by omega) (Nat.le_of_lt hs6))
            have HJ7 : Hid (∀ j, j < k + 1 → (F j).length ≤ 300) := fun j hj => by
              rcases Nat.lt_or_ge j k with h | h
              · exact HJ.out j h
              · obtain rfl : j = k := by omega
                rw [HLEN.out]; omega
            have hc7 : (cat F (k + 1)).length ≤ 18300 := Nat.le_trans (cat_len F (k + 1) 300 HJ7.out) (by omega)
            have HL7 := Lib.hid (HL.out.keep (by rw [HGH.out]; exact hB7))
            obtain ⟨D, hD⟩ : ∃ D, cat F (k + 1) = D := ⟨_, rfl⟩
            rw [hD] at hH7 hO7 hc7
            have H7 := Lib.hid (And.intro hB7 (And.intro hH7 hO7))
            have HDD := Lib.hid hD
            clear hbu hcu H6 HGO hB7 hD hs6
            by_cases h3 : k % 3 = 0
            · have hq3 : ((k : Int) % 3 == 0) = true := by rw [beq_iff_eq]; omega
              have HS := Lib.hid (HSum_any gh D w7 hH7 (by omega) HL7.out)
              obtain ⟨A4, c4, hv4, hr4⟩ := hO7.rd
              have HSA : Hid (∀ W, Below w7.heap.size w7 W → Calls Tryd.prog 17 #[v4] W fun e w' => ∃ v, e = .returned v ∧ Own w' W.heap.size 5 v (sumB D) ∧ Below W.heap.size W w') := fun W hW => by
                rw [hv4]
                exact Sum_any A4 _ c4 D W (hr4.keep hW) (by omega) (HL7.out.keep hW)
              clear hH7 hO7 hv4 hr4 h3
              go_wp2_with fail
              refine HS.out.mono ?_
              rintro e w8 ⟨v8, rfl, ho8, hb8⟩
              obtain ⟨A8, c8, hv8, hr8⟩ := ho8.rd
              have HCV : Hid (∀ W, Below w8.heap.size w8 W → (convert 22 9 v8).run Tryd.prog W = .ok (.string ⟨(sumB D).toArray⟩) W) := fun W hW => by
                rw [hv8]
                exact string_rd W _ _ _ _ (hr8.keep hW)
              have HB8 := Lib.hid hb8
              clear ho8 hv8 hr8 hb8 HS
              go_wp2
              have hd1 : Below w8.heap.size w8 w8.drew := (Below.refl _ _).drew
              refine wp_region_held_drew (S := fun W => (convert 22 9 v8).run Tryd.prog W = .ok (.string ⟨(sumB D).toArray⟩) W) (by kernel_rfl) (HCV.out _ hd1) (fun hHeld => ?_)
              refine wpAnyH_take (i := 0) (oi := { dst := some 66, op := Op.move (Operand.tmp 9), type := 23, pos := "law.go:108", after := #[], guard := none }) (v := ?va0) rfl (by kernel_rfl) (by kernel_rfl) (by kernel_rfl) (fun _ _ _ h => h) (Or.inl ⟨by rfl, ?hya0⟩) hHeld ?_
              case hya0 => (intro w hSw; (try dsimp only at hSw); go_simp; first | done | with_reducible rfl)
              try simp only [Act.put, List.setIfInBounds_toArray, List.set_cons_zero, List.set_cons_succ]
              refine wpAnyH_take (i := 1) (oi := { dst := some 67, op := Op.binOp BinOp.neq 23 (Operand.tmp 66) (Operand.const (Value.int IntKind.i64 0)) 23, type := 4, pos := "law.go:108", after := #[{ on := 0, ground := Ground.data }], guard := none }) (v := ?va1) rfl (by kernel_rfl) (by kernel_rfl) (by kernel_rfl) (fun _ _ _ h => h) (Or.inl ⟨by rfl, ?hya1⟩) hHeld ?_
              case hya1 => (intro w hSw; (try dsimp only at hSw); go_simp; first | done | with_reducible rfl)
              try simp only [Act.put, List.setIfInBounds_toArray, List.set_cons_zero, List.set_cons_succ]
              refine wpAnyH_take (i := 2) (oi := { dst := some 68, op := Op.move (Operand.tmp 67), type := 4, pos := "law.go:108", after := #[{ on := 1, ground := Ground.data }], guard := none }) (v := ?va2) rfl (by kernel_rfl) (by kernel_rfl) (by kernel_rfl) (fun _ _ _ h => h) (Or.inl ⟨by rfl, ?hya2⟩) hHeld ?_
              case hya2 => (intro w hSw; (try dsimp only at hSw); go_simp; first | done | with_reducible rfl)
              try simp only [Act.put, List.setIfInBounds_toArray, List.set_cons_zero, List.set_cons_succ]
              refine wpAnyH_take (i := 3) (oi := { dst := some 69, op := Op.move (Operand.tmp 8), type := 22, pos := "law.go:108", after := #[{ on := 2, ground := Ground.guard }], guard := some (2, false) }) (v := ?va3) rfl (by kernel_rfl) (by kernel_rfl) (by kernel_rfl) (fun _ _ _ h => h) (Or.inl ⟨by rfl, ?hya3⟩) hHeld ?_
              case hya3 => (intro w hSw; (try dsimp only at hSw); go_simp; first | done | with_reducible rfl)
              try simp only [Act.put, List.setIfInBounds_toArray, List.set_cons_zero, List.set_cons_succ]
              refine wpAnyH_take (i := 4) (oi := { dst := some 70, op := Op.convert 22 9 (Operand.tmp 69), type := 9, pos := "law.go:108", after := #[{ on := 3, ground := Ground.data }, { on := 2, ground := Ground.guard }], guard := some (2, false) }) (v := ?va4) rfl (by kernel_rfl) (by kernel_rfl) (by kernel_rfl) (fun _ _ _ h => h) (Or.inl ⟨by rfl, ?hya4⟩) hHeld ?_
              case hya4 => (intro w hSw; (try dsimp only at hSw); go_simp; first | done | with_reducible rfl)
              try simp only [Act.put, List.setIfInBounds_toArray, List.set_cons_zero, List.set_cons_succ]
              refine wpAnyH_take (i := 5) (oi := { dst := some 71, op := Op.move (Operand.tmp 4), type := 22, pos := "law.go:108", after := #[{ on := 2, ground := Ground.guard }], guard := some (2, false) }) (v := ?va5) rfl (by kernel_rfl) (by kernel_rfl) (by kernel_rfl) (fun _ _ _ h => h) (Or.inl ⟨by rfl, ?hya5⟩) hHeld ?_
              case hya5 => (intro w hSw; (try dsimp only at hSw); go_simp; first | done | with_reducible rfl)
              try simp only [Act.put, List.setIfInBounds_toArray, List.set_cons_zero, List.set_cons_succ]
              refine wpAnyH_ready (rs := [6]) (by kernel_rfl) (by simp) ?_
              refine AllReadyH.cons (o := { dst := some 72, op := Op.call { callee := Callee.value (Operand.func 17), args := #[Operand.tmp 71], argTypes := #[22] }, type := 22, pos := "law.go:108", after := #[{ on := 5, ground := Ground.data }, { on := 2, ground := Ground.chain }, { on := 2, ground := Ground.guard }], guard := some (2, false) }) rfl (fun K hK => ?_) AllReadyH.nil
              go_simp
              refine (HSA.out _ (Bs.below_step HB8.out hd1)).mono ?_
              rintro e w10 ⟨v10, rfl, ho10, hb10⟩
              obtain ⟨A10, c10, rfl, hr10⟩ := ho10.rd
              have hd2 := Bs.below_step hd1 hb10
              have e10 := string_rd w10 _ _ _ _ hr10
              generalize Value.slice A10 (sumB D).length c10 = v10 at e10 ⊢
              go_wp2_with fail
              refine hK.out _ _ (HCV.out _ hd2) (fun hHeld => ?_)
              clear hK K
              try simp only [Act.put, List.setIfInBounds_toArray, List.set_cons_zero, List.set_cons_succ]
              refine wpAnyH_ready (rs := [7]) (by kernel_rfl) (by simp) ?_
              refine AllReadyH.cons (o := { dst := some 73, op := Op.convert 22 9 (Operand.tmp 72), type := 9, pos := "law.go:108", after := #[{ on := 6, ground := Ground.data }, { on := 2, ground := Ground.guard }], guard := some (2, false) }) rfl (fun K hK => ?_) AllReadyH.nil
              go_simp
              refine hK.out _ _ (hHeld) (fun hHeld => ?_)
              clear hK K
              try simp only [Act.put, List.setIfInBounds_toArray, List.set_cons_zero, List.set_cons_succ]
              refine wpAnyH_take (i := 8) (oi := { dst := some 74, op := Op.binOp BinOp.neq 9 (Operand.tmp 70) (Operand.tmp 73) 9, type := 4, pos := "law.go:108", after := #[{ on := 4, ground := Ground.data }, { on := 7, ground := Ground.data }, { on := 2, ground := Ground.guard }], guard := some (2, false) }) (v := ?va8) rfl (by kernel_rfl) (by kernel_rfl) (by kernel_rfl) (fun _ _ _ h => h) (Or.inl ⟨by rfl, ?hya8⟩) hHeld ?_
              case hya8 => (intro w hSw; (try dsimp only at hSw); go_simp; first | done | with_reducible rfl)
              try simp only [Act.put, List.setIfInBounds_toArray, List.set_cons_zero, List.set_cons_succ]
              refine wpAnyH_take (i := 9) (oi := { dst := some 75, op := Op.pick (Operand.tmp 68) (Operand.const (Value.bool true)) (Operand.tmp 74), type := 4, pos := "law.go:108", after := #[{ on := 2, ground := Ground.data }, { on := 8, ground := Ground.data }], guard := none }) (v := ?va9) rfl (by kernel_rfl) (by kernel_rfl) (by kernel_rfl) (fun _ _ _ h => h) (Or.inl ⟨by rfl, ?hya9⟩) hHeld ?_
              case hya9 => (intro w hSw; (try dsimp only at hSw); go_simp; first | done | with_reducible rfl)
              try simp only [Act.put, List.setIfInBounds_toArray, List.set_cons_zero, List.set_cons_succ]
              refine wpAnyH_done (by kernel_rfl) ?_ _
              have hd3 := Bs.below_step HB8.out hd2
              clear hHeld hd1 hd2 ho10 hr10 hb10 e10 HCV HSA HB8
              have H9 : Hid (Below gh w w10 ∧ HashIs w10 gh D ∧ Own w10 (gh + 1) 5 v4 D) := ⟨H7.out.1.trans (hd3.mono (Nat.le_of_lt H7.out.2.1.lt)), H7.out.2.1.keep (hd3.block gh H7.out.2.1.lt), H7.out.2.2.keep hd3⟩
              clear hd3
              go_wp2
              refine ⟨?rel, ?measure⟩
              case rel => exact ⟨k + 1, by omega, by go_num, H9.out.1, by rw [HDD.out]; exact H9.out.2.1, by rw [HDD.out]; exact H9.out.2.2, HJ7⟩
              case measure => simp [intOf]; omega
            · have hq3 : ((k : Int) % 3 == 0) = false := by rw [beq_eq_false_iff_ne]; omega
              clear hH7 hO7
              go_wp2
              refine ⟨?rel, ?measure⟩
              case rel => exact ⟨k + 1, by omega, by go_num, H7.out.1, by rw [HDD.out]; exact H7.out.2.1, by rw [HDD.out]; exact H7.out.2.2, HJ7⟩
              case measure => simp [intOf]; omega
    · have hki : ¬ (k : Int) < (n : Int) := by omega
      have hkn : k = n := by omega
      have hc7 : (cat F k).length ≤ 18000 := Nat.le_trans (cat_len F k 300 HJ.out) (by omega)
      have HL7 := Lib.hid (HL.out.keep hBW)
      obtain ⟨D, hD⟩ : ∃ D, cat F k = D := ⟨_, rfl⟩
      rw [hD] at hH hO hc7
      have HS := Lib.hid (HSum_any gh D wr hH (by omega) HL7.out)
      obtain ⟨A4, c4, hv4, hr4⟩ := hO.rd
      obtain ⟨v4, rfl⟩ : ∃ v4, v4 = u4 := ⟨_, rfl⟩
      obtain ⟨w7, rfl⟩ : ∃ w7, w7 = wr := ⟨_, rfl⟩
      have HSA : Hid (∀ W, Below w7.heap.size w7 W → Calls Tryd.prog 17 #[v4] W fun e w' => ∃ v, e = .returned v ∧ Own w' W.heap.size 5 v (sumB D) ∧ Below W.heap.size W w') := fun W hW => by
        rw [hv4]
        exact Sum_any A4 _ c4 D W (hr4.keep hW) (by omega) (HL7.out.keep hW)
      have HB7 := Lib.hid hBW
      clear hH hO hv4 hr4 hB hBW hD hkn hlt
      go_wp2_with fail
      refine HS.out.mono ?_
      rintro e w8 ⟨v8, rfl, ho8, hb8⟩
      obtain ⟨A8, c8, hv8, hr8⟩ := ho8.rd
      have HCV : Hid (∀ W, Below w8.heap.size w8 W → (convert 22 9 v8).run Tryd.prog W = .ok (.string ⟨(sumB D).toArray⟩) W) := fun W hW => by
        rw [hv8]
        exact string_rd W _ _ _ _ (hr8.keep hW)
      have HB8 := Lib.hid hb8
      clear ho8 hv8 hr8 hb8 HS
      go_wp2_with fail
      refine (HSum_nil w8).mono ?_
      rintro e w9 ⟨rfl, rfl⟩
      go_wp2
      have hd1 : Below w8.heap.size w8 w8.drew := (Below.refl _ _).drew
      refine wp_region_held_drew (S := fun W => (convert 22 9 v8).run Tryd.prog W = .ok (.string ⟨(sumB D).toArray⟩) W) (by kernel_rfl) (HCV.out _ hd1) (fun hHeld => ?_)
      refine wpAnyH_ready (rs := [0]) (by kernel_rfl) (by simp) ?_
      refine AllReadyH.cons (o := { dst := some 86, op := Op.call { callee := Callee.value (Operand.func 9), args := #[], argTypes := #[] }, type := 4, pos := "law.go:116", after := #[], guard := none }) rfl (fun K hK => ?_) AllReadyH.nil
      go_simp
      refine (awake_any _ (HL7.out.keep (Bs.below_step HB8.out hd1))).mono ?_
      rintro e w11 ⟨rfl, hb11⟩
      have hd2 := Bs.below_step hd1 hb11
      go_wp2_with fail
      refine hK.out _ _ (HCV.out _ hd2) (fun hHeld => ?_)
      clear hK K
      try simp only [Act.put, List.setIfInBounds_toArray, List.set_cons_zero, List.set_cons_succ]
      refine wpAnyH_take (i := 1) (oi := { dst := some 87, op := Op.move (Operand.tmp 86), type := 4, pos := "law.go:116", after := #[{ on := 0, ground := Ground.data }, { on := 0, ground := Ground.chain }], guard := none }) (v := ?vb1) rfl (by kernel_rfl) (by kernel_rfl) (by kernel_rfl) (fun _ _ _ h => h) (Or.inl ⟨by rfl, ?hyb1⟩) hHeld ?_
      case hyb1 => (intro w hSw; (try dsimp only at hSw); go_simp; first | done | with_reducible rfl)
      try simp only [Act.put, List.setIfInBounds_toArray, List.set_cons_zero, List.set_cons_succ]
      refine wpAnyH_take (i := 2) (oi := { dst := some 88, op := Op.move (Operand.tmp 11), type := 23, pos := "law.go:116", after := #[{ on := 1, ground := Ground.guard }], guard := some (1, true) }) (v := ?vb2) rfl (by kernel_rfl) (by kernel_rfl) (by kernel_rfl) (fun _ _ _ h => h) (Or.inl ⟨by rfl, ?hyb2⟩) hHeld ?_
      case hyb2 => (intro w hSw; (try dsimp only at hSw); go_simp; first | done | with_reducible rfl)
      try simp only [Act.put, List.setIfInBounds_toArray, List.set_cons_zero, List.set_cons_succ]
      refine wpAnyH_take (i := 3) (oi := { dst := some 89, op := Op.binOp BinOp.eql 23 (Operand.tmp 88) (Operand.const (Value.int IntKind.i64 0)) 23, type := 4, pos := "law.go:116", after := #[{ on := 2, ground := Ground.data }, { on := 1, ground := Ground.guard }], guard := some (1, true) }) (v := ?vb3) rfl (by kernel_rfl) (by kernel_rfl) (by kernel_rfl) (fun _ _ _ h => h) (Or.inl ⟨by rfl, ?hyb3⟩) hHeld ?_
      case hyb3 => (intro w hSw; (try dsimp only at hSw); go_simp; first | done | with_reducible rfl)
      try simp only [Act.put, List.setIfInBounds_toArray, List.set_cons_zero, List.set_cons_succ]
      refine wpAnyH_take (i := 4) (oi := { dst := some 90, op := Op.pick (Operand.tmp 87) (Operand.tmp 89) (Operand.const (Value.bool false)), type := 4, pos := "law.go:116", after := #[{ on := 1, ground := Ground.data }, { on := 3, ground := Ground.data }], guard := none }) (v := ?vb4) rfl (by kernel_rfl) (by kernel_rfl) (by kernel_rfl) (fun _ _ _ h => h) (Or.inl ⟨by rfl, ?hyb4⟩) hHeld ?_
      case hyb4 => (intro w hSw; (try dsimp only at hSw); go_simp; first | done | with_reducible rfl)
      try simp only [Act.put, List.setIfInBounds_toArray, List.set_cons_zero, List.set_cons_succ]
      refine wpAnyH_take (i := 5) (oi := { dst := some 91, op := Op.move (Operand.tmp 90), type := 4, pos := "law.go:116", after := #[{ on := 4, ground := Ground.data }, { on := 1, ground := Ground.chain }], guard := none }) (v := ?vb5) rfl (by kernel_rfl) (by kernel_rfl) (by kernel_rfl) (fun _ _ _ h => h) (Or.inl ⟨by rfl, ?hyb5⟩) hHeld ?_
      case hyb5 => (intro w hSw; (try dsimp only at hSw); go_simp; first | done | with_reducible rfl)
      try simp only [Act.put, List.setIfInBounds_toArray, List.set_cons_zero, List.set_cons_succ]
      refine wpAnyH_take (i := 6) (oi := { dst := some 92, op := Op.move (Operand.tmp 10), type := 22, pos := "law.go:116", after := #[{ on := 5, ground := Ground.guard }], guard := some (5, true) }) (v := ?vb6) rfl (by kernel_rfl) (by kernel_rfl) (by kernel_rfl) (fun _ _ _ h => h) (Or.inl ⟨by rfl, ?hyb6⟩) hHeld ?_
      case hyb6 => (intro w hSw; (try dsimp only at hSw); go_simp; first | done | with_reducible rfl)
      try simp only [Act.put, List.setIfInBounds_toArray, List.set_cons_zero, List.set_cons_succ]
      refine wpAnyH_take (i := 7) (oi := { dst := some 93, op := Op.convert 22 9 (Operand.tmp 92), type := 9, pos := "law.go:116", after := #[{ on := 6, ground := Ground.data }, { on := 5, ground := Ground.guard }], guard := some (5, true) }) (v := ?vb7) rfl (by kernel_rfl) (by kernel_rfl) (by kernel_rfl) (fun _ _ _ h => h) (Or.inl ⟨by rfl, ?hyb7⟩) hHeld ?_
      case hyb7 => (intro w hSw; (try dsimp only at hSw); go_simp; first | done | with_reducible rfl)
      try simp only [Act.put, List.setIfInBounds_toArray, List.set_cons_zero, List.set_cons_succ]
      refine wpAnyH_take (i := 8) (oi := { dst := some 94, op := Op.move (Operand.tmp 4), type := 22, pos := "law.go:116", after := #[{ on := 5, ground := Ground.guard }], guard := some (5, true) }) (v := ?vb8) rfl (by kernel_rfl) (by kernel_rfl) (by kernel_rfl) (fun _ _ _ h => h) (Or.inl ⟨by rfl, ?hyb8⟩) hHeld ?_
      case hyb8 => (intro w hSw; (try dsimp only at hSw); go_simp; first | done | with_reducible rfl)
      try simp only [Act.put, List.setIfInBounds_toArray, List.set_cons_zero, List.set_cons_succ]
      refine wpAnyH_ready (rs := [9]) (by kernel_rfl) (by simp) ?_
      refine AllReadyH.cons (o := { dst := some 95, op := Op.call { callee := Callee.value (Operand.func 17), args := #[Operand.tmp 94], argTypes := #[22] }, type := 22, pos := "law.go:116", after := #[{ on := 8, ground := Ground.data }, { on := 5, ground := Ground.chain }, { on := 5, ground := Ground.guard }], guard := some (5, true) }) rfl (fun K hK => ?_) AllReadyH.nil
      go_simp
      refine (HSA.out _ (Bs.below_step HB8.out hd2)).mono ?_
      rintro e w10 ⟨v10, rfl, ho10, hb10⟩
      obtain ⟨A10, c10, rfl, hr10⟩ := ho10.rd
      have hd3 := Bs.below_step hd2 hb10
      have e10 := string_rd w10 _ _ _ _ hr10
      generalize Value.slice A10 (sumB D).length c10 = v10 at e10 ⊢
      go_wp2_with fail
      refine hK.out _ _ (HCV.out _ hd3) (fun hHeld => ?_)
      clear hK K
      try simp only [Act.put, List.setIfInBounds_toArray, List.set_cons_zero, List.set_cons_succ]
      refine wpAnyH_ready (rs := [10]) (by kernel_rfl) (by simp) ?_
      refine AllReadyH.cons (o := { dst := some 96, op := Op.convert 22 9 (Operand.tmp 95), type := 9, pos := "law.go:116", after := #[{ on := 9, ground := Ground.data }, { on := 5, ground := Ground.guard }], guard := some (5, true) }) rfl (fun K hK => ?_) AllReadyH.nil
      go_simp
      refine hK.out _ _ (hHeld) (fun hHeld => ?_)
      clear hK K
      try simp only [Act.put, List.setIfInBounds_toArray, List.set_cons_zero, List.set_cons_succ]
      refine wpAnyH_take (i := 11) (oi := { dst := some 97, op := Op.binOp BinOp.eql 9 (Operand.tmp 93) (Operand.tmp 96) 9, type := 4, pos := "law.go:116", after := #[{ on := 7, ground := Ground.data }, { on := 10, ground := Ground.data }, { on := 5, ground := Ground.guard }], guard := some (5, true) }) (v := ?vb11) rfl (by kernel_rfl) (by kernel_rfl) (by kernel_rfl) (fun _ _ _ h => h) (Or.inl ⟨by rfl, ?hyb11⟩) hHeld ?_
      case hyb11 => (intro w hSw; (try dsimp only at hSw); go_simp; first | done | with_reducible rfl)
      try simp only [Act.put, List.setIfInBounds_toArray, List.set_cons_zero, List.set_cons_succ]
      refine wpAnyH_take (i := 12) (oi := { dst := some 98, op := Op.pick (Operand.tmp 91) (Operand.tmp 97) (Operand.const (Value.bool false)), type := 4, pos := "law.go:116", after := #[{ on := 5, ground := Ground.data }, { on := 11, ground := Ground.data }], guard := none }) (v := ?vb12) rfl (by kernel_rfl) (by kernel_rfl) (by kernel_rfl) (fun _ _ _ h => h) (Or.inl ⟨by rfl, ?hyb12⟩) hHeld ?_
      case hyb12 => (intro w hSw; (try dsimp only at hSw); go_simp; first | done | with_reducible rfl)
      try simp only [Act.put, List.setIfInBounds_toArray, List.set_cons_zero, List.set_cons_succ]
      refine wpAnyH_take (i := 13) (oi := { dst := some 99, op := Op.move (Operand.tmp 98), type := 4, pos := "law.go:116", after := #[{ on := 12, ground := Ground.data }, { on := 9, ground := Ground.chain }], guard := none }) (v := ?vb13) rfl (by kernel_rfl) (by kernel_rfl) (by kernel_rfl) (fun _ _ _ h => h) (Or.inl ⟨by rfl, ?hyb13⟩) hHeld ?_
      case hyb13 => (intro w hSw; (try dsimp only at hSw); go_simp; first | done | with_reducible rfl)
      try simp only [Act.put, List.setIfInBounds_toArray, List.set_cons_zero, List.set_cons_succ]
      refine wpAnyH_take (i := 14) (oi := { dst := some 100, op := Op.move (Operand.tmp 14), type := 23, pos := "law.go:116", after := #[{ on := 13, ground := Ground.guard }], guard := some (13, true) }) (v := ?vb14) rfl (by kernel_rfl) (by kernel_rfl) (by kernel_rfl) (fun _ _ _ h => h) (Or.inl ⟨by rfl, ?hyb14⟩) hHeld ?_
      case hyb14 => (intro w hSw; (try dsimp only at hSw); go_simp; first | done | with_reducible rfl)
      try simp only [Act.put, List.setIfInBounds_toArray, List.set_cons_zero, List.set_cons_succ]
      refine wpAnyH_take (i := 15) (oi := { dst := some 101, op := Op.binOp BinOp.eql 23 (Operand.tmp 100) (Operand.const (Value.int IntKind.i64 3)) 23, type := 4, pos := "law.go:116", after := #[{ on := 14, ground := Ground.data }, { on := 13, ground := Ground.guard }], guard := some (13, true) }) (v := ?vb15) rfl (by kernel_rfl) (by kernel_rfl) (by kernel_rfl) (fun _ _ _ h => h) (Or.inl ⟨by rfl, ?hyb15⟩) hHeld ?_
      case hyb15 => (intro w hSw; (try dsimp only at hSw); go_simp; first | done | with_reducible rfl)
      try simp only [Act.put, List.setIfInBounds_toArray, List.set_cons_zero, List.set_cons_succ]
      refine wpAnyH_take (i := 16) (oi := { dst := some 102, op := Op.pick (Operand.tmp 99) (Operand.tmp 101) (Operand.const (Value.bool false)), type := 4, pos := "law.go:116", after := #[{ on := 13, ground := Ground.data }, { on := 15, ground := Ground.data }], guard := none }) (v := ?vb16) rfl (by kernel_rfl) (by kernel_rfl) (by kernel_rfl) (fun _ _ _ h => h) (Or.inl ⟨by rfl, ?hyb16⟩) hHeld ?_
      case hyb16 => (intro w hSw; (try dsimp only at hSw); go_simp; first | done | with_reducible rfl)
      try simp only [Act.put, List.setIfInBounds_toArray, List.set_cons_zero, List.set_cons_succ]
      refine wpAnyH_take (i := 17) (oi := { dst := some 103, op := Op.move (Operand.tmp 102), type := 4, pos := "law.go:116", after := #[{ on := 16, ground := Ground.data }, { on := 13, ground := Ground.chain }], guard := none }) (v := ?vb17) rfl (by kernel_rfl) (by kernel_rfl) (by kernel_rfl) (fun _ _ _ h => h) (Or.inl ⟨by rfl, ?hyb17⟩) hHeld ?_
      case hyb17 => (intro w hSw; (try dsimp only at hSw); go_simp; first | done | with_reducible rfl)
      try simp only [Act.put, List.setIfInBounds_toArray, List.set_cons_zero, List.set_cons_succ]
      refine wpAnyH_take (i := 18) (oi := { dst := some 104, op := Op.move (Operand.tmp 13), type := 22, pos := "law.go:116", after := #[{ on := 17, ground := Ground.guard }], guard := some (17, true) }) (v := ?vb18) rfl (by kernel_rfl) (by kernel_rfl) (by kernel_rfl) (fun _ _ _ h => h) (Or.inl ⟨by rfl, ?hyb18⟩) hHeld ?_
      case hyb18 => (intro w hSw; (try dsimp only at hSw); go_simp; first | done | with_reducible rfl)
      try simp only [Act.put, List.setIfInBounds_toArray, List.set_cons_zero, List.set_cons_succ]
      refine wpAnyH_take (i := 19) (oi := { dst := some 105, op := Op.call { callee := Callee.builtin Builtin.len, args := #[Operand.tmp 104], argTypes := #[22] }, type := 3, pos := "law.go:116", after := #[{ on := 18, ground := Ground.data }, { on := 17, ground := Ground.guard }], guard := some (17, true) }) (v := ?vb19) rfl (by kernel_rfl) (by kernel_rfl) (by kernel_rfl) (fun _ _ _ h => h) (Or.inl ⟨by rfl, ?hyb19⟩) hHeld ?_
      case hyb19 => (intro w hSw; (try dsimp only at hSw); go_simp; first | done | with_reducible rfl)
      try simp only [Act.put, List.setIfInBounds_toArray, List.set_cons_zero, List.set_cons_succ]
      refine wpAnyH_take (i := 20) (oi := { dst := some 106, op := Op.binOp BinOp.eql 3 (Operand.tmp 105) (Operand.const (Value.int IntKind.i64 0)) 3, type := 4, pos := "law.go:116", after := #[{ on := 19, ground := Ground.data }, { on := 17, ground := Ground.guard }], guard := some (17, true) }) (v := ?vb20) rfl (by kernel_rfl) (by kernel_rfl) (by kernel_rfl) (fun _ _ _ h => h) (Or.inl ⟨by rfl, ?hyb20⟩) hHeld ?_
      case hyb20 => (intro w hSw; (try dsimp only at hSw); go_simp; first | done | with_reducible rfl)
      try simp only [Act.put, List.setIfInBounds_toArray, List.set_cons_zero, List.set_cons_succ]
      refine wpAnyH_take (i := 21) (oi := { dst := some 107, op := Op.pick (Operand.tmp 103) (Operand.tmp 106) (Operand.const (Value.bool false)), type := 4, pos := "law.go:116", after := #[{ on := 17, ground := Ground.data }, { on := 20, ground := Ground.data }], guard := none }) (v := ?vb21) rfl (by kernel_rfl) (by kernel_rfl) (by kernel_rfl) (fun _ _ _ h => h) (Or.inl ⟨by rfl, ?hyb21⟩) hHeld ?_
      case hyb21 => (intro w hSw; (try dsimp only at hSw); go_simp; first | done | with_reducible rfl)
      try simp only [Act.put, List.setIfInBounds_toArray, List.set_cons_zero, List.set_cons_succ]
      refine wpAnyH_take (i := 22) (oi := { dst := some 108, op := Op.move (Operand.tmp 107), type := 4, pos := "law.go:116", after := #[{ on := 21, ground := Ground.data }, { on := 17, ground := Ground.chain }], guard := none }) (v := ?vb22) rfl (by kernel_rfl) (by kernel_rfl) (by kernel_rfl) (fun _ _ _ h => h) (Or.inl ⟨by rfl, ?hyb22⟩) hHeld ?_
      case hyb22 => (intro w hSw; (try dsimp only at hSw); go_simp; first | done | with_reducible rfl)
      try simp only [Act.put, List.setIfInBounds_toArray, List.set_cons_zero, List.set_cons_succ]
      refine wpAnyH_take (i := 23) (oi := { dst := some 109, op := Op.move (Operand.tmp 12), type := 43, pos := "law.go:116", after := #[{ on := 22, ground := Ground.guard }], guard := some (22, true) }) (v := ?vb23) rfl (by kernel_rfl) (by kernel_rfl) (by kernel_rfl) (fun _ _ _ h => h) (Or.inl ⟨by rfl, ?hyb23⟩) hHeld ?_
      case hyb23 => (intro w hSw; (try dsimp only at hSw); go_simp; first | done | with_reducible rfl)
      try simp only [Act.put, List.setIfInBounds_toArray, List.set_cons_zero, List.set_cons_succ]
      refine wpAnyH_ready (rs := [24]) (by kernel_rfl) (by simp) ?_
      refine AllReadyH.cons (o := { dst := some 110, op := Op.call { callee := Callee.value (Operand.func 21), args := #[Operand.tmp 109, Operand.const (Value.slice none 0 0)], argTypes := #[43, 22] }, type := 23, pos := "law.go:116", after := #[{ on := 23, ground := Ground.data }, { on := 22, ground := Ground.chain }, { on := 22, ground := Ground.guard }], guard := some (22, true) }) rfl (fun K hK => ?_) AllReadyH.nil
      go_simp
      refine (Write_nil _ w10).mono ?_
      rintro e w12 ⟨rfl, rfl⟩
      go_wp2_with fail
      refine hK.out _ _ (HCV.out _ hd3) (fun hHeld => ?_)
      clear hK K
      try simp only [Act.put, List.setIfInBounds_toArray, List.set_cons_zero, List.set_cons_succ]
      refine wpAnyH_take (i := 25) (oi := { dst := some 111, op := Op.binOp BinOp.eql 23 (Operand.tmp 110) (Operand.const (Value.int IntKind.i64 3)) 23, type := 4, pos := "law.go:116", after := #[{ on := 24, ground := Ground.data }, { on := 22, ground := Ground.guard }], guard := some (22, true) }) (v := ?vb25) rfl (by kernel_rfl) (by kernel_rfl) (by kernel_rfl) (fun _ _ _ h => h) (Or.inl ⟨by rfl, ?hyb25⟩) hHeld ?_
      case hyb25 => (intro w hSw; (try dsimp only at hSw); go_simp; first | done | with_reducible rfl)
      try simp only [Act.put, List.setIfInBounds_toArray, List.set_cons_zero, List.set_cons_succ]
      refine wpAnyH_take (i := 26) (oi := { dst := some 112, op := Op.pick (Operand.tmp 108) (Operand.tmp 111) (Operand.const (Value.bool false)), type := 4, pos := "law.go:116", after := #[{ on := 22, ground := Ground.data }, { on := 25, ground := Ground.data }], guard := none }) (v := ?vb26) rfl (by kernel_rfl) (by kernel_rfl) (by kernel_rfl) (fun _ _ _ h => h) (Or.inl ⟨by rfl, ?hyb26⟩) hHeld ?_
      case hyb26 => (intro w hSw; (try dsimp only at hSw); go_simp; first | done | with_reducible rfl)
      try simp only [Act.put, List.setIfInBounds_toArray, List.set_cons_zero, List.set_cons_succ]
      refine wpAnyH_take (i := 27) (oi := { dst := some 2, op := Op.assign (Operand.tmp 112), type := 4, pos := "law.go:116", after := #[{ on := 26, ground := Ground.data }, { on := 24, ground := Ground.chain }, { on := 0, ground := Ground.phase }, { on := 1, ground := Ground.phase }, { on := 2, ground := Ground.phase }, { on := 3, ground := Ground.phase }, { on := 4, ground := Ground.phase }, { on := 5, ground := Ground.phase }, { on := 6, ground := Ground.phase }, { on := 7, ground := Ground.phase }, { on := 8, ground := Ground.phase }, { on := 9, ground := Ground.phase }, { on := 10, ground := Ground.phase }, { on := 11, ground := Ground.phase }, { on := 12, ground := Ground.phase }, { on := 13, ground := Ground.phase }, { on := 14, ground := Ground.phase }, { on := 15, ground := Ground.phase }, { on := 16, ground := Ground.phase }, { on := 17, ground := Ground.phase }, { on := 18, ground := Ground.phase }, { on := 19, ground := Ground.phase }, { on := 20, ground := Ground.phase }, { on := 21, ground := Ground.phase }, { on := 22, ground := Ground.phase }, { on := 23, ground := Ground.phase }, { on := 24, ground := Ground.phase }, { on := 25, ground := Ground.phase }, { on := 26, ground := Ground.phase }], guard := none }) (v := ?vb27) rfl (by kernel_rfl) (by kernel_rfl) (by kernel_rfl) (fun _ _ _ h => h) (Or.inl ⟨by rfl, ?hyb27⟩) hHeld ?_
      case hyb27 => (intro w hSw; (try dsimp only at hSw); go_simp; first | done | with_reducible rfl)
      try simp only [Act.put, List.setIfInBounds_toArray, List.set_cons_zero, List.set_cons_succ]
      refine wpAnyH_done (by kernel_rfl) ?_ _
      go_wp2
      go_ret
      exact ⟨rfl, Bs.below_step HB7.out (Bs.below_step HB8.out hd3)⟩

set_option maxHeartbeats 4000000 in
theorem walk (a0 : Option Addr) (len0 cap0 : Nat) (F0 : Nat → List UInt8) (w : World) (w0 : RdP w a0 len0 F0) (hL : Laid w) :
    Calls Tryd.prog 7 #[.slice a0 len0 cap0] w fun e w' => e = .returned (.bool true) ∧ Below w.heap.size w w' := by
  by_cases hbig : 60 < len0
  · have hb : (60 : Int) < (len0 : Int) := by omega
    go_enter Tryd.func7, Tryd.ntmps7
    go_wp2
    go_ret
    exact ⟨rfl, Below.refl _ _⟩
  · exact walkIn a0 len0 cap0 F0 w w0 (by omega) hL

theorem contract (H : Type) (enc : TypeId × Value → H) (W : World) (base : Nat) (args : Array Value) (ds gs : List (DataW H)) (before : List MemPlace)
    (hval : ∀ (j : Nat) t v, Tryd.f7.params[j]? = some t → args[j]? = some v → Value.okWide Tryd.prog W .any base t v)
    (hW : DataW.Whole enc Tryd.prog Tryd.f7.params.toList Rows.sha256PartsSpec.vars false W args.toList ds gs before) (hL : laidMetH Tryd.prog Rows.sha256PartsRow.laid W) :
    Calls Tryd.prog 7 args W fun e W' => ∃ v, e = .returned v ∧ Rows.sha256PartsSpec.post enc Tryd.prog Tryd.f7 false true false false W args v W' := by
  have hW' := hW
  obtain ⟨p, q, hA0, hV, rfl, hfz, hnd⟩ := hW
  have hA : DataW.TrodAll enc Tryd.prog W 0 (fun _ => true) true Tryd.f7.params.toList args.toList ds p := hA0
  rw [Tryd.params7] at hA hval
  obtain ⟨v0, vs0, d0, ds0, p0, q0, hargs, rfl, rfl, h0, r0⟩ := trodAll_cons hA
  obtain ⟨rfl, rfl, rfl⟩ := trodAll_nil r0
  obtain rfl : args = #[v0] := by cases args; simp_all
  obtain ⟨rfl, rfl⟩ := trodVars_none hV
  obtain ⟨a0, len0, cap0, rfl⟩ := okWide_slice Tryd.underlying42 (hval 0 42 v0 rfl rfl)
  have k0 := h0
  have lt0 : ∀ x ∈ p0, x.block < W.heap.size := by obtain ⟨m, hm⟩ := k0; exact DataW.trod_lt m _ _ _ hm
  obtain ⟨F0, w0⟩ : ∃ F, RdP W a0 len0 F := by
    obtain ⟨fuel, hf⟩ := h0
    exact open_rows (by simpa [Value.cells] using hf)
  clear hA0
  refine (walk a0 len0 cap0 F0 W w0 (laid_of hL)).mono fun e W' ⟨he, bel⟩ => ?_
  subst he
  exact ⟨_, rfl, _, _, _, [], _, [], hW', trodAll_mk1 (shut_bool Tryd.underlying4 _), (trodAll_cons_mk (Below.trod laidOut (by kernel_rfl) (of_decide_eq_true (by kernel_rfl)) k0 bel lt0) trodAll_mk0), rfl, bel.frame _, fun h => by cases h⟩

theorem laid_met (os : Os) : laidMet Tryd.prog Rows.sha256PartsRow.laid ((laidWorld os).forCall (fun _ _ => 0) ⟨#[], #[.slice none 0 0], []⟩).memory :=
  laidMet_of_run' 8 (by kernel_rfl) (by kernel_rfl)
theorem reads (os : Os) {H : Type} (enc : TypeId × Value → H) : ∃ places, DataW.whole enc Tryd.prog ((laidWorld os).forCall (fun _ _ => 0) ⟨#[], #[.slice none 0 0], []⟩).memory Tryd.f7.params.toList Rows.sha256PartsSpec.vars false (#[.slice none 0 0] : Array Value).toList 8 = some ([.nil], [], places) :=
  ⟨[], by kernel_rfl⟩

set_option maxRecDepth 100000 in
theorem lifted (os : Os) (started : os.Started) (H : Type) (enc : TypeId × Value → H) (F : Stop.Interp) :
    ReturnsInHanded {} Tryd.checked os 7 .any ((OpenSpec.ofChange Rows.sha256PartsSpec).preRow enc Tryd.prog Tryd.f7 Rows.sha256PartsRow.domain false Rows.sha256PartsRow.laid) (((OpenSpec.ofChange Rows.sha256PartsSpec).at F).post enc Tryd.prog Tryd.f7 false true false false) := by
  obtain ⟨places, hx⟩ := reads os enc
  refine returnsInHanded_of_row (C := Tryd.checked) (s := OpenSpec.ofChange Rows.sha256PartsSpec) own started (by kernel_rfl) Tryd.func7
    (witness_row_at (enc := enc) (C := Tryd.checked) false (laidWorld os) #[.slice none 0 0] rfl (by kernel_rfl) (by kernel_rfl) (by kernel_rfl)
      (OpenSpec.preRow_of_cond 8 hx (by kernel_rfl) (fun k hk => by cases hk) (by kernel_rfl) (laid_met os))) ?_
  intro W base args ds gs before hval hW _ _ _ hL _ _
  exact contract H enc W base args ds gs before hval hW hL

theorem said : Rows.Sha256PartsSaid :=
  OpenClaim.holds_of_cond 7 Tryd.f7 rfl rfl rfl rfl rfl rfl rfl ⟨rfl, rfl, rfl, rfl, rfl⟩ rfl rfl rfl rfl rfl (by kernel_rfl) Tryd.func7 (by kernel_rfl)
    (of_decide_eq_true (by kernel_rfl)) (by unfold Func.isWrapper; first | (rw [if_pos (by decide +kernel)]; kernel_rfl) | (rw [if_neg (by decide +kernel)]; exact ⟨rfl, rfl⟩))
    (fun os started H enc _ F => by rw [OpenClaim.pre_eq_preRow]; exact lifted os started H enc F)

theorem plain (f : FuncId) (fn : Func) (hf : Tryd.pinned.checked.prog.funcNamed "chandlery/chandlerylaw03.Sha256Parts" = some f) (hfn : Tryd.pinned.checked.prog.funcs[f]? = some fn) :
    false = Tryd.pinned.checked.prog.looks [] ∧ ∀ (j : Nat) t, fn.params[j]? = some t → Tryd.pinned.checked.prog.wantsStandIn t = false := by
  obtain rfl : f = 7 := Option.some.inj ((show Tryd.prog.funcNamed "chandlery/chandlerylaw03.Sha256Parts" = some 7 by kernel_rfl).symm.trans hf) |>.symm
  obtain rfl : fn = Tryd.f7 := (Option.some.inj (Tryd.func7.symm.trans hfn)).symm
  refine ⟨by kernel_rfl, fun j t ht => ?_⟩
  rw [Tryd.params7] at ht
  have hm : t ∈ [42] := by simpa using Array.mem_of_getElem? ht
  have hall : ([42].all fun u => !Tryd.prog.wantsStandIn u) = true := by kernel_rfl
  exact (show Tryd.prog.wantsStandIn t = false by simpa using List.all_eq_true.1 hall t hm)

theorem proved : Rows.Sha256PartsCardSaid :=
  Claim7.holds_tied_plain_at .later [] _ _ _ _ said (fun _ h => by cases h) (by kernel_rfl) (fun _ h => by cases h) sha256Parts_row_tie rfl ⟨rfl, rfl⟩ (by kernel_rfl) rfl plain (by kernel_rfl)
#print axioms proved
end Go.Proofs.YtnoldhedocejbaaDoor.sha256Parts
