/- Mix. Conditions: none. -/
import Derived.Test.YtnoldhedocejbaaDoorS9
namespace Go.Proofs.YtnoldhedocejbaaDoor
open Go.RowKit Go.Bs Go.Sha Go.Inv

abbrev N (z : Int) : Value := .int .i64 z
theorem index_i64 (zs : List Int) (k : Nat) (hk : k < 8) (hl : zs.length = 8) (w : World) :
    (Instr.index 29 (.agg (zs.map N).toArray) (.int .i64 (k : Int))).run Tryd.prog w = .ok (N (zs.getD k 0)) w := by
  have h1 : (sizeOf 3).run Tryd.prog w = .ok 1 w := by kernel_rfl
  have h2 : (isAgg 3).run Tryd.prog w = .ok false w := by kernel_rfl
  have h3 : zs[k]? = some (zs.getD k 0) := by simp [List.getD, List.getElem?_eq_getElem (show k < zs.length by omega)]
  have h4 : (0 : Int) ≤ (k : Int) ∧ (k : Int) < ((8 : Nat) : Int) := by omega
  unfold Instr.index
  simp only [asIntOf, Sem.run_bind, Sem.run_pure, run_underlying Tryd.underlying29, Result.andThen_ok, h4, and_self, if_true, h1]
  have h5 : ((k : Int).toNat * 1) = k := by simp
  have h6 : (zs.map N).toArray[k]? = some (N (zs.getD k 0)) := by rw [List.getElem?_toArray, List.getElem?_map, h3]; rfl
  unfold part
  simp only [h5, Sem.run_bind, h2, Result.andThen_ok, h6, Bool.false_eq_true, if_false, Sem.run_pure]

abbrev Z8i : Array Value := #[.int .i64 0, .int .i64 0, .int .i64 0, .int .i64 0, .int .i64 0, .int .i64 0, .int .i64 0, .int .i64 0]
theorem wl_storeRow {ops : Array Oper} {rest : List Oper} {ty0 : TypeId} {pos : String} {after : Array Edge} {a : Act} {w w' : World} {Q : Exit → Act → World → Prop} {ty : TypeId} {x y : Operand} {ad : Addr} {v : Value}
    (hx : a.eval x = .pointer (some ad)) (hy : a.eval y = v) (hs : (storeVar ty ad v).run Tryd.prog w = .ok () w')
    (h : wpList Tryd.prog ops Q rest (a.put none undef) w') : wpList Tryd.prog ops Q (⟨none, .store ty x y, ty0, pos, after, none⟩ :: rest) a w := by
  refine wpList_plain rfl fun K hK => ?_
  unfold Oper.wp execOp
  simp only [hx, hy, Instr.storeAt, Instr.sureAddr, Sem.run_bind, Sem.run_pure, Result.andThen_ok, hs]
  exact hK _ _ h
def okI (z : Int) : Prop := 0 ≤ z ∧ z < 4294967296
def wl (zs : List Int) (k : Nat) : List Nat := (zs.take k).map Int.toNat ++ List.replicate (8 - k) 0
theorem wl_length (zs : List Int) (k : Nat) (hl : zs.length = 8) (h : k ≤ 8) : (wl zs k).length = 8 := by simp [wl]; omega
theorem wl_set (zs : List Int) (k : Nat) (hl : zs.length = 8) (h : k < 8) : (wl zs k).set k (zs.getD k 0).toNat = wl zs (k + 1) := by
  unfold wl
  have h1 : ((zs.take k).map Int.toNat).length = k := by simp; omega
  rw [List.set_append_right _ _ (by omega), h1, Nat.sub_self, show 8 - k = (8 - (k + 1)) + 1 by omega, List.replicate_succ, List.set_cons_zero]
  rw [List.take_succ_eq_append_getElem (by omega), List.map_append, List.append_assoc]
  have h2 : zs.getD k 0 = zs[k]'(by omega) := by simp [List.getD, List.getElem?_eq_getElem (show k < zs.length by omega)]
  rw [h2]
  rfl
def stOf (zs : List Int) : St := ⟨(zs.getD 0 0).toNat, (zs.getD 1 0).toNat, (zs.getD 2 0).toNat, (zs.getD 3 0).toNat, (zs.getD 4 0).toNat, (zs.getD 5 0).toNat, (zs.getD 6 0).toNat, (zs.getD 7 0).toNat⟩

/-- what Mix answers. -/
def MixR (zs : List Int) (n : Nat) (bs : List UInt8) (w : World) (e : Ending) (w' : World) : Prop := Below w.heap.size w w' ∧
  ((n = 64 ∧ (∀ z ∈ zs, okI z) ∧ e = .returned (.tuple #[(mixS (stOf zs) bs).n, .int .i64 0])) ∨ (¬ (n = 64 ∧ ∀ z ∈ zs, okI z) ∧ e = .returned (.tuple #[.agg Z8i, .int .i64 1])))

set_option maxRecDepth 100000 in
set_option maxHeartbeats 4000000 in
theorem Mix_any (z0 z1 z2 z3 z4 z5 z6 z7 : Int) (A : Option Addr) (n c : Nat) (bs : List UInt8) (w : World) (h : Rd w A n c bs) (hc : c ≤ 9223372036854775807) (hL : Laid w) :
    Calls Tryd.prog 11 #[.agg #[N z0, N z1, N z2, N z3, N z4, N z5, N z6, N z7], .slice A n c] w fun e w' => MixR [z0, z1, z2, z3, z4, z5, z6, z7] n bs w e w' := by
  have hcap := h.cap
  have HR := Lib.hid h
  have HL := Lib.hid hL
  clear h hL
  obtain ⟨zs, hzs⟩ : ∃ zs : List Int, [z0, z1, z2, z3, z4, z5, z6, z7] = zs := ⟨_, rfl⟩
  have hl8 : zs.length = 8 := by rw [← hzs]; rfl
  obtain ⟨g, hg⟩ : ∃ g, w.heap.size = g := ⟨_, rfl⟩
  by_cases h64 : n = 64
  · subst h64
    obtain ⟨W, hW⟩ : ∃ W, ((w.alloc (.cells #[N z0, N z1, N z2, N z3, N z4, N z5, N z6, N z7] 29)).alloc (.cells Z8i 29)).alloc (.cells Z8u 51) = W := ⟨_, rfl⟩
    have HBW : Hid (Below g w W ∧ W.heap[g + 1]? = some (.cells Z8i 29 (0, 0)) ∧ BlkU W (g + 2) 51 (wl zs 0) ∧ g + 3 ≤ W.heap.size) := by
      rw [← hW, ← hg]
      refine ⟨below3 _ _ _ _, ?_, ?_, by simp⟩
      · have e : w.heap.size + 1 = (w.alloc (.cells #[N z0, N z1, N z2, N z3, N z4, N z5, N z6, N z7] 29)).heap.size := by simp
        rw [e]
        exact (((Below.refl _ _).alloc (Nat.le_refl _) _).block _ (by simp)).trans (heap_alloc_new _ _)
      · have e : w.heap.size + 2 = ((w.alloc (.cells #[N z0, N z1, N z2, N z3, N z4, N z5, N z6, N z7] 29)).alloc (.cells Z8i 29)).heap.size := by simp
        rw [e]
        exact heap_alloc_new _ _
    have HW := Lib.hid hW
    have HG := Lib.hid hg
    have hix : ∀ (k : Nat), k < 8 → ∀ w, (Instr.index 29 (.agg #[N z0, N z1, N z2, N z3, N z4, N z5, N z6, N z7]) (.int .i64 (k : Int))).run Tryd.prog w = .ok (N (zs.getD k 0)) w := fun k hk w => by
      rw [← hzs]
      exact index_i64 [z0, z1, z2, z3, z4, z5, z6, z7] k hk rfl w
    have HIX := Lib.hid hix
    have HZS := Lib.hid hzs
    clear hW hix
    rw [hzs]
    clear hzs
    go_enter Tryd.func11, Tryd.ntmps11
    go_wp2
    rw [HW.out]
    go_loopw [15] (fun i wr => ∃ k : Nat, k ≤ 8 ∧ i = .int .i64 k ∧ (∀ j, j < k → okI (zs.getD j 0)) ∧ wr.heap[g + 1]? = some (.cells Z8i 29 (0, 0)) ∧ BlkU wr (g + 2) 51 (wl zs k) ∧ Below g w wr ∧ g + 3 ≤ wr.heap.size) (fun i _ => 8 - (intOf i).toNat)
    case atStart => exact ⟨0, Nat.zero_le _, rfl, (fun _ h => by omega), HBW.out.2.1, HBW.out.2.2.1, HBW.out.1, HBW.out.2.2.2⟩
    case round =>
      obtain ⟨k, hk, rfl, hok, hR1, hB, hG, hsz⟩ := hrel
      by_cases hlt : k < 8
      · have hi2 := HIX.out k hlt
        obtain ⟨z, hz⟩ : ∃ z, zs.getD k 0 = z := ⟨_, rfl⟩
        rw [hz] at hi2
        have hmem : z ∈ zs := by rw [← hz]; simp [List.getD, List.getElem?_eq_getElem (show k < zs.length by omega)]
        have HM := Lib.hid hmem
        have HZ := Lib.hid hz
        have bk : (k : Int) < 8 := by omega
        have HOK := Lib.hid hok
        clear hz hmem hok
        by_cases hz0 : z < 0 ∨ 4294967295 < z
        · have hst : (storeVar 29 ⟨g + 1, 0, none⟩ (.agg Z8i)).run Tryd.prog wr = .ok () wr := by
            rw [run_storeVar_row (P := Tryd.prog) wr (g + 1) 29 29 Z8i Z8i hR1 (by kernel_rfl) rfl (by simp [Value.oneCell']), setRow_self wr (g + 1) Z8i 29 _ hR1]
          have hres : (loadVar 29 ⟨g + 1, 0, none⟩).run Tryd.prog wr = .ok (.agg Z8i) wr := run_loadVar_row (P := Tryd.prog) wr (g + 1) 29 29 Z8i (0, 0) _ hR1 Tryd.underlying29 rfl (by kernel_rfl)
          have hbd : Hid (¬ ∀ z ∈ zs, okI z) := fun h => by have := h z HM.out; unfold okI at this; omega
          have HGG := Lib.hid hG
          have HST := Lib.hid hst
          have HRS := Lib.hid hres
          clear hG hB hst hres hR1
          rcases hz0 with h1 | h1
          · go_wp2_with ((with_reducible refine wl_storeRow (ty := 29) (x := .tmp 4) (y := .tmp 25) (v := .agg Z8i) ?hx ?hy HST.out ?_); (case hx => rfl); (case hy => rfl))
            refine bodyPost_ret (results_cell2 Tryd.results11 _ _ rfl HRS.out) rfl (show MixR _ _ _ _ _ _ from ⟨by rw [HG.out]; exact HGG.out, .inr ⟨fun h => hbd.out h.2, rfl⟩⟩)
          · have h2 : ¬ z < 0 := by omega
            go_wp2_with ((with_reducible refine wl_storeRow (ty := 29) (x := .tmp 4) (y := .tmp 25) (v := .agg Z8i) ?hx ?hy HST.out ?_); (case hx => rfl); (case hy => rfl))
            refine bodyPost_ret (results_cell2 Tryd.results11 _ _ rfl HRS.out) rfl (show MixR _ _ _ _ _ _ from ⟨by rw [HG.out]; exact HGG.out, .inr ⟨fun h => hbd.out h.2, rfl⟩⟩)
        · obtain ⟨y, rfl⟩ := Int.eq_ofNat_of_zero_le (show 0 ≤ z by omega)
          have hyM : y < 4294967296 := by omega
          have hcell := hB.cell k (by rw [wl_length _ _ hl8 hk]; exact hlt)
          have hfz := hB.frozen k
          obtain ⟨x, hx⟩ : ∃ x, (wl zs k).getD k 0 = x := ⟨_, rfl⟩
          rw [hx] at hcell
          have HB := Lib.hid hB
          have HR1 := Lib.hid hR1
          have HGG := Lib.hid hG
          clear hG hB hR1 hx hz0
          go_wp2
          go_roundw
          case rel =>
            refine ⟨k + 1, by omega, by go_num, ?_, ?_, ?_, HGG.out.setCell (by show g ≤ g + 2; omega) _, by simpa [World.setCell] using hsz⟩
            · intro j hj
              by_cases e : j = k
              · subst e; rw [HZ.out]; exact ⟨by omega, by omega⟩
              · exact HOK.out j (by omega)
            · exact (Below.heap_setCell _ ⟨g + 2, k, none⟩ _ (g + 1) (by show g + 1 ≠ g + 2; omega)).trans HR1.out
            · rw [← wl_set zs k hl8 hlt, HZ.out]
              exact HB.out.set _ _
          case measure => simp [intOf]; omega
      · obtain rfl : k = 8 := by omega
        have hall : ∀ z ∈ zs, okI z := by
          intro z hz
          obtain ⟨i, hi, e⟩ := List.getElem_of_mem hz
          have := hok i (by omega)
          rw [show zs.getD i 0 = z by simp [List.getD, List.getElem?_eq_getElem hi, e]] at this
          exact this
        obtain ⟨S, hS⟩ : ∃ S, stOf zs = S := ⟨_, rfl⟩
        have hSl : wl zs 8 = S.l := by
          rw [← hS, ← HZS.out]
          rfl
        have hSok : S.ok := by
          rw [← hS]
          have hb : ∀ k, k < 8 → (zs.getD k 0).toNat < 4294967296 := fun k hk => by have := hok k hk; unfold okI at this; omega
          exact ⟨hb 0 (by omega), hb 1 (by omega), hb 2 (by omega), hb 3 (by omega), hb 4 (by omega), hb 5 (by omega), hb 6 (by omega), hb 7 (by omega)⟩
        rw [hSl] at hB
        have hld := load51 wr (g + 2) 51 S hB
        have HMB := Lib.hid (mixBlock_any S hSok A c bs wr (HR.out.keep (by rw [HG.out]; exact hG)) hc (HL.out.keep (by rw [HG.out]; exact hG)))
        rw [show S.v = .agg S.cs from rfl] at HMB
        obtain ⟨cs, hcs⟩ : ∃ cs : Array Value, S.cs = cs := ⟨_, rfl⟩
        rw [hcs] at hld HMB
        have HGG := Lib.hid hG
        have HR1 := Lib.hid hR1
        have HALL := Lib.hid hall
        have HS := Lib.hid hS
        clear hcs hB hG hR1 hall hS hSl hok
        go_wp2_with ((with_reducible refine wl_loadRow (ty := 51) (x := .tmp 6) (g := g + 2) (v := .agg cs) ?hx hld ?_); (case hx => rfl))
        refine HMB.out.mono ?_
        rintro e w1 ⟨rfl, hb1⟩
        obtain ⟨P, hP⟩ : ∃ P, mixS S bs = P := ⟨_, rfl⟩
        have hPok : P.ok := by rw [← hP]; exact mixS_ok _ _
        have HN := Lib.hid (numbers_any P hPok w1)
        have HP := Lib.hid hP
        have hb1w : Below g w w1 := HGG.out.trans (hb1.mono (by omega))
        have hrow1 := (hb1.block (g + 1) (by omega)).trans HR1.out
        have hsz1 := hb1.size
        rw [hP]
        have HH := Lib.hid (And.intro hb1w hrow1)
        clear hP hb1 hb1w hrow1
        go_wp2_with fail
        refine HN.out.mono ?_
        rintro e w2 ⟨rfl, hb2⟩
        have hrow2 := (hb2.block (g + 1) (by omega)).trans HH.out.2
        have hb2w : Below g w w2 := HH.out.1.trans (hb2.mono (by omega))
        have hst := stC (P := Tryd.prog) w2 (g + 1) 29 8 P.ns _ hrow2 rfl rfl (ns_one P)
        have hres := load29 (w2.setRow (g + 1) P.ns) (g + 1) 29 P (setRow_heap w2 (g + 1) _ _ 29 _ hrow2)
        obtain ⟨Y, hY⟩ : ∃ Y, w2.setRow (g + 1) P.ns = Y := ⟨_, rfl⟩
        have HBV : Hid (Below g w Y) := by
          rw [← hY]
          exact below_row hb2w (by omega) (by have := hb2.size; omega) _
        rw [hY] at hst hres
        rw [show P.n = .agg P.ns from rfl]
        obtain ⟨ns, hns⟩ : ∃ cs : Array Value, P.ns = cs := ⟨_, rfl⟩
        have hz : ns.size = 8 := by rw [← hns]; rfl
        have HNS := Lib.hid hns
        rw [hns] at hst hres ⊢
        clear hns hY hrow2 hb2 hb2w
        go_wp2
        refine bodyPost_ret (results_cell2 Tryd.results11 _ _ rfl hres) rfl (show MixR _ _ _ _ _ _ from ⟨by rw [HG.out]; exact HBV.out, .inl ⟨rfl, HALL.out, ?_⟩⟩)
        rw [HS.out, HP.out, show P.n = .agg P.ns from rfl, HNS.out]
        rfl
  · have hne : ((n : Int) != 64) = true := by rw [bne_iff_ne]; omega
    have hld : ∀ W : World, W.heap[g + 1]? = some (.cells Z8i 29 (0, 0)) → (loadVar 29 ⟨g + 1, 0, none⟩).run Tryd.prog W = .ok (.agg Z8i) W := fun W hW => run_loadVar_row (P := Tryd.prog) W (g + 1) 29 29 Z8i (0, 0) _ hW Tryd.underlying29 rfl (by kernel_rfl)
    have HLD := Lib.hid hld
    clear hld hzs
    go_enter Tryd.func11, Tryd.ntmps11
    go_wp2
    refine bodyPost_ret (results_cell2 Tryd.results11 _ _ rfl (HLD.out _ ?_)) rfl (show MixR _ _ _ _ _ _ from ⟨?_, .inr ⟨fun h => h64 h.1, rfl⟩⟩)
    · rw [← hg]
      have e : w.heap.size + 1 = (w.alloc (.cells #[N z0, N z1, N z2, N z3, N z4, N z5, N z6, N z7] 29)).heap.size := by simp
      rw [e]
      exact heap_alloc_new _ _
    · exact ((Below.refl _ _).alloc (Nat.le_refl _) _).alloc (by simp) _
end Go.Proofs.YtnoldhedocejbaaDoor
