/-
  The statement 'FoldShort' (chandlerylaw04), as its tied card, holds at every input: the call returns true and leaves its arguments as they were. Conditions: none beyond the row's own: the two package-level tables start as the program's text lays them (the card ties them).
-/
import Derived.Test.YtmimffbjghhdhaaDoorCard
import Derived.Test.YtmimffbjghhdhaaDoorF5
namespace Go.Proofs.YtmimffbjghhdhaaDoor.foldShort
open Go.ChangeShapes Go.WideShapes Go.ChangeAt Go.RowKit Go.Bs Go.Sha Go.FoldW
open Go.ChangeMaps (open_string shut_string)
set_option linter.unusedVariables false

set_option maxRecDepth 100000 in
set_option maxHeartbeats 4000000 in
theorem walkIns (s : ByteArray) (w : World) (hs : s.size ≤ 500) (hL : Laid w) :
    Calls Tryd.prog 4 #[.string s] w fun e w' => e = .returned (.bool true) ∧ Below w.heap.size w w' := by
  obtain ⟨l, hl⟩ : ∃ l, s.data.toList = l := ⟨_, rfl⟩
  have HL := Lib.hid hL
  have HS := Lib.hid (Short_any s l w hl (by omega) hL)
  have HRS : Hid (∀ W, Calls Tryd.prog 14 #[.string s] W fun e w' => e = .returned (.string ⟨(shortL l).toArray⟩) ∧ Below W.heap.size W w') := fun W => rShort_any s l W hl (by omega)
  have HD : Hid (∀ W, Calls Tryd.prog 12 #[.string ⟨(shortL l).toArray⟩] W fun e w' => e = .returned (.tuple #[.slice (some ⟨W.heap.size, 0, none⟩) 20 20, .int .i64 0]) ∧ Rd w' (some ⟨W.heap.size, 0, none⟩) 20 20 (foldL (sumB l) 20) ∧ Below W.heap.size W w') := fun W => by
    have hz : (⟨(shortL l).toArray⟩ : ByteArray).size = 32 := by show (shortL l).toArray.size = 32; rw [List.size_toArray, shortL_length]
    have := B2x.Decode_yes ⟨(shortL l).toArray⟩ (shortL l) 20 W (by simp) (by rw [hz]; omega) (by rw [hz]; rfl) (short_good l)
    rwa [short_back] at this
  have HSUM : Hid (∀ A c W, Laid W → Rd W A s.size c l → Calls Tryd.prog 13 #[.slice A s.size c] W fun e w' => ∃ v, e = .returned v ∧ Own w' W.heap.size 5 v (sumB l) ∧ Below W.heap.size W w') := fun A c W hLW hr => Sum_any A s.size c l W hr (by omega) hLW
  obtain ⟨S, hS⟩ : ∃ S : ByteArray, ⟨(shortL l).toArray⟩ = S := ⟨_, rfl⟩
  rw [hS] at HS HD
  have HLL := Lib.hid hl
  simp only [hS] at HRS
  clear hL hl hS
  go_enter Tryd.func4, Tryd.ntmps4
  go_wp2_with fail
  refine HS.out.mono ?_
  rintro e w1 ⟨rfl, hb1⟩
  have HB1 := Lib.hid hb1
  clear hb1 HS
  go_wp2_with fail
  refine (HD.out w1).mono ?_
  rintro e w2 ⟨rfl, hr2, hb2⟩
  have HB2 := Lib.hid (bstep HB1.out hb2)
  obtain ⟨g2, hg2⟩ : ∃ g, w1.heap.size = g := ⟨_, rfl⟩
  rw [hg2] at hr2 ⊢
  have HR2 := Lib.hid hr2
  clear hb2 hg2 hr2
  obtain ⟨c3, w3, hcv, hr3, hb3⟩ := run_bytes_str (P := Tryd.prog) w2 9 22 5 Tryd.underlying9 Tryd.underlying22 Tryd.underlying5 s
  rw [HLL.out] at hr3
  have HR2b := Lib.hid (HR2.out.keep hb3)
  have HB3 := Lib.hid (bstep HB2.out hb3)
  have HSU := Lib.hid (HSUM.out _ c3 w3 (HL.out.keep HB3.out) hr3)
  clear hr3 hb3
  go_wp2_with fail
  refine HSU.out.mono ?_
  rintro e w4 ⟨v4, rfl, ho4, hb4⟩
  obtain ⟨A4, c4, rfl, hr4⟩ := ho4.slice 32 (sumB_length l)
  have HB4 := Lib.hid (bstep HB3.out hb4)
  have HR2c := Lib.hid (HR2b.out.keep hb4)
  have HF := Lib.hid (Fold_yes A4 32 c4 20 _ w4 hr4 (by omega) (by omega) (by omega))
  clear ho4 hr4 hb4 hcv HSU
  go_wp2_with fail
  refine HF.out.mono ?_
  rintro e w5 ⟨rfl, hB5, hb5⟩
  have HB5 := Lib.hid (bstep HB4.out hb5)
  have HR2d := Lib.hid (HR2c.out.keep hb5)
  obtain ⟨g5, hg5⟩ : ∃ g, w4.heap.size = g := ⟨_, rfl⟩
  rw [hg5] at hB5 ⊢
  have HR5 := Lib.hid (hB5.all' 20 20 (foldL_length _ _) (Nat.le_refl _))
  clear hb5 hg5 hB5 HF
  go_wp2_with fail
  refine (awake_any w5 (HL.out.keep HB5.out)).mono ?_
  rintro e w6 ⟨rfl, hb6⟩
  have HB6 := Lib.hid (bstep HB5.out hb6)
  have HR2e := Lib.hid (HR2d.out.keep hb6)
  have HR6 := Lib.hid (HR5.out.keep hb6)
  clear hb6
  go_wp2_with fail
  refine (HRS.out w6).mono ?_
  rintro e w7 ⟨rfl, hb7⟩
  have HB7 := Lib.hid (bstep HB6.out hb7)
  have hs1 := B2x.string_rd w7 _ _ _ _ (HR2e.out.keep hb7)
  have hs2 := B2x.string_rd w7 _ _ _ _ (HR6.out.keep hb7)
  clear hb7
  go_wp2
  go_ret
  exact ⟨rfl, HB7.out⟩
set_option maxHeartbeats 4000000 in
theorem walk (a0 : ByteArray) (w : World) (w0 : a0.size ≤ maxLen) (hL : Laid w) :
    Calls Tryd.prog 4 #[.string a0] w fun e w' => e = .returned (.bool true) ∧ Below w.heap.size w w' := by
  by_cases hbig : 500 < a0.size
  · have hb : (500 : Int) < (a0.size : Int) := by omega
    go_enter Tryd.func4, Tryd.ntmps4
    go_wp2
    go_ret
    exact ⟨rfl, Below.refl _ _⟩
  · exact walkIns a0 w (by omega) hL

theorem contract (H : Type) (enc : TypeId × Value → H) (W : World) (base : Nat) (args : Array Value) (ds gs : List (DataW H)) (before : List MemPlace)
    (hval : ∀ (j : Nat) t v, Tryd.f4.params[j]? = some t → args[j]? = some v → Value.okWide Tryd.prog W .any base t v)
    (hW : DataW.Whole enc Tryd.prog Tryd.f4.params.toList Rows.foldShortSpec.vars false W args.toList ds gs before) (hL : laidMetH Tryd.prog Rows.foldShortRow.laid W) :
    Calls Tryd.prog 4 args W fun e W' => ∃ v, e = .returned v ∧ Rows.foldShortSpec.post enc Tryd.prog Tryd.f4 false true false false W args v W' := by
  have hW' := hW
  obtain ⟨p, q, hA0, hV, rfl, hfz, hnd⟩ := hW
  have hA : DataW.TrodAll enc Tryd.prog W 0 (fun _ => true) true Tryd.f4.params.toList args.toList ds p := hA0
  rw [Tryd.params4] at hA hval
  obtain ⟨v0, vs0, d0, ds0, p0, q0, hargs, rfl, rfl, h0, r0⟩ := trodAll_cons hA
  obtain ⟨rfl, rfl, rfl⟩ := trodAll_nil r0
  obtain rfl : args = #[v0] := by cases args; simp_all
  obtain ⟨rfl, rfl⟩ := trodVars_none hV
  obtain ⟨a0, rfl, rfl, rfl, w0⟩ := open_string Tryd.underlying9 (hval 0 9 v0 rfl rfl) h0
  clear hA0
  refine (walk a0 W w0 (laid_of hL)).mono fun e W' ⟨he, bel⟩ => ?_
  subst he
  exact ⟨_, rfl, _, _, _, [], _, [], hW', trodAll_mk1 (shut_bool Tryd.underlying4 _), (trodAll_cons_mk (shut_string Tryd.underlying9 w0) trodAll_mk0), rfl, bel.frame _, fun h => by cases h⟩

theorem laid_met (os : Os) : laidMet Tryd.prog Rows.foldShortRow.laid ((laidWorld os).forCall (fun _ _ => 0) ⟨#[], #[.string ByteArray.empty], []⟩).memory :=
  laidMet_of_run' 8 (by kernel_rfl) (by kernel_rfl)
theorem reads (os : Os) {H : Type} (enc : TypeId × Value → H) : ∃ places, DataW.whole enc Tryd.prog ((laidWorld os).forCall (fun _ _ => 0) ⟨#[], #[.string ByteArray.empty], []⟩).memory Tryd.f4.params.toList Rows.foldShortSpec.vars false (#[.string ByteArray.empty] : Array Value).toList 8 = some ([.lit (.string [])], [], places) :=
  ⟨[], by kernel_rfl⟩

set_option maxRecDepth 100000 in
theorem lifted (os : Os) (started : os.Started) (H : Type) (enc : TypeId × Value → H) (F : Stop.Interp) :
    ReturnsInHanded {} Tryd.checked os 4 .any ((OpenSpec.ofChange Rows.foldShortSpec).preRow enc Tryd.prog Tryd.f4 Rows.foldShortRow.domain false Rows.foldShortRow.laid) (((OpenSpec.ofChange Rows.foldShortSpec).at F).post enc Tryd.prog Tryd.f4 false true false false) := by
  obtain ⟨places, hx⟩ := reads os enc
  refine returnsInHanded_of_row (C := Tryd.checked) (s := OpenSpec.ofChange Rows.foldShortSpec) own started (by kernel_rfl) Tryd.func4
    (witness_row_at (enc := enc) (C := Tryd.checked) false (laidWorld os) #[.string ByteArray.empty] rfl (by kernel_rfl) (by kernel_rfl) (by kernel_rfl)
      (OpenSpec.preRow_of_cond 8 hx (by kernel_rfl) (fun k hk => by cases hk) (by kernel_rfl) (laid_met os))) ?_
  intro W base args ds gs before hval hW _ _ _ hL _ _
  exact contract H enc W base args ds gs before hval hW hL

theorem said : Rows.FoldShortSaid :=
  OpenClaim.holds_of_cond 4 Tryd.f4 rfl rfl rfl rfl rfl rfl rfl ⟨rfl, rfl, rfl, rfl, rfl⟩ rfl rfl rfl rfl rfl (by kernel_rfl) Tryd.func4 (by kernel_rfl)
    (of_decide_eq_true (by kernel_rfl)) (by unfold Func.isWrapper; first | (rw [if_pos (by decide +kernel)]; kernel_rfl) | (rw [if_neg (by decide +kernel)]; exact ⟨rfl, rfl⟩))
    (fun os started H enc _ F => by rw [OpenClaim.pre_eq_preRow]; exact lifted os started H enc F)

theorem plain (f : FuncId) (fn : Func) (hf : Tryd.pinned.checked.prog.funcNamed "chandlery/chandlerylaw04.FoldShort" = some f) (hfn : Tryd.pinned.checked.prog.funcs[f]? = some fn) :
    false = Tryd.pinned.checked.prog.looks [] ∧ ∀ (j : Nat) t, fn.params[j]? = some t → Tryd.pinned.checked.prog.wantsStandIn t = false := by
  obtain rfl : f = 4 := Option.some.inj ((show Tryd.prog.funcNamed "chandlery/chandlerylaw04.FoldShort" = some 4 by kernel_rfl).symm.trans hf) |>.symm
  obtain rfl : fn = Tryd.f4 := (Option.some.inj (Tryd.func4.symm.trans hfn)).symm
  refine ⟨by kernel_rfl, fun j t ht => ?_⟩
  rw [Tryd.params4] at ht
  have hm : t ∈ [9] := by simpa using Array.mem_of_getElem? ht
  have hall : ([9].all fun u => !Tryd.prog.wantsStandIn u) = true := by kernel_rfl
  exact (show Tryd.prog.wantsStandIn t = false by simpa using List.all_eq_true.1 hall t hm)

theorem proved : Rows.FoldShortCardSaid :=
  Claim7.holds_tied_plain_at .later [] _ _ _ _ said (fun _ h => by cases h) (by kernel_rfl) (fun _ h => by cases h) foldShort_row_tie rfl ⟨rfl, rfl⟩ (by kernel_rfl) rfl plain (by kernel_rfl)
#print axioms proved
end Go.Proofs.YtmimffbjghhdhaaDoor.foldShort
