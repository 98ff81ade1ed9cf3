/-
  The statement 'FoldCrc' (chandlerylaw04), as its tied card, holds at every input: the call returns true and leaves its arguments as they were. Conditions: none beyond the row's own: the two package-level tables start as the program's text lays them (the card ties them).
-/
import Derived.Test.YtmimffbjghhdhaaDoorCard
import Derived.Test.YtmimffbjghhdhaaDoorF2
import Derived.Test.YtmimffbjghhdhaaDoorF3
import Derived.Test.YtmimffbjghhdhaaDoorF4
import Derived.Deep.RegionHeld3
namespace Go.Proofs.YtmimffbjghhdhaaDoor.foldCrc
open Go.ChangeShapes Go.WideShapes Go.ChangeAt Go.RowKit Go.Bs Go.Sha Go.FoldW
open Go.ChangeMaps (open_string shut_string)
set_option linter.unusedVariables false

theorem laidOut : laidOutB Tryd.prog = true := by kernel_rfl
def IsRow (k : IntKind) (w : World) (a : Option Addr) (len cap : Nat) (zs : List Int) : Prop :=
  (a = none ∧ len = 0 ∧ cap = 0 ∧ zs = []) ∨
  ∃ x, a = some x ∧ len ≤ cap ∧ cap ≤ maxLen ∧ zs.length = cap ∧ (∀ i, i < zs.length → w.cell? (x.add i) = some (.int k (zs.getD i 0))) ∧ ∀ n ∈ zs, (Lit.int k n).wf = true

set_option maxRecDepth 100000 in
set_option maxHeartbeats 4000000 in
theorem walkOut (A : Option Addr) (n c : Nat) (place : Int) (bs : List UInt8) (w : World) (h : Rd w A n c bs) (hn : n ≤ 300) (hp : -9223372036854775808 ≤ place ∧ place ≤ 9223372036854775807) (hs : place < 0 ∨ 8 * (n : Int) ≤ place) (hL : Laid w) :
    Calls Tryd.prog 5 #[.slice A n c, .int .i64 place] w fun e w' => e = .returned (.bool true) ∧ Below w.heap.size w w' := by
  have HLEN := Lib.hid h.len
  have HR := Lib.hid h
  have HL := Lib.hid hL
  clear hL
  have hb0 : Below w.heap.size w (w.alloc (.cells #[] 5)) := (Below.refl _ _).alloc (Nat.le_refl _) _
  have hsz0 : w.heap.size ≤ (w.alloc (.cells #[] 5)).heap.size := by simp
  go_enter Tryd.func5, Tryd.ntmps5
  go_wp2_with (at_builtin; refine wpList_app _ rfl (.tmp 12) (.tmp 13) _ rfl w.heap.size 5 Tryd.underlying22 u8_info _ [] rfl (Own.empty w 5) A n c bs rfl (h.alloc _) (by simp; omega) hsz0 ?_; intro v1 w1 ho1 hb1)
  rw [List.nil_append] at ho1
  obtain ⟨A1, c1, rfl, hr1⟩ := ho1.slice n HLEN.out
  have HB1 := Lib.hid (hb0.trans hb1)
  have HF := Lib.hid (Crc_any A1 n c1 bs w1 hr1 (by omega))
  have HC := Lib.hid (rCrc_any A n c bs w1 (HR.out.keep HB1.out) (by omega))
  have hs1 := B2x.string_rd w1 _ _ _ _ hr1
  have hs2 := B2x.string_rd w1 _ _ _ _ (HR.out.keep HB1.out)
  clear ho1 hr1 hb0 hb1 hsz0 h
  obtain ⟨x, hx⟩ : ∃ x, Crc.crc bs = x := ⟨_, rfl⟩
  rw [hx] at HF HC
  clear hx
  refine HF.out.mono ?_
  rintro e w' ⟨rfl, rfl⟩
  go_wp2_with fail
  refine HC.out.mono ?_
  rintro e w' ⟨rfl, rfl⟩
  by_cases h1 : place < 0
  · go_wp2_with fail
    refine (awake_any _ (HL.out.keep HB1.out)).mono ?_
    rintro e w3 ⟨rfl, hb3⟩
    have HB3 := Lib.hid (Bs.below_step HB1.out hb3)
    clear hb3
    go_wp2
    go_ret
    exact ⟨rfl, HB3.out⟩
  · have h2 : 8 * (n : Int) ≤ place := by omega
    go_wp2_with fail
    refine (awake_any _ (HL.out.keep HB1.out)).mono ?_
    rintro e w3 ⟨rfl, hb3⟩
    have HB3 := Lib.hid (Bs.below_step HB1.out hb3)
    clear hb3
    go_wp2
    go_ret
    exact ⟨rfl, HB3.out⟩

theorem turned (z : UInt8) (y : Nat) (hy : y ≤ 128) (h0 : 0 < y) : z.toNat ^^^ y < 256 ∧ UInt8.ofNat (z.toNat ^^^ y) ≠ z := by
  have h1 : z.toNat ^^^ y < 256 := Nat.xor_lt_two_pow (n := 8) z.toNat_lt (by omega)
  refine ⟨h1, fun h => ?_⟩
  have h2 : (UInt8.ofNat (z.toNat ^^^ y)).toNat = z.toNat := by rw [h]
  rw [UInt8.toNat_ofNat'] at h2
  have h3 : z.toNat ^^^ y = z.toNat := by omega
  have h4 : z.toNat ^^^ (z.toNat ^^^ y) = z.toNat ^^^ z.toNat := by rw [h3]
  rw [← Nat.xor_assoc, Nat.xor_self, Nat.zero_xor] at h4
  omega
theorem pow2 (k : Nat) (h : k < 8) : 2 ^ k ≤ 128 := by
  have : 2 ^ k ≤ 2 ^ 7 := Nat.pow_le_pow_right (by omega) (by omega)
  omega
set_option maxRecDepth 100000 in
set_option maxHeartbeats 4000000 in
theorem walkIns (A : Option Addr) (n c place : Nat) (bs : List UInt8) (w : World) (h : Rd w A n c bs) (hn : n ≤ 300) (hs : place < 8 * n) (hL : Laid w) :
    Calls Tryd.prog 5 #[.slice A n c, .int .i64 (place : Int)] w fun e w' => e = .returned (.bool true) ∧ Below w.heap.size w w' := by
  have HLEN := Lib.hid h.len
  have HR := Lib.hid h
  have HL := Lib.hid hL
  clear hL
  have hb0 : Below w.heap.size w (w.alloc (.cells #[] 5)) := (Below.refl _ _).alloc (Nat.le_refl _) _
  have hsz0 : w.heap.size ≤ (w.alloc (.cells #[] 5)).heap.size := by simp
  go_enter Tryd.func5, Tryd.ntmps5
  go_wp2_with (at_builtin; refine wpList_app _ rfl (.tmp 12) (.tmp 13) _ rfl w.heap.size 5 Tryd.underlying22 u8_info _ [] rfl (Own.empty w 5) A n c bs rfl (h.alloc _) (by simp; omega) hsz0 ?_; intro v1 w1 ho1 hb1)
  rw [List.nil_append] at ho1
  have HO1 := Lib.hid ho1
  obtain ⟨A1, c1, rfl, hr1⟩ := ho1.slice n HLEN.out
  have HB1 := Lib.hid (hb0.trans hb1)
  have HF := Lib.hid (Crc_any A1 n c1 bs w1 hr1 (by omega))
  have HC := Lib.hid (rCrc_any A n c bs w1 (HR.out.keep HB1.out) (by omega))
  have hs1 := B2x.string_rd w1 _ _ _ _ hr1
  have hs2 := B2x.string_rd w1 _ _ _ _ (HR.out.keep HB1.out)
  clear ho1 hr1 hb0 hb1 hsz0 h
  obtain ⟨x, hx⟩ : ∃ x, Crc.crc bs = x := ⟨_, rfl⟩
  rw [hx] at HF HC
  have HX := Lib.hid hx
  clear hx
  refine HF.out.mono ?_
  rintro e w' ⟨rfl, rfl⟩
  go_wp2_with fail
  refine HC.out.mono ?_
  rintro e w' ⟨rfl, rfl⟩
  clear HF HC
  obtain ⟨r, hr⟩ : ∃ r, place % 8 = r := ⟨_, rfl⟩
  have hr8 : r < 8 := by omega
  have hpr : (place : Int) % 8 = (r : Int) := by omega
  have HRR := Lib.hid hr
  clear hr
  go_wp2
  go_loop [7, 8] (fun v i => ∃ k : Nat, k ≤ r ∧ i = .int .i64 k ∧ v = .int .i64 ((2 ^ k : Nat) : Int)) (fun _ i => r - (intOf i).toNat)
  case atStart => exact ⟨0, Nat.zero_le _, rfl, rfl⟩
  case round =>
    obtain ⟨k, hk, rfl, rfl⟩ := hrel
    obtain ⟨y, hy⟩ : ∃ y, 2 ^ k = y := ⟨_, rfl⟩
    have hy1 : y ≤ 128 := by rw [← hy]; exact pow2 k (by omega)
    have HY := Lib.hid hy
    rw [hy]
    clear hy
    by_cases hlt : k < r
    · go_wp2
      go_round
      case rel => exact ⟨k + 1, by omega, by go_num, by rw [Nat.pow_succ, HY.out, Nat.mul_comm]; go_num⟩
      case measure => simp [intOf]; omega
    · obtain rfl : k = r := by omega
      obtain ⟨q, hq⟩ : ∃ q, place / 8 = q := ⟨_, rfl⟩
      have hqn : q < n := by omega
      have hpq : (place : Int) / 8 = (q : Int) := by omega
      obtain ⟨g, rfl, hgb, hgl, hcells, hfzs, hput⟩ := own_put HO1.out HLEN.out (by omega)
      have hc1 := hcells q hqn
      have hfz := hfzs q
      obtain ⟨z, hz⟩ : ∃ z, bs.getD q 0 = z := ⟨_, rfl⟩
      rw [hz] at hc1
      have hz8 := z.toNat_lt
      have hy0 : 0 < y := by rw [← HY.out]; exact Nat.pow_pos (by omega)
      have HXO := Lib.hid (Xor_any z.toNat y w1 (by omega) (by omega))
      obtain ⟨ht8, htne⟩ := turned z y hy1 hy0
      obtain ⟨t, ht⟩ : ∃ t, z.toNat ^^^ y = t := ⟨_, rfl⟩
      rw [ht] at HXO ht8 htne
      have HRN := Lib.hid (hput q (UInt8.ofNat t) hqn)
      have hBt : B (UInt8.ofNat t) = .int .u8 (t : Int) := by
        show Value.int .u8 ((UInt8.ofNat t).toNat : Int) = _
        rw [UInt8.toNat_ofNat', Nat.mod_eq_of_lt ht8]
      rw [hBt] at HRN
      have HNE : Hid (Crc.crc (bs.set q (UInt8.ofNat t)) ≠ x) := by
        show _ ≠ _
        rw [← HX.out]
        exact Crc.crc_set bs q _ (by rw [HLEN.out]; exact hqn) (by rw [← getD_get, hz]; exact htne)
      obtain ⟨W, hW⟩ : ∃ W, w1.setCell ⟨g, q, none⟩ (.int .u8 (t : Int)) = W := ⟨_, rfl⟩
      rw [hW] at HRN
      have HBW : Hid (Below w.heap.size w W) := by rw [← hW]; exact HB1.out.setCell hgb _
      clear hcells hfzs hput hz ht htne hBt hs1 hs2 HO1 hq
      go_wp2_with fail
      refine HXO.out.mono ?_
      rintro e w' ⟨rfl, rfl⟩
      go_wp2_with fail
      refine (awake_any _ (HL.out.keep HBW.out)).mono ?_
      rintro e w3 ⟨rfl, hb3⟩
      have HB3 := Lib.hid (Bs.below_step HBW.out hb3)
      have HF2 := Lib.hid (Crc_any _ n c1 _ w3 (HRN.out.keep hb3) (by omega))
      obtain ⟨x2, hx2⟩ : ∃ x2, Crc.crc (bs.set q (UInt8.ofNat t)) = x2 := ⟨_, rfl⟩
      have hne : ((x2 : Int) != (x : Int)) = true := by
        rw [bne_iff_ne]
        have := HNE.out
        rw [hx2] at this
        omega
      rw [hx2] at HF2
      clear hb3 hW hx2
      go_wp2_with fail
      refine HF2.out.mono ?_
      rintro e w' ⟨rfl, rfl⟩
      go_wp2
      go_ret
      exact ⟨rfl, HB3.out⟩
set_option maxHeartbeats 4000000 in
theorem walk (a0 : Option Addr) (len0 cap0 : Nat) (z0 : List Int) (a1 : Int) (w : World) (w0 : IsRow .u8 w a0 len0 cap0 z0) (w1 : (Lit.int .i64 a1).wf = true) (hL : Laid w) :
    Calls Tryd.prog 5 #[.slice a0 len0 cap0, .int .i64 a1] w fun e w' => e = .returned (.bool true) ∧ Below w.heap.size w w' := by
  obtain ⟨hlen, bs, hr⟩ := rd_of_row w0
  by_cases hbig : 300 < len0
  · have hb : (300 : Int) < (len0 : Int) := by omega
    go_enter Tryd.func5, Tryd.ntmps5
    go_wp2
    go_ret
    exact ⟨rfl, Below.refl _ _⟩
  · by_cases hs : a1 < 0 ∨ 8 * (len0 : Int) ≤ a1
    · exact walkOut a0 len0 cap0 a1 bs w hr (by omega) (bounds_i64 w1) hs hL
    · obtain ⟨place, rfl⟩ := Int.eq_ofNat_of_zero_le (show 0 ≤ a1 by omega)
      exact walkIns a0 len0 cap0 place bs w hr (by omega) (by omega) hL

theorem contract (H : Type) (enc : TypeId × Value → H) (W : World) (base : Nat) (args : Array Value) (ds gs : List (DataW H)) (before : List MemPlace)
    (hval : ∀ (j : Nat) t v, Tryd.f5.params[j]? = some t → args[j]? = some v → Value.okWide Tryd.prog W .any base t v)
    (hW : DataW.Whole enc Tryd.prog Tryd.f5.params.toList Rows.foldCrcSpec.vars false W args.toList ds gs before) (hL : laidMetH Tryd.prog Rows.foldCrcRow.laid W) :
    Calls Tryd.prog 5 args W fun e W' => ∃ v, e = .returned v ∧ Rows.foldCrcSpec.post enc Tryd.prog Tryd.f5 false true false false W args v W' := by
  have hW' := hW
  obtain ⟨p, q, hA0, hV, rfl, hfz, hnd⟩ := hW
  have hA : DataW.TrodAll enc Tryd.prog W 0 (fun _ => true) true Tryd.f5.params.toList args.toList ds p := hA0
  rw [Tryd.params5] at hA hval
  obtain ⟨v0, vs0, d0, ds0, p0, q0, hargs, rfl, rfl, h0, r0⟩ := trodAll_cons hA
  obtain ⟨v1, vs1, d1, ds1, p1, q1, rfl, rfl, rfl, h1, r1⟩ := trodAll_cons r0
  obtain ⟨rfl, rfl, rfl⟩ := trodAll_nil r1
  obtain rfl : args = #[v0, v1] := by cases args; simp_all
  obtain ⟨rfl, rfl⟩ := trodVars_none hV
  obtain ⟨a0, len0, cap0, rfl⟩ := okWide_slice Tryd.underlying22 (hval 0 22 v0 rfl rfl)
  have k0 := h0
  have lt0 : ∀ x ∈ p0, x.block < W.heap.size := by obtain ⟨m, hm⟩ := k0; exact DataW.trod_lt m _ _ _ hm
  obtain ⟨z0, w0⟩ : ∃ zs, IsRow .u8 W a0 len0 cap0 zs := by
    obtain ⟨fuel, hf⟩ := h0
    rcases open_ints Tryd.underlying22 Tryd.underlying5 (by kernel_rfl) hf with ⟨hcs, _⟩ | ⟨x, l, c, zs, hcs, _, hl, hm, hz, _, hcell, hwz⟩
    · simp [Value.cells] at hcs
      obtain ⟨rfl, rfl, rfl⟩ := hcs
      exact ⟨[], .inl ⟨rfl, rfl, rfl, rfl⟩⟩
    · simp [Value.cells] at hcs
      obtain ⟨rfl, rfl, rfl⟩ := hcs
      exact ⟨zs, .inr ⟨_, rfl, hl, hm, by simpa using hz, hcell, hwz⟩⟩
  obtain ⟨a1, rfl, rfl, rfl, w1⟩ := open_int Tryd.underlying3 (hval 1 3 v1 rfl rfl) h1
  clear hA0
  refine (walk a0 len0 cap0 z0 a1 W w0 w1 (laid_of hL)).mono fun e W' ⟨he, bel⟩ => ?_
  subst he
  exact ⟨_, rfl, _, _, _, [], _, [], hW', trodAll_mk1 (shut_bool Tryd.underlying4 _), (trodAll_cons_mk (Below.trod laidOut (by kernel_rfl) (of_decide_eq_true (by kernel_rfl)) k0 bel lt0) (trodAll_cons_mk (shut_int Tryd.underlying3 w1) trodAll_mk0)), rfl, bel.frame _, fun h => by cases h⟩

theorem laid_met (os : Os) : laidMet Tryd.prog Rows.foldCrcRow.laid ((laidWorld os).forCall (fun _ _ => 0) ⟨#[], #[.slice none 0 0, .int .i64 0], []⟩).memory :=
  laidMet_of_run' 8 (by kernel_rfl) (by kernel_rfl)
theorem reads (os : Os) {H : Type} (enc : TypeId × Value → H) : ∃ places, DataW.whole enc Tryd.prog ((laidWorld os).forCall (fun _ _ => 0) ⟨#[], #[.slice none 0 0, .int .i64 0], []⟩).memory Tryd.f5.params.toList Rows.foldCrcSpec.vars false (#[.slice none 0 0, .int .i64 0] : Array Value).toList 8 = some ([.nil, .lit (.int .i64 0)], [], places) :=
  ⟨[], by kernel_rfl⟩

set_option maxRecDepth 100000 in
theorem lifted (os : Os) (started : os.Started) (H : Type) (enc : TypeId × Value → H) (F : Stop.Interp) :
    ReturnsInHanded {} Tryd.checked os 5 .any ((OpenSpec.ofChange Rows.foldCrcSpec).preRow enc Tryd.prog Tryd.f5 Rows.foldCrcRow.domain false Rows.foldCrcRow.laid) (((OpenSpec.ofChange Rows.foldCrcSpec).at F).post enc Tryd.prog Tryd.f5 false true false false) := by
  obtain ⟨places, hx⟩ := reads os enc
  refine returnsInHanded_of_row (C := Tryd.checked) (s := OpenSpec.ofChange Rows.foldCrcSpec) own started (by kernel_rfl) Tryd.func5
    (witness_row_at (enc := enc) (C := Tryd.checked) false (laidWorld os) #[.slice none 0 0, .int .i64 0] rfl (by kernel_rfl) (by kernel_rfl) (by kernel_rfl)
      (OpenSpec.preRow_of_cond 8 hx (by kernel_rfl) (fun k hk => by cases hk) (by kernel_rfl) (laid_met os))) ?_
  intro W base args ds gs before hval hW _ _ _ hL _ _
  exact contract H enc W base args ds gs before hval hW hL

theorem said : Rows.FoldCrcSaid :=
  OpenClaim.holds_of_cond 5 Tryd.f5 rfl rfl rfl rfl rfl rfl rfl ⟨rfl, rfl, rfl, rfl, rfl⟩ rfl rfl rfl rfl rfl (by kernel_rfl) Tryd.func5 (by kernel_rfl)
    (of_decide_eq_true (by kernel_rfl)) (by unfold Func.isWrapper; first | (rw [if_pos (by decide +kernel)]; kernel_rfl) | (rw [if_neg (by decide +kernel)]; exact ⟨rfl, rfl⟩))
    (fun os started H enc _ F => by rw [OpenClaim.pre_eq_preRow]; exact lifted os started H enc F)

theorem plain (f : FuncId) (fn : Func) (hf : Tryd.pinned.checked.prog.funcNamed "chandlery/chandlerylaw04.FoldCrc" = some f) (hfn : Tryd.pinned.checked.prog.funcs[f]? = some fn) :
    false = Tryd.pinned.checked.prog.looks [] ∧ ∀ (j : Nat) t, fn.params[j]? = some t → Tryd.pinned.checked.prog.wantsStandIn t = false := by
  obtain rfl : f = 5 := Option.some.inj ((show Tryd.prog.funcNamed "chandlery/chandlerylaw04.FoldCrc" = some 5 by kernel_rfl).symm.trans hf) |>.symm
  obtain rfl : fn = Tryd.f5 := (Option.some.inj (Tryd.func5.symm.trans hfn)).symm
  refine ⟨by kernel_rfl, fun j t ht => ?_⟩
  rw [Tryd.params5] at ht
  have hm : t ∈ [22, 3] := by simpa using Array.mem_of_getElem? ht
  have hall : ([22, 3].all fun u => !Tryd.prog.wantsStandIn u) = true := by kernel_rfl
  exact (show Tryd.prog.wantsStandIn t = false by simpa using List.all_eq_true.1 hall t hm)

theorem proved : Rows.FoldCrcCardSaid :=
  Claim7.holds_tied_plain_at .later [] _ _ _ _ said (fun _ h => by cases h) (by kernel_rfl) (fun _ h => by cases h) foldCrc_row_tie rfl ⟨rfl, rfl⟩ (by kernel_rfl) rfl plain (by kernel_rfl)
#print axioms proved
end Go.Proofs.YtmimffbjghhdhaaDoor.foldCrc
