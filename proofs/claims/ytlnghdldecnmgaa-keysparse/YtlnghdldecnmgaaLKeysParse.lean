/-
  The statement 'KeysParse' (chandlerylaw11) holds at every input: the call returns true and leaves its arguments as they were. Conditions: none beyond the row's own.
-/
import Derived.Test.YtlnghdldecnmgaaRows
import Derived.Test.YtlnghdldecnmgaaArgK
import Derived.Test.YtlnghdldecnmgaaKR
import Derived.Test.YtlnghdldecnmgaaKQ
import Derived.WalkKit
import Derived.ProofKit
import Derived.OpenShut
import Derived.ChangeOld
import Derived.Below
set_option linter.unusedSimpArgs false
set_option linter.unusedVariables false
namespace Go.Proofs.Ytlnghdldecnmgaa.keysParse
open Go.ChangeShapes Go.WideShapes Go.ChangeAt Go.RowKit Go.Bs Go.Kx
open Go.ChangeMaps (open_string shut_string)

theorem own : ownKnob Try.prog.godebug = none := by kernel_rfl
theorem laidOut : laidOutB Try.prog = true := by kernel_rfl

theorem fv {w : World} {g t : Nat} {a b c d e : Value} (h : w.heap[g]? = some (.cells #[a, b, c, d, e] t (0, 0))) : w.cell? ⟨g, 0, none⟩ = some a ∧ w.cell? ⟨g, 1, none⟩ = some b ∧ w.cell? ⟨g, 2, none⟩ = some c ∧ w.cell? ⟨g, 3, none⟩ = some d ∧ w.cell? ⟨g, 4, none⟩ = some e := five_cells h

set_option maxRecDepth 100000 in
set_option maxHeartbeats 1000000 in
theorem walk (a0 : List UInt8) (w : World) (w0 : a0.length ≤ 140737488351232) :
    Calls Try.prog 4 #[st a0] w fun e w' => e = .returned (.bool true) ∧ Below w.heap.size w w' := by
  obtain ⟨n, hn⟩ : ∃ n, a0.length = n := ⟨_, rfl⟩
  have hln : ∀ W, (Builtin.len_ #[9] 3 #[.string ⟨a0.toArray⟩]).run Try.prog W = .ok (.int .i64 (n : Int)) W := len_st a0 n hn
  have sz : (⟨a0.toArray⟩ : ByteArray).size = n := by rw [size_list, hn]
  have HP : Hid (n ≤ 1000 → ∀ W, Calls Try.prog 17 #[.string ⟨a0.toArray⟩] W fun e w' => ParseE a0 e ∧ Below W.heap.size W w') := fun h W => Parse_any a0 W (by omega)
  have HRP0 : Hid (n ≤ 1000 → ∀ W, Calls Try.prog 18 #[.string ⟨a0.toArray⟩] W fun e w' => RParE a0 e ∧ Below W.heap.size W w') := fun h W => rParse_any a0 W (by omega)
  have HAW := Lib.hid (fun W => awake_any W)
  rw [hn] at w0
  clear hn
  show Calls Try.prog 4 #[.string ⟨a0.toArray⟩] w _
  obtain ⟨g, hg⟩ : ∃ g, w.heap.size = g := ⟨_, rfl⟩
  rw [hg]
  by_cases h : n ≤ 1000
  rotate_left
  · have h' : 1000 < (n : Int) := by omega
    clear h
    have HB : Hid (Below g w w) := Below.refl _ _
    go_enter Try.func4, Try.ntmps4
    go_wp2
    go_ret
    exact ⟨rfl, HB.out⟩
  · have HPA := Lib.hid (HP.out h)
    have HRP := Lib.hid (HRP0.out h)
    have h' : (n : Int) ≤ 1000 := by omega
    have HG := Lib.hid hg
    clear HP HRP0 h
    unfold ParseE at HPA
    unfold RParE at HRP
    obtain ⟨r, hr⟩ : ∃ r, parseF a0 = r := ⟨_, rfl⟩
    rw [hr] at HPA HRP
    clear hr
    go_enter Try.func4, Try.ntmps4
    go_wp2_with fail
    refine (HPA.out _).mono ?_
    rintro e w1' ⟨he, hb⟩
    have HB1 : Hid (Below g w w1' ∧ g ≤ w1'.heap.size) := ⟨by have := HG.out; subst this; exact hb, by have := HG.out; have := hb.size; omega⟩
    clear hb
    cases r with
    | none =>
      obtain rfl := he
      simp only [noneK, Ky.val, st]
      go_wp2_with fail
      refine (HRP.out _).mono ?_
      rintro e w2' ⟨rfl, hb⟩
      obtain ⟨z1, hz1⟩ : ∃ z, w1'.heap.size = z := ⟨_, rfl⟩
      have hgz : g ≤ z1 := by rw [← hz1]; exact HB1.out.2
      have hA : (w1'.alloc (.cells #[.int .i64 0, .string ⟨#[]⟩, .string ⟨#[]⟩, .int .i64 0, .int .i64 0] 23)).heap[z1]? = some (.cells #[.int .i64 0, .string ⟨#[]⟩, .string ⟨#[]⟩, .int .i64 0, .int .i64 0] 23 (0, 0)) := by rw [← hz1]; exact heap_alloc_new w1' _
      have hs1 : (w1'.alloc (.cells #[.int .i64 0, .string ⟨#[]⟩, .string ⟨#[]⟩, .int .i64 0, .int .i64 0] 23)).heap.size = z1 + 1 := by simp [hz1]
      have hA2 : w2'.heap[z1]? = some (.cells #[.int .i64 0, .string ⟨#[]⟩, .string ⟨#[]⟩, .int .i64 0, .int .i64 0] 23 (0, 0)) := (hb.block z1 (by rw [hs1]; omega)).trans hA
      have HB2 : Hid (Below g w w2' ∧ z1 + 1 ≤ w2'.heap.size) := ⟨HB1.out.1.trans (((Below.refl _ _).alloc HB1.out.2 _).trans (hb.mono (by rw [hs1]; omega))), by have := hb.size; rw [hs1] at this; exact this⟩
      clear hb hA hs1
      simp only [noneK, Ky.val, st]
      go_wp2_with fail
      refine (HAW.out _).mono ?_
      rintro e w3' ⟨rfl, hb⟩
      have hA3 : w3'.heap[z1]? = some (.cells #[.int .i64 0, .string ⟨#[]⟩, .string ⟨#[]⟩, .int .i64 0, .int .i64 0] 23 (0, 0)) := (hb.block z1 (by have := HB2.out.2; simp; omega)).trans ((heap_alloc_old _ _ (by have := HB2.out.2; omega)).trans hA2)
      obtain ⟨z2, hz2⟩ : ∃ z, w2'.heap.size = z := ⟨_, rfl⟩
      have hB3 : w3'.heap[z2]? = some (.cells #[.int .i64 0, .string ⟨#[]⟩, .string ⟨#[]⟩, .int .i64 0, .int .i64 0] 23 (0, 0)) := (hb.block z2 (by simp [hz2])).trans (by rw [← hz2]; exact heap_alloc_new w2' _)
      have HB3 : Hid (Below g w w3') := HB2.out.1.trans (((Below.refl _ _).alloc (by have := HB2.out.2; omega) _).trans (hb.mono (by have := HB2.out.2; simp; omega)))
      obtain ⟨p0, p1, p2, p3, p4⟩ := fv hA3
      obtain ⟨q0, q1, q2, q3, q4⟩ := fv hB3
      have hlt : z1 < w2'.heap.size := by have := HB2.out.2; omega
      clear hb hA2 hA3 hB3
      have hce : ∀ W, (binOp BinOp.eql 23 (.agg #[.int .i64 0, .string ⟨#[]⟩, .string ⟨#[]⟩, .int .i64 0, .int .i64 0]) (.agg #[.int .i64 0, .string ⟨#[]⟩, .string ⟨#[]⟩, .int .i64 0, .int .i64 0])).run Try.prog W = .ok (.bool true) W := fun W => eql_ky (noneK 0) (noneK 0) W
      go_wp2
      go_ret
      exact ⟨rfl, HB3.out⟩
    | some k =>
      obtain rfl := he
      simp only [Ky.val, st]
      go_wp2_with fail
      refine (HRP.out _).mono ?_
      rintro e w2' ⟨rfl, hb⟩
      obtain ⟨z1, hz1⟩ : ∃ z, w1'.heap.size = z := ⟨_, rfl⟩
      have hgz : g ≤ z1 := by rw [← hz1]; exact HB1.out.2
      have hA : (w1'.alloc (.cells #[.int .i64 k.kind, .string ⟨k.a.toArray⟩, .string ⟨k.b.toArray⟩, .int .i64 k.n, .int .i64 k.m] 23)).heap[z1]? = some (.cells #[.int .i64 k.kind, .string ⟨k.a.toArray⟩, .string ⟨k.b.toArray⟩, .int .i64 k.n, .int .i64 k.m] 23 (0, 0)) := by rw [← hz1]; exact heap_alloc_new w1' _
      have hs1 : (w1'.alloc (.cells #[.int .i64 k.kind, .string ⟨k.a.toArray⟩, .string ⟨k.b.toArray⟩, .int .i64 k.n, .int .i64 k.m] 23)).heap.size = z1 + 1 := by simp [hz1]
      have hA2 : w2'.heap[z1]? = some (.cells #[.int .i64 k.kind, .string ⟨k.a.toArray⟩, .string ⟨k.b.toArray⟩, .int .i64 k.n, .int .i64 k.m] 23 (0, 0)) := (hb.block z1 (by rw [hs1]; omega)).trans hA
      have HB2 : Hid (Below g w w2' ∧ z1 + 1 ≤ w2'.heap.size) := ⟨HB1.out.1.trans (((Below.refl _ _).alloc HB1.out.2 _).trans (hb.mono (by rw [hs1]; omega))), by have := hb.size; rw [hs1] at this; exact this⟩
      clear hb hA hs1
      simp only [Ky.val, st]
      go_wp2_with fail
      refine (HAW.out _).mono ?_
      rintro e w3' ⟨rfl, hb⟩
      have hA3 : w3'.heap[z1]? = some (.cells #[.int .i64 k.kind, .string ⟨k.a.toArray⟩, .string ⟨k.b.toArray⟩, .int .i64 k.n, .int .i64 k.m] 23 (0, 0)) := (hb.block z1 (by have := HB2.out.2; simp; omega)).trans ((heap_alloc_old _ _ (by have := HB2.out.2; omega)).trans hA2)
      obtain ⟨z2, hz2⟩ : ∃ z, w2'.heap.size = z := ⟨_, rfl⟩
      have hB3 : w3'.heap[z2]? = some (.cells #[.int .i64 k.kind, .string ⟨k.a.toArray⟩, .string ⟨k.b.toArray⟩, .int .i64 k.n, .int .i64 k.m] 23 (0, 0)) := (hb.block z2 (by simp [hz2])).trans (by rw [← hz2]; exact heap_alloc_new w2' _)
      have HB3 : Hid (Below g w w3') := HB2.out.1.trans (((Below.refl _ _).alloc (by have := HB2.out.2; omega) _).trans (hb.mono (by have := HB2.out.2; simp; omega)))
      obtain ⟨p0, p1, p2, p3, p4⟩ := fv hA3
      obtain ⟨q0, q1, q2, q3, q4⟩ := fv hB3
      have hlt : z1 < w2'.heap.size := by have := HB2.out.2; omega
      clear hb hA2 hA3 hB3
      have hce : ∀ W, (binOp BinOp.eql 23 (.agg #[.int .i64 k.kind, .string ⟨k.a.toArray⟩, .string ⟨k.b.toArray⟩, .int .i64 k.n, .int .i64 k.m]) (.agg #[.int .i64 k.kind, .string ⟨k.a.toArray⟩, .string ⟨k.b.toArray⟩, .int .i64 k.n, .int .i64 k.m])).run Try.prog W = .ok (.bool true) W := fun W => by
        have := eql_ky k k W
        simpa [Ky.val, st] using this
      go_wp2
      go_ret
      exact ⟨rfl, HB3.out⟩
set_option maxRecDepth 100000 in
theorem lifted (os : Os) (started : os.Started) (H : Type) (enc : TypeId × Value → H) :
    ReturnsInHanded {} Try.checked os 4 .any (Rows.keysParseSpec.pre6 enc Try.prog Try.f4 Rows.keysParseRow.domain false) (Rows.keysParseSpec.post enc Try.prog Try.f4 false true false false) := by
  refine returnsInHanded_of_change_sized (C := Try.checked) own started (by kernel_rfl) Try.func4
    (ChangeSpec.witness6 (enc := enc) (C := Try.checked) false ⟨#[], #[.string ByteArray.empty], []⟩ 8 (by kernel_rfl) (by kernel_rfl) (by kernel_rfl) (by kernel_rfl)) ?_
  intro W base args ds gs before hval0 hW hcnd hsz0 _
  have hval : ∀ (j : Nat) t v, Try.f4.params[j]? = some t → args[j]? = some v → Value.okWide Try.prog W .any base t v := hval0
  have hsz : (DataW.weightsEach Try.prog (Try.f4.params.toList ++ Rows.keysParseSpec.plain.varTypes Try.prog) (ds ++ gs)).all (· ≤ reachBytes) = true := hsz0
  have hW' := hW
  obtain ⟨p, q, hA0, hV, rfl, hfz, hnd⟩ := hW
  have hA : DataW.TrodAll enc Try.prog W 0 (fun _ => true) true Try.f4.params.toList args.toList ds p := hA0
  rw [Try.params4] at hA hval hsz
  obtain ⟨v0, vs0, d0, ds0, p0, q0, hargs, rfl, rfl, t0, r0⟩ := trodAll_cons hA
  obtain ⟨rfl, rfl, rfl⟩ := trodAll_nil r0
  obtain rfl : args = #[v0] := by cases args; simp_all
  obtain ⟨rfl, rfl⟩ := trodVars_none hV
  obtain ⟨a0, rfl, rfl, rfl, wm0⟩ := open_string Try.underlying9 (hval 0 9 v0 rfl rfl) t0
  have w0 : a0.data.toList.length ≤ 140737488351232 := by
    have := sized_string hsz (j := 0) (t := 9) rfl rfl
    simpa [reach_eq] using this
  clear hA0 hval0
  refine (walk (a0.data.toList) W w0).mono fun e W' ⟨he, bel⟩ => ?_
  subst he
  exact ⟨_, rfl, _, _, _, [], _, [], hW', trodAll_mk1 (shut_bool Try.underlying4 _), (trodAll_cons_mk (shut_string Try.underlying9 wm0) trodAll_mk0), rfl, bel.frame _, fun h => by cases h⟩

theorem over : Rows.keysParseRow.holds Try.pinned (OpenSpec.ofChange Rows.keysParseSpec) :=
  OpenClaim.holds_of_wide 4 Try.f4 rfl rfl rfl rfl rfl rfl rfl ⟨rfl, rfl, rfl, rfl, rfl⟩ rfl rfl rfl rfl rfl (by kernel_rfl) Try.func4 (by kernel_rfl)
    (of_decide_eq_true (by kernel_rfl)) (by unfold Func.isWrapper; first | (rw [if_pos (by decide +kernel)]; kernel_rfl) | (rw [if_neg (by decide +kernel)]; exact ⟨rfl, rfl⟩))
    (fun os started H enc _ => lifted os started H enc)

/-- the statement. -/
theorem proved : Rows.KeysParseSaid := over
#print axioms proved
end Go.Proofs.Ytlnghdldecnmgaa.keysParse
