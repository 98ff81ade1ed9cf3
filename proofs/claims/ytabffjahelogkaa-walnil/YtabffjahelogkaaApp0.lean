/- 'append(s, make([]byte, k)...)' onto bytes that the call owns. Conditions: none. -/
import Derived.Test.YtabffjahelogkaaBase
import Derived.Lib.AppendZerosOnto
namespace Go.Bs
open Go.RowKit

theorem zeroCells_zeros (k : Nat) : Builtin.zeroCells #[.int .u8 0] k = ((zeros k).map B).toArray := by
  apply Array.ext
  · simp [Builtin.zeroCells, zeros]
  · intro i h1 h2
    simp [Builtin.zeroCells, zeros, Nat.mod_one]

section
variable {P : Program}
theorem run_append_room_zeros (w : World) (t tn ty e : TypeId) (i : TypeInfo) (z : Value) (kq kn : IntKind) (ht : P.underlying t = some (.slice e)) (htn : P.underlying tn = some (.int kn)) (hi : P.info? e = some i) (hz : i.zero = some z) (hs1 : i.size = 1) (hb1 : i.bytes = 1) (hz1 : z = .int .u8 0)
    (g sLen sCap : Nat) (cur : Array Value) (hg : w.heap[g]? = some (.cells cur e (0, 0))) (k : Nat) (hk : k ≤ 70368744177664) (hroom : sLen + k ≤ sCap) (hfit : sLen + k ≤ cur.size) :
    (Builtin.append_ #[t, tn] ty #[.slice (some ⟨g, 0, none⟩) sLen sCap, .int kq k]).run P w =
      .ok (.slice (some ⟨g, 0, none⟩) (sLen + k) sCap) (w.setRow g (cur.toList.take sLen ++ (zeros k).map B ++ cur.toList.drop (sLen + k)).toArray) := by
  have hst := run_storeCells_at P g sLen e ((zeros k).map B) 0 cur w hg (by simp [zeros_length]; omega) (B_one _)
  simp only [Nat.add_zero, List.length_map, zeros_length] at hst
  have hw : IntKind.i64.wrap (k : Int) = k := by rw [IntKind.wrap_i64]; omega
  have hneg : ¬ ((k : Int) < 0) := by omega
  have h48i : ¬ (281474976710656 < (k : Int)) := by omega
  subst hz1
  have hz0 : Builtin.zeroCells (Value.int .u8 0).cells k = ((zeros k).map B).toArray := zeroCells_zeros k
  by_cases h0 : k = 0
  · subst h0
    have e1 : cur.toList.take sLen ++ (zeros 0).map B ++ cur.toList.drop (sLen + 0) = cur.toList := by simp [zeros]
    rw [e1, Array.toArray_toList, setRow_self w g _ e _ hg]
    have hr : sLen ≤ sCap := by omega
    simp [Builtin.append_, run_underlying ht, run_underlying htn, sizeOf, typeInfo, hi, asInt, asIntOf, hr, storeCells, IntKind.wrap_i64]
  · simp [Builtin.append_, run_underlying ht, run_underlying htn, sizeOf, typeInfo, zeroValue, hi, hz, asInt, asIntOf, hw, hneg, hb1, hs1, h48i, h0, hroom, hz0, Addr.add_lit, hst]

theorem run_app_zeros (w : World) (base t tn ty e : Nat) (kn : IntKind) (ht : P.underlying t = some (.slice e)) (htn : P.underlying tn = some (.int kn)) (hinfo : (P.info? e).map (fun i => (i.zero, i.size, i.bytes)) = some (some (.int .u8 0), 1, 1))
    (v : Value) (bs : List UInt8) (hown : Own w base e v bs) (k : Nat) (hsz : bs.length + k ≤ 70368744177664) (hbase : base ≤ w.heap.size) :
    ∃ v' w', (Builtin.append_ #[t, tn] ty #[v, .int .i64 k]).run P w = .ok v' w' ∧ Own w' base e v' (bs ++ zeros k) ∧ Below base w w' := by
  obtain ⟨i, hi, hz, hs1, hby⟩ := info_parts hinfo
  have grown : ∀ (old : Nat), ∃ cs, (bs.map B).toArray ++ Builtin.zeroCells (Value.int .u8 0).cells k ++ Builtin.zeroCells (Value.int .u8 0).cells (grownCap w (bs.length + k) old e - (bs.length + k)) = cs ∧
      Own (w.drew.alloc (.cells cs e)) base e (.slice (some ⟨w.heap.size, 0, none⟩) (bs.length + k) (grownCap w (bs.length + k) old e)) (bs ++ zeros k) ∧ Below base w (w.drew.alloc (.cells cs e)) := by
    intro old
    have hge := grownCap_ge w (bs.length + k) old e
    have hcm : grownCap w (bs.length + k) old e ≤ maxLen := grownCap_le_maxLen w (bs.length + k) old e (by unfold maxLen; omega)
    have hz0 : ∀ q, Builtin.zeroCells (Value.int .u8 0).cells q = ((zeros q).map B).toArray := zeroCells_zeros
    refine ⟨_, rfl, ⟨by simp, .inr ⟨w.heap.size, _, _, by simp [zeros_length], hbase, heap_alloc_new w.drew _, by simp [zeros_length]; omega, hcm, ?_, ?_⟩⟩, ((Below.refl _ w).drew).alloc hbase _⟩
    · rw [hz0, hz0]; simp [zeros_length]; omega
    · rw [hz0, hz0]
      simp [zeros_length]
      rw [← List.append_assoc]
      exact List.take_left' (by simp [zeros_length])
  rcases hown.2 with ⟨rfl, h0⟩ | ⟨g, cap, cur, rfl, hbg, hg, hnc, hcm, hcs, htake⟩
  · obtain rfl : bs = [] := List.eq_nil_of_length_eq_zero h0
    by_cases hk : k = 0
    · subst hk
      refine ⟨.slice none 0 0, w, ?_, by simpa [zeros] using hown, Below.refl _ _⟩
      simp [Builtin.append_, run_underlying ht, run_underlying htn, sizeOf, typeInfo, hi, asInt, asIntOf, IntKind.wrap_i64]
    · obtain ⟨cs, hcs, h1, h2⟩ := grown 0
      have hr := Lib.run_append_nil_zeros (P := P) w t tn ty e i _ .i64 kn ht htn hi hz k (by omega) (by omega) (by simp only [List.length_nil] at hsz; omega) (by rw [hby]; simp only [List.length_nil] at hsz; omega)
      simp only [List.map_nil, Array.empty_append, List.length_nil, Nat.zero_add] at hcs h1 h2
      rw [hcs] at hr
      exact ⟨_, _, hr, h1, h2⟩
  · simp only [Nat.mul_one] at hcs htake
    by_cases hroom : bs.length + k ≤ cap
    · have hr := run_append_room_zeros (P := P) w t tn ty e i _ .i64 kn ht htn hi hz hs1 hby rfl g bs.length cap cur hg k (by omega) hroom (by omega)
      refine ⟨_, _, hr, ⟨by simp, .inr ⟨g, cap, _, by simp [zeros_length], hbg, setRow_heap w g cur _ e _ hg, by simp [zeros_length]; omega, hcm, ?_, ?_⟩⟩, ?_⟩
      · simp [zeros_length]; omega
      · simp [zeros_length, htake]
        rw [← List.append_assoc]
        exact List.take_left' (by simp [zeros_length])
      · exact below_setRow (Below.refl _ _) hbg _
    · obtain ⟨cs, hcs', h1, h2⟩ := grown cap
      have holds : ∀ j u, (bs.map B)[j]? = some u → w.drew.cell? ((⟨g, 0, none⟩ : Addr).add j) = some u := hown.cells (g := g) rfl
      have hold := run_firstCells_some (P := P) w.drew i.size bs.length ⟨g, 0, none⟩ bs.length cap (bs.map B) (by rw [hs1]; simp) holds
      have hr := Lib.run_append_grow_zeros (P := P) w t tn ty e i _ .i64 kn ht htn hi hz (some ⟨g, 0, none⟩) bs.length cap (bs.map B) hold k (by omega) (by omega) (by omega) (by omega) (by rw [hby]; omega)
        (by rw [hby]; exact growslice_fits (by omega) (by omega))
      rw [hcs'] at hr
      exact ⟨_, _, hr, h1, h2⟩

theorem wpList_app_zeros (w : World) {ops : Array Oper} {rest : List Oper} {o : Oper} {a : Act} {Q : Exit → Act → World → Prop} (hgd : o.guard = none) (s x : Operand) (t tn : TypeId)
    (ho : o.op = .call { callee := .builtin .append, args := #[s, x], argTypes := #[t, tn] })
    (base e : Nat) (kn : IntKind) (ht : P.underlying t = some (.slice e)) (htn : P.underlying tn = some (.int kn)) (hinfo : (P.info? e).map (fun i => (i.zero, i.size, i.bytes)) = some (some (.int .u8 0), 1, 1))
    (v : Value) (bs : List UInt8) (hs : a.eval s = v) (hown : Own w base e v bs) (k : Nat) (hx : a.eval x = .int .i64 k) (hsz : bs.length + k ≤ 70368744177664) (hbase : base ≤ w.heap.size)
    (h : ∀ v' w', Own w' base e v' (bs ++ zeros k) → Below base w w' → wpList P ops Q rest (a.put o.dst v') w') : wpList P ops Q (o :: rest) a w := by
  refine wpList_plain hgd fun K hK => ?_
  obtain ⟨v', w', hrun, h2, h3⟩ := run_app_zeros (P := P) w base t tn o.type e kn ht htn hinfo v bs hown k hsz hbase
  unfold Oper.wp execOp
  simp only [ho, resolve, invoke, builtin, Sem.run_bind, Sem.run_pure, Result.andThen_ok, List.map_toArray, List.map_cons, List.map_nil, hs, hx, hrun]
  exact hK _ _ (h v' w' h2 h3)
end
end Go.Bs
