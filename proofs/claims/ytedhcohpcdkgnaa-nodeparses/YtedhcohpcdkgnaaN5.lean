/- Numbers and texts laid behind bytes. Conditions: none. -/
import Derived.Test.YtedhcohpcdkgnaaN1
import Derived.Lib.AppendStr
namespace Go.Bs
open Go.RowKit
/-- the bytes of a number, the highest first. -/
def beB (n size : Nat) : List UInt8 := (List.range size).map fun i => byteAt n (size - 1 - i)
theorem beB_length (n size : Nat) : (beB n size).length = size := by simp [beB]
def beT (n size j : Nat) : List UInt8 := (List.range j).map fun i => byteAt n (size - 1 - i)
theorem beT_succ (n size j : Nat) : beT n size (j + 1) = beT n size j ++ [byteAt n (size - 1 - j)] := by simp [beT, List.range_succ]
def txt (s : ByteArray) : List UInt8 := byteAt s.size 0 :: s.data.toList
theorem beB_one (n : Nat) : beB n 1 = [byteAt n 0] := rfl

/-- what grew, and alone turned, is v's own row; v' lies there or in new memory. -/
def Gr (w w' : World) (v v' : Value) : Prop := w.grownBy w' v.ownBlock ∧ (v'.ownBlock = v.ownBlock ∨ ∃ k, v'.ownBlock = some k ∧ w.heap.size ≤ k)
theorem Gr.refl (w : World) (v : Value) : Gr w w v v := ⟨⟨rfl, rfl, rfl, Nat.le_refl _, fun _ _ _ => rfl⟩, .inl rfl⟩
theorem Gr.alloc {w w' : World} {v v' : Value} (h : Gr w w' v v') (o : Obj) : Gr w (w'.alloc o) v v' :=
  ⟨⟨h.1.os, h.1.tape, h.1.output, by have := h.1.size; simp; omega, fun k hk hne => (heap_alloc_old w' o (Nat.lt_of_lt_of_le hk h.1.size)).trans (h.1.block k hk hne)⟩, h.2⟩
theorem Gr.trans {a b c : World} {v v1 v2 : Value} (h : Gr a b v v1) (h' : Gr b c v1 v2) : Gr a c v v2 := by
  refine ⟨⟨h'.1.os.trans h.1.os, h'.1.tape.trans h.1.tape, h'.1.output.trans h.1.output, Nat.le_trans h.1.size h'.1.size, fun k hk hne => ?_⟩, ?_⟩
  · refine (h'.1.block k (Nat.lt_of_lt_of_le hk h.1.size) ?_).trans (h.1.block k hk hne)
    intro e
    rcases h.2 with h2 | ⟨j, h2, h3⟩
    · exact hne (e.trans h2)
    · rw [h2] at e; injection e with e; omega
  · rcases h'.2 with h2 | ⟨j, h2, h3⟩
    · rcases h.2 with h4 | ⟨j, h4, h5⟩
      · exact .inl (h2.trans h4)
      · exact .inr ⟨j, h2.trans h4, h5⟩
    · exact .inr ⟨j, h2, Nat.le_trans h.1.size h3⟩
theorem Gr.below {base e : Nat} {w w' : World} {v v' : Value} {bs : List UInt8} (h : Gr w w' v v') (ho : Own w base e v bs) (hb : base ≤ w.heap.size) : Below base w w' := (Below.refl _ _).grown h.1 hb ho.base
theorem Gr.block {w w' : World} {v v' : Value} (h : Gr w w' v v') (z : Nat) (hz : z < w.heap.size) (hne : v.ownBlock ≠ some z) : w'.heap[z]? = w.heap[z]? := h.1.block z hz (fun e => hne e.symm)
theorem Own.block {w : World} {base e : Nat} {v : Value} {bs : List UInt8} (h : Own w base e v bs) : ∀ k, v.ownBlock = some k → k < w.heap.size := by
  intro kk he
  rcases h.2 with ⟨rfl, _⟩ | ⟨gg, cap, cur, rfl, _, hgg, _⟩
  · simp [Value.ownBlock] at he
  · have : gg = kk := by simpa [Value.ownBlock] using he
    subst this
    exact (Array.getElem?_eq_some_iff.1 hgg).1
section
variable {P : Program}
theorem wpList_appG (w : World) {ops : Array Oper} {rest : List Oper} {o : Oper} {a : Act} {Q : Exit → Act → World → Prop} (hgd : o.guard = none) (s x : Operand) (t : TypeId)
    (ho : o.op = .call { callee := .builtin .append, args := #[s, x], argTypes := #[t, t] })
    (base e : Nat) (ht : P.underlying t = some (.slice e)) (hinfo : (P.info? e).map (fun i => (i.zero, i.size, i.bytes)) = some (some (.int .u8 0), 1, 1))
    (v : Value) (bs : List UInt8) (hs : a.eval s = v) (hown : Own w base e v bs) (A : Addr) (m c : Nat) (xs : List UInt8) (hx : a.eval x = .slice (some A) m c) (hr : Rd w (some A) m c xs) (hm : 0 < m) (hsz : bs.length + m ≤ 70368744177664) (hbase : base ≤ w.heap.size)
    (h : ∀ v' w', Own w' base e v' (bs ++ xs) → Gr w w' v v' → wpList P ops Q rest (a.put o.dst v') w') : wpList P ops Q (o :: rest) a w := by
  obtain ⟨i, hi, hz, hs1, hby⟩ := info_parts hinfo
  have hl := hr.len
  have hcells : ∀ j u, (xs.map B)[j]? = some u → w.cell? (A.add j) = some u := by
    intro j u hu
    obtain ⟨g, o, h, _, _⟩ := hr.cells hm
    injection h with h
    subst h
    exact hr.src j u hu
  refine wpList_plain hgd fun K hK => ?_
  obtain ⟨v', w', hrun, h2, h3, _, h5⟩ := run_append_own_at (P := P) w base t o.type e i _ 1 1 ht hi hz hs1 hby rfl (by omega) v bs.length (bs.map B) hown A m c (xs.map B) (by simp [hl]) hcells (B_one xs)
      (by unfold maxLen; omega) (by omega) hbase
  unfold Oper.wp execOp
  simp only [ho, resolve, invoke, builtin, Sem.run_bind, Sem.run_pure, Result.andThen_ok, List.map_toArray, List.map_cons, List.map_nil, hs, hx, hrun]
  refine hK _ _ (h v' w' ?_ ⟨h3, ?_⟩)
  · unfold Own; rw [List.length_append, hl, List.map_append]; exact h2
  · rcases h5 with h5 | h5
    · exact .inl h5
    · exact .inr ⟨_, h5, Nat.le_refl _⟩
theorem own_str {w : World} {base e : Nat} {v : Value} {bs : List UInt8} {s : ByteArray} (h : w.ownsRow base e 1 v (bs.length + s.size) (bs.map B ++ Lib.strCells s)) : Own w base e v (bs ++ s.data.toList) := by
  have e : (bs ++ s.data.toList).map B = bs.map B ++ Lib.strCells s := by simp [Lib.strCells]
  unfold Own
  rw [e, List.length_append]
  exact h
theorem run_strG (w : World) (base t u ty e : Nat) (ht : P.underlying t = some (.slice e)) (hu : P.underlying u = some .string) (hinfo : (P.info? e).map (fun i => (i.zero, i.size, i.bytes)) = some (some (.int .u8 0), 1, 1))
    (v : Value) (bs : List UInt8) (hown : Own w base e v bs) (h0 : 0 < bs.length) (s : ByteArray) (hsz : bs.length + s.size ≤ 70368744177664) (hbase : base ≤ w.heap.size) :
    ∃ v' w', (Builtin.append_ #[t, u] ty #[v, .string s]).run P w = .ok v' w' ∧ Own w' base e v' (bs ++ s.data.toList) ∧ Gr w w' v v' := by
  obtain ⟨i, hi, hz, hs1, hby⟩ := info_parts hinfo
  obtain ⟨v', w', hr, h2, h3, _⟩ := Lib.run_append_own_string (P := P) w base t u ty e i ht hu hi hz hs1 hby v bs.length (bs.map B) hown s (by unfold maxLen; omega) (by omega) hbase
  refine ⟨v', w', hr, own_str h2, h3, ?_⟩
  rcases hown.2 with ⟨_, h1⟩ | ⟨g, cap, cur, rfl, hbg, hg, hnc, hcm, hcs, htake⟩
  · omega
  · by_cases hroom : bs.length + s.size ≤ cap
    · have hcs' : cur.size = cap := by simpa using hcs
      have hr2 := Lib.run_append_room_string (P := P) w t u ty e i ht hu hi hs1 g bs.length cap cur hg s hroom (by omega)
      rw [hr2] at hr
      injection hr with hr _
      rw [← hr]
      exact .inl rfl
    · have holds : ∀ j u, (bs.map B)[j]? = some u → w.cell? ((⟨g, 0, none⟩ : Addr).add j) = some u := hown.cells (g := g) rfl
      have hr2 := Lib.run_append_grow_string (P := P) w t u ty e i (.int .u8 0) ht hu hi hz ⟨g, 0, none⟩ bs.length cap (bs.map B) (by rw [hs1]; simp) holds s (by omega) (by omega) (by rw [hby]; exact growslice_fits (by omega) (by omega))
      rw [hr2] at hr
      injection hr with hr _
      rw [← hr]
      exact .inr ⟨_, rfl, Nat.le_refl _⟩
theorem wpList_strG (w : World) {ops : Array Oper} {rest : List Oper} {o : Oper} {a : Act} {Q : Exit → Act → World → Prop} (hgd : o.guard = none) (sl x : Operand) (t u : TypeId)
    (ho : o.op = .call { callee := .builtin .append, args := #[sl, x], argTypes := #[t, u] })
    (base e : Nat) (ht : P.underlying t = some (.slice e)) (hu : P.underlying u = some .string) (hinfo : (P.info? e).map (fun i => (i.zero, i.size, i.bytes)) = some (some (.int .u8 0), 1, 1))
    (v : Value) (bs : List UInt8) (hs : a.eval sl = v) (hown : Own w base e v bs) (h0 : 0 < bs.length) (s : ByteArray) (hx : a.eval x = .string s) (hsz : bs.length + s.size ≤ 70368744177664) (hbase : base ≤ w.heap.size)
    (h : ∀ v' w', Own w' base e v' (bs ++ s.data.toList) → Gr w w' v v' → wpList P ops Q rest (a.put o.dst v') w') : wpList P ops Q (o :: rest) a w := by
  refine wpList_plain hgd fun K hK => ?_
  obtain ⟨v', w', hr, h2, h3⟩ := run_strG (P := P) w base t u o.type e ht hu hinfo v bs hown h0 s hsz hbase
  unfold Oper.wp execOp
  simp only [ho, resolve, invoke, builtin, Sem.run_bind, Sem.run_pure, Result.andThen_ok, List.map_toArray, List.map_cons, List.map_nil, hs, hx, hr]
  exact hK _ _ (h v' w' h2 h3)
end
end Go.Bs
namespace Go.Proofs.Ytedhcohpcdkgnaa
open Go.RowKit Go.Bs
theorem u8_info : (Try.prog.info? 5).map (fun i => (i.zero, i.size, i.bytes)) = some (some (.int .u8 0), 1, 1) := by kernel_rfl

set_option maxHeartbeats 4000000 in
theorem putNumber_any (w : World) (base : Nat) (v : Value) (bs : List UInt8) (hO : Go.Bs.Own w base 5 v bs) (hbase : base ≤ w.heap.size) (hlen : bs.length ≤ 100000000) (n size : Nat) (hn : n ≤ 4611686018427387904) (hs0 : 1 ≤ size) (hs : size ≤ 3) :
    Calls Try.prog 39 #[v, .int .i64 (n : Int), .int .i64 (size : Int)] w fun e w' => ∃ v', e = .returned v' ∧ Go.Bs.Own w' base 5 v' (bs ++ beB n size) ∧ Gr w w' v v' := by
  have HO := Lib.hid hO
  have HBE : Hid (beB n size = beT n size size) := rfl
  clear hO
  go_enter Try.func39, Try.ntmps39
  go_wp2
  go_loopw [0, 7] (fun x i wr => ∃ j : Nat, j ≤ size ∧ i = .int .i64 ((size : Int) - 1 - (j : Int)) ∧ Go.Bs.Own wr base 5 x (bs ++ beT n size j) ∧ Gr w wr v x) (fun _ i _ => (intOf i + 1).toNat)
  case atStart => exact ⟨0, Nat.zero_le _, by simp, by simpa [beT] using HO.out, Gr.refl _ _⟩
  case round =>
    obtain ⟨j, hj, rfl, hO, hB⟩ := hrel
    have hsz : base ≤ wr.heap.size + 1 := by have := hB.1.size; omega
    by_cases hlt : j < size
    · obtain ⟨k, hk⟩ : ∃ k : Nat, (size : Int) - 1 - (j : Int) = (k : Int) := ⟨size - 1 - j, by omega⟩
      have hk2 : k = size - 1 - j := by omega
      rw [hk]
      have HK := Lib.hid hk
      have HK2 := Lib.hid hk2
      have hk3 : k ≤ 2 := by omega
      clear hk hk2
      have hl2 : (bs ++ beT n size j).length + 1 ≤ 70368744177664 := by simp [beT]; omega
      go_wp2_with (at_builtin; refine wpList_appG _ rfl (.tmp 14) (.tmp 20) _ rfl base 5 Try.underlying30 u8_info u0 (bs ++ beT n size j) rfl (hO.alloc _) _ 1 1 [byteAt n k] rfl (one_rd _ _ _ _ (byteAt_val n k)) (by omega) hl2 (by simpa using hsz) ?_; intro v1 w1 ho1 hb1)
      go_roundw
      case rel =>
        refine ⟨j + 1, by omega, ?_, ?_, ?_⟩
        · congr 1; have := HK.out; omega
        · rw [beT_succ, ← List.append_assoc, ← HK2.out]; exact ho1
        · exact (hB.alloc _).trans hb1
      case measure => have := HK.out; simp [intOf]
    · obtain rfl : j = size := by omega
      go_wp2
      go_ret
      exact ⟨_, rfl, by rw [HBE.out]; exact hO, hB⟩

set_option maxHeartbeats 4000000 in
theorem putText_any (w : World) (base : Nat) (v : Value) (bs : List UInt8) (hO : Go.Bs.Own w base 5 v bs) (hbase : base ≤ w.heap.size) (hlen : bs.length ≤ 100000000) (s : ByteArray) (hs : s.size ≤ 2000) :
    Calls Try.prog 40 #[v, .string s] w fun e w' => ∃ v', e = .returned v' ∧ Go.Bs.Own w' base 5 v' (bs ++ txt s) ∧ Gr w w' v v' := by
  have HP := Lib.hid (putNumber_any w base v bs hO hbase hlen s.size 1 (by omega) (by omega) (by omega))
  clear hO
  go_enter Try.func40, Try.ntmps40
  go_wp2_with fail
  refine HP.out.mono ?_
  rintro e w1 ⟨v1, rfl, hO1, hB1⟩
  have hb1 : base ≤ w1.heap.size := Nat.le_trans hbase hB1.1.size
  have HB1 := Lib.hid hB1
  have hl1 : (bs ++ beB s.size 1).length ≤ 100000001 := by rw [List.length_append, beB_length]; omega
  have hl0 : 0 < (bs ++ beB s.size 1).length := by rw [List.length_append, beB_length]; omega
  clear hB1 HP
  go_wp2_with (at_builtin; refine wpList_strG _ rfl (.tmp 9) (.tmp 10) 30 9 rfl base 5 Try.underlying30 Try.underlying9 u8_info v1 _ rfl hO1 hl0 s rfl (by omega) hb1 ?_; intro v2 w2 ho2 hg2)
  go_ret
  refine ⟨_, rfl, ?_, HB1.out.trans hg2⟩
  have := ho2
  rw [beB_one, List.append_assoc] at this
  exact this
end Go.Proofs.Ytedhcohpcdkgnaa
