/- digest. Conditions: none. -/
import Derived.Test.YtmimffbjghhdhaaDoorS6
import Derived.Test.YtmimffbjghhdhaaDoorS7
import Derived.ArgAppend
import Derived.Deep.CutRange
import Derived.Deep.RegionHeld3
namespace Go.Proofs.YtmimffbjghhdhaaDoor
open Go.RowKit Go.Bs Go.Sha Go.Inv

theorem run_appG (w : World) (ty : TypeId) (A : Option Addr) (n : Nat) (xs : List UInt8) (hr : Rd w A n n xs)
    (A' : Option Addr) (m c' : Nat) (ys : List UInt8) (hr' : Rd w A' m c' ys) (hm : 0 < m) (hsz : n + m ≤ 70368744177664) :
    ∃ v' w', (Builtin.append_ #[22, 22] ty #[.slice A n n, .slice A' m c']).run Tryd.prog w = .ok v' w' ∧ Own w' w.heap.size 5 v' (xs ++ ys) ∧ Below w.heap.size w w' := by
  obtain ⟨i, hi, hz, hs1, hby⟩ := info_parts u8_info
  obtain ⟨g', o', rfl, _, _⟩ := hr'.cells hm
  have hl := hr.len
  have hl' := hr'.len
  have fin : ∀ v' w', w'.ownsRow w.heap.size 5 1 v' (n + m) (xs.map B ++ ys.map B) → w.grownBy w' none → Own w' w.heap.size 5 v' (xs ++ ys) ∧ Below w.heap.size w w' := by
    intro v' w' h1 h2
    refine ⟨?_, (Below.refl _ _).grown h2 (Nat.le_refl _) (fun k hk => by cases hk)⟩
    unfold Own
    rw [List.length_append, hl, hl', List.map_append]
    exact h1
  cases A with
  | none =>
    have h0 : n = 0 := by
      rcases Nat.eq_zero_or_pos n with h0 | h0
      · exact h0
      · obtain ⟨_, _, e, _⟩ := hr.cells h0
        cases e
    subst h0
    obtain rfl : xs = [] := List.eq_nil_of_length_eq_zero hl
    obtain ⟨v', w', hrun, r1, r2, _⟩ := run_append_own (P := Tryd.prog) w w.heap.size 22 ty 5 i (.int .u8 0) 1 1 Tryd.underlying22 hi hz hs1 hby rfl (by omega) (.slice none 0 0) 0 [] (World.ownsRow_nil w _ 5 1) ⟨g', o', none⟩ m c' (ys.map B) (by simp [hl']) hr'.src (B_one ys) (by unfold maxLen; omega) (by omega) (Nat.le_refl _)
    exact ⟨v', w', hrun, fin v' w' r1 r2⟩
  | some b =>
    obtain ⟨v', w', hrun, r1, r2⟩ := run_append_arg_grows (P := Tryd.prog) w 22 ty 5 i (.int .u8 0) 1 1 Tryd.underlying22 hi hz hs1 hby rfl (by omega) b n n (xs.map B) (by simp [hl]) (fun j u hu => by
      rcases Nat.eq_zero_or_pos n with h0 | h0
      · subst h0
        obtain rfl : xs = [] := List.eq_nil_of_length_eq_zero hl
        simp at hu
      · obtain ⟨g, o2, e, _, _⟩ := hr.cells h0
        injection e with e
        subst e
        exact hr.src j u hu) ⟨g', o', none⟩ m c' (ys.map B) (by simp [hl']) hr'.src (by omega) (by unfold maxLen; omega) (by omega)
    exact ⟨v', w', hrun, fin v' w' r1 r2⟩

theorem op_append {o : Oper} {a : Act} {w w' : World} {K : Act → World → Prop} {Q : Exit → Act → World → Prop} (s x : Operand) (hop : o.op = Op.call { callee := Callee.builtin Builtin.append, args := #[s, x], argTypes := #[22, 22] })
    (v1 v2 v' : Value) (hs : a.eval s = v1) (hx : a.eval x = v2) (hrun : (Builtin.append_ #[22, 22] o.type #[v1, v2]).run Tryd.prog w = .ok v' w') (h : K (a.put o.dst v') w') : o.wp Tryd.prog a w K Q := by
  unfold Oper.wp
  simp [execOp, hop, resolve, invoke, builtin, hs, hx, hrun, Result.andThen]
  exact h

theorem wpList_appG (w : World) {ops : Array Oper} {rest : List Oper} {o : Oper} {a : Act} {Q : Exit → Act → World → Prop}
    (hg : o.guard = none) (s x : Operand) (hop : o.op = Op.call { callee := Callee.builtin Builtin.append, args := #[s, x], argTypes := #[22, 22] })
    (A : Option Addr) (n : Nat) (xs : List UInt8) (hs : a.eval s = .slice A n n) (hr : Rd w A n n xs)
    (A' : Option Addr) (m c' : Nat) (ys : List UInt8) (hx : a.eval x = .slice A' m c') (hr' : Rd w A' m c' ys) (hm : 0 < m) (hsz : n + m ≤ 70368744177664)
    (hK : ∀ v' w', Own w' w.heap.size 5 v' (xs ++ ys) → Below w.heap.size w w' → wpList Tryd.prog ops Q rest (a.put o.dst v') w') :
    wpList Tryd.prog ops Q (o :: rest) a w := by
  obtain ⟨i, hi, hz, hs1, hby⟩ := info_parts u8_info
  obtain ⟨g', o', rfl, _, _⟩ := hr'.cells hm
  have hl := hr.len
  have hl' := hr'.len
  refine wpList_append_grows (P := Tryd.prog) w hg s x 22 hop 5 i (.int .u8 0) 1 1 Tryd.underlying22 hi hz hs1 hby rfl (by omega) A n n (xs.map B) hs (fun hA => ?_) (by simp [hl]) (fun b hb j u hu => ?_) ⟨g', o', none⟩ m c' (ys.map B) hx (by simp [hl']) (hr'.src) (B_one ys) (by omega) (by unfold maxLen; omega) (by omega) (fun v' w' h1 h2 => hK v' w' ?_ ?_)
  · rcases Nat.eq_zero_or_pos n with h0 | h0
    · exact ⟨h0, h0⟩
    · obtain ⟨_, _, e, _⟩ := hr.cells h0
      rw [hA] at e; cases e
  · rcases Nat.eq_zero_or_pos n with h0 | h0
    · subst h0
      obtain rfl : xs = [] := List.eq_nil_of_length_eq_zero hl
      simp at hu
    · obtain ⟨g, o2, e, _, _⟩ := hr.cells h0
      subst e
      injection hb with hb
      subst hb
      exact hr.src j u hu
  · unfold Own
    rw [List.length_append, hl, hl', List.map_append]
    exact h1
  · exact (Below.refl _ _).grown h2 (Nat.le_refl _) (fun k hk => by cases hk)

theorem four_rd (w : World) (t : Nat) (x0 x1 x2 x3 : UInt8) (v0 v1 v2 v3 : Value) (h0 : v0 = B x0) (h1 : v1 = B x1) (h2 : v2 = B x2) (h3 : v3 = B x3) : Rd (w.alloc (.cells #[v0, v1, v2, v3] t)) (some ⟨w.heap.size, 0, none⟩) 4 4 [x0, x1, x2, x3] := by
  subst h0 h1 h2 h3
  exact (Blk.new w t [x0, x1, x2, x3]).all 4 (Nat.le_refl _)

def digT (s : St) (k : Nat) : List UInt8 := ((s.l.take k).map be4).flatten
theorem digT_all (s : St) : digT s 8 = digB s := by simp [digT, digB, St.l]
theorem digT_length (s : St) (k : Nat) (h : k ≤ 8) : (digT s k).length = 4 * k := by
  have : k = 0 ∨ k = 1 ∨ k = 2 ∨ k = 3 ∨ k = 4 ∨ k = 5 ∨ k = 6 ∨ k = 7 ∨ k = 8 := by omega
  rcases this with e | e | e | e | e | e | e | e | e <;> subst e <;> simp [digT, St.l, be4]
theorem digT_succ (s : St) (k : Nat) (h : k < 8) : digT s (k + 1) = digT s k ++ be4 (s.l.getD k 0) := by
  have : k = 0 ∨ k = 1 ∨ k = 2 ∨ k = 3 ∨ k = 4 ∨ k = 5 ∨ k = 6 ∨ k = 7 := by omega
  rcases this with e | e | e | e | e | e | e | e <;> subst e <;> simp [digT, St.l]
theorem byte_val (x d : Nat) : Value.int .u8 ((x : Int) / (d : Int) % 256) = B (UInt8.ofNat (x / d)) := by
  show _ = Value.int .u8 ((UInt8.ofNat (x / d)).toNat : Int)
  rw [UInt8.toNat_ofNat']
  rfl

set_option maxRecDepth 100000 in
set_option maxHeartbeats 4000000 in
theorem digest_any (s : St) (hs : s.ok) (A : Option Addr) (m c n : Nat) (rs : List UInt8) (w : World) (h : Rd w A m c rs) (hm : m < 64) (hn : n ≤ 1152921504606846975) (hL : Laid w) :
    Calls Tryd.prog 26 #[s.v, .slice A m c, .int .i64 n] w fun e w' => ∃ v, e = .returned v ∧ Own w' w.heap.size 5 v (digB (state s (rs ++ padB n))) ∧ Below w.heap.size w w' := by
  have hcap := h.cap
  have HL := Lib.hid hL
  obtain ⟨g, hg⟩ : ∃ g, w.heap.size = g := ⟨_, rfl⟩
  obtain ⟨W, hW⟩ : ∃ W, w.alloc (.cells #[U s.a, U s.b, U s.c, U s.d, U s.e, U s.f, U s.g, U s.h] 42) = W := ⟨_, rfl⟩
  have HBW : Hid (Below g w W ∧ W.heap[g]? = some (.cells s.cs 42 (0, 0)) ∧ W.heap.size = g + 1) := by
    rw [← hW, ← hg]
    exact ⟨(Below.refl _ _).alloc (Nat.le_refl _) _, heap_alloc_new w _, by simp⟩
  have HRd := Lib.hid (h.keep (w' := W) (by rw [hg]; exact HBW.out.1))
  have hsl : ∀ W, (Instr.slice 22 (.slice A m c) none (some (.int .i64 (m : Int))) (some (.int .i64 (m : Int)))).run Tryd.prog W = .ok (.slice A m m) W := fun W => slice_head A m c m m (by omega) (by omega) W
  have HP := Lib.hid (padding_any n hn W.drew)
  have HG := Lib.hid hg
  have HW := Lib.hid hW
  clear h hL hW
  rw [show s.v = .agg #[U s.a, U s.b, U s.c, U s.d, U s.e, U s.f, U s.g, U s.h] from rfl]
  go_enter Tryd.func26, Tryd.ntmps26
  go_wp2
  rw [HW.out]
  refine wp_region_held_drew (S := fun _ => True) (by kernel_rfl) (trivial) (fun hHeld => ?_)
  refine wpAnyH_take (i := 0) (oi := { dst := some 11, op := Op.move (Operand.tmp 1), type := 22, pos := "sha256.go:122", after := #[], guard := none }) (v := ?v0) rfl (by kernel_rfl) (by kernel_rfl) (by kernel_rfl) (fun _ _ _ h => h) (Or.inl ⟨by rfl, ?hy0⟩) hHeld ?_
  case hy0 => (intro w hSw; (try dsimp only at hSw); go_simp; first | done | with_reducible rfl)
  try simp only [Act.put, List.setIfInBounds_toArray, List.set_cons_zero, List.set_cons_succ]
  refine wpAnyH_take (i := 1) (oi := { dst := some 12, op := Op.move (Operand.tmp 1), type := 22, pos := "sha256.go:122", after := #[], guard := none }) (v := ?v1) rfl (by kernel_rfl) (by kernel_rfl) (by kernel_rfl) (fun _ _ _ h => h) (Or.inl ⟨by rfl, ?hy1⟩) hHeld ?_
  case hy1 => (intro w hSw; (try dsimp only at hSw); go_simp; first | done | with_reducible rfl)
  try simp only [Act.put, List.setIfInBounds_toArray, List.set_cons_zero, List.set_cons_succ]
  refine wpAnyH_take (i := 2) (oi := { dst := some 13, op := Op.call { callee := Callee.builtin Builtin.len, args := #[Operand.tmp 12], argTypes := #[22] }, type := 3, pos := "sha256.go:122", after := #[{ on := 1, ground := Ground.data }], guard := none }) (v := ?v2) rfl (by kernel_rfl) (by kernel_rfl) (by kernel_rfl) (fun _ _ _ h => h) (Or.inl ⟨by rfl, ?hy2⟩) hHeld ?_
  case hy2 => (intro w hSw; (try dsimp only at hSw); go_simp; first | done | with_reducible rfl)
  try simp only [Act.put, List.setIfInBounds_toArray, List.set_cons_zero, List.set_cons_succ]
  refine wpAnyH_take (i := 3) (oi := { dst := some 14, op := Op.move (Operand.tmp 1), type := 22, pos := "sha256.go:122", after := #[], guard := none }) (v := ?v3) rfl (by kernel_rfl) (by kernel_rfl) (by kernel_rfl) (fun _ _ _ h => h) (Or.inl ⟨by rfl, ?hy3⟩) hHeld ?_
  case hy3 => (intro w hSw; (try dsimp only at hSw); go_simp; first | done | with_reducible rfl)
  try simp only [Act.put, List.setIfInBounds_toArray, List.set_cons_zero, List.set_cons_succ]
  refine wpAnyH_take (i := 4) (oi := { dst := some 15, op := Op.call { callee := Callee.builtin Builtin.len, args := #[Operand.tmp 14], argTypes := #[22] }, type := 3, pos := "sha256.go:122", after := #[{ on := 3, ground := Ground.data }], guard := none }) (v := ?v4) rfl (by kernel_rfl) (by kernel_rfl) (by kernel_rfl) (fun _ _ _ h => h) (Or.inl ⟨by rfl, ?hy4⟩) hHeld ?_
  case hy4 => (intro w hSw; (try dsimp only at hSw); go_simp; first | done | with_reducible rfl)
  try simp only [Act.put, List.setIfInBounds_toArray, List.set_cons_zero, List.set_cons_succ]
  refine wpAnyH_take (i := 5) (oi := { dst := some 16, op := Op.slice 22 (Operand.tmp 11) none (some (Operand.tmp 13)) (some (Operand.tmp 15)), type := 22, pos := "sha256.go:122", after := #[{ on := 0, ground := Ground.data }, { on := 2, ground := Ground.data }, { on := 4, ground := Ground.data }], guard := none }) (v := ?v5) rfl (by kernel_rfl) (by kernel_rfl) (by kernel_rfl) (fun _ _ _ h => h) (Or.inl ⟨by rfl, ?hy5⟩) hHeld ?_
  case hy5 => (intro w hSw; (try dsimp only at hSw); go_simp; first | done | with_reducible rfl)
  try simp only [Act.put, List.setIfInBounds_toArray, List.set_cons_zero, List.set_cons_succ]
  refine wpAnyH_take (i := 6) (oi := { dst := some 17, op := Op.move (Operand.tmp 2), type := 3, pos := "sha256.go:122", after := #[], guard := none }) (v := ?v6) rfl (by kernel_rfl) (by kernel_rfl) (by kernel_rfl) (fun _ _ _ h => h) (Or.inl ⟨by rfl, ?hy6⟩) hHeld ?_
  case hy6 => (intro w hSw; (try dsimp only at hSw); go_simp; first | done | with_reducible rfl)
  try simp only [Act.put, List.setIfInBounds_toArray, List.set_cons_zero, List.set_cons_succ]
  refine wpAnyH_ready (rs := [7]) (by kernel_rfl) (by simp) ?_
  refine AllReadyH.cons (o := { dst := some 18, op := Op.call { callee := Callee.value (Operand.func 34), args := #[Operand.tmp 17], argTypes := #[3] }, type := 22, pos := "sha256.go:122", after := #[{ on := 6, ground := Ground.data }], guard := none }) rfl (fun K hK => ?_) AllReadyH.nil
  go_simp
  refine HP.out.mono ?_
  rintro e w1 ⟨v1, rfl, ho1, hb1⟩
  obtain ⟨A1, c1, rfl, hr1⟩ := ho1.slice (9 + noughts n) (padB_length n)
  obtain ⟨L, hLL⟩ : ∃ L, 9 + noughts n = L := ⟨_, rfl⟩
  rw [hLL] at hr1 ⊢
  have hL9 : 9 ≤ L ∧ L < 73 := by rw [← hLL]; unfold noughts; omega
  have hb1' : Below W.heap.size W w1 := below_of_drew hb1
  have hsz1 : g + 1 ≤ w1.heap.size := by have := hb1'.size; rw [HBW.out.2.2] at this; exact this
  have hrA : Rd w1 A m m rs := (HRd.out.keep hb1').capped m (Nat.le_refl _)
  obtain ⟨v2, w2, hrun2, ho2, hb2⟩ := run_appG w1 22 A m rs hrA A1 L c1 (padB n) hr1 (by omega) (by omega)
  go_wp2_with fail
  refine hK.out _ _ (trivial) (fun hHeld => ?_)
  clear hK K
  try simp only [Act.put, List.setIfInBounds_toArray, List.set_cons_zero, List.set_cons_succ]
  refine wpAnyH_ready (rs := [8]) (by kernel_rfl) (by simp) ?_
  refine AllReadyH.cons (o := { dst := some 19, op := Op.call { callee := Callee.builtin Builtin.append, args := #[Operand.tmp 16, Operand.tmp 18], argTypes := #[22, 22] }, type := 22, pos := "sha256.go:122", after := #[{ on := 5, ground := Ground.data }, { on := 7, ground := Ground.data }, { on := 7, ground := Ground.chain }], guard := none }) rfl (fun K hK => ?_) AllReadyH.nil
  refine op_append (.tmp 16) (.tmp 18) rfl (.slice A m m) (.slice A1 L c1) v2 rfl rfl hrun2 ?_
  refine hK.out _ _ (trivial) (fun hHeld => ?_)
  clear hK K
  try simp only [Act.put, List.setIfInBounds_toArray, List.set_cons_zero, List.set_cons_succ]
  refine wpAnyH_ready (rs := [9]) (by kernel_rfl) (by simp) ?_
  refine AllReadyH.cons (o := { dst := some 7, op := Op.assign (Operand.tmp 19), type := 22, pos := "sha256.go:122", after := #[{ on := 8, ground := Ground.data }, { on := 8, ground := Ground.chain }, { on := 0, ground := Ground.phase }, { on := 1, ground := Ground.phase }, { on := 2, ground := Ground.phase }, { on := 3, ground := Ground.phase }, { on := 4, ground := Ground.phase }, { on := 5, ground := Ground.phase }, { on := 6, ground := Ground.phase }, { on := 7, ground := Ground.phase }, { on := 8, ground := Ground.phase }], guard := none }) rfl (fun K hK => ?_) AllReadyH.nil
  go_simp
  refine hK.out _ _ (trivial) (fun hHeld => ?_)
  clear hK K
  try simp only [Act.put, List.setIfInBounds_toArray, List.set_cons_zero, List.set_cons_succ]
  refine wpAnyH_done (by kernel_rfl) ?_ _
  have hlall : (rs ++ padB n).length = m + L := by rw [List.length_append, hrA.len, padB_length, hLL]
  obtain ⟨A2, c2, rfl, hr2⟩ := ho2.slice (m + L) hlall
  have hrow2 : w2.heap[g]? = some (.cells s.cs 42 (0, 0)) := (hb2.block g (by omega)).trans ((hb1'.block g (by rw [HBW.out.2.2]; omega)).trans HBW.out.2.1)
  have hbw2 : Below g w w2 := (HBW.out.1.trans (hb1'.mono (by rw [HBW.out.2.2]; omega))).trans (hb2.mono (by omega))
  have hsz2 : g + 1 ≤ w2.heap.size := by have := hb2.size; omega
  have hld2 := load51 w2 g 42 s hrow2
  have HMB := Lib.hid (mixBlocks_any s hs A2 (m + L) c2 (rs ++ padB n) w2 hr2 (by omega) (HL.out.keep (by rw [HG.out]; exact hbw2)))
  rw [show s.v = .agg s.cs from rfl] at HMB
  obtain ⟨cs, hcs⟩ : ∃ cs : Array Value, s.cs = cs := ⟨_, rfl⟩
  rw [hcs] at hld2 HMB
  have HB2 := Lib.hid (And.intro hbw2 hrow2)
  clear hcs hr2 hrow2 hbw2 ho2 hb2 hr1 hb1 hb1' ho1 hrA hsl HP HRd HBW
  go_wp2_with ((with_reducible refine wl_loadRow (ty := 42) (x := .tmp 3) (g := g) (v := .agg cs) ?hx hld2 ?_); (case hx => rfl))
  refine HMB.out.mono ?_
  rintro e w3 ⟨A3, rfl, hr3, hb3⟩
  have hrow3 := (hb3.block g (by omega)).trans HB2.out.2
  have hbw3 : Below g w w3 := HB2.out.1.trans (hb3.mono (by omega))
  have hsz3 : g + 1 ≤ w3.heap.size := by have := hb3.size; omega
  obtain ⟨P, hP⟩ : ∃ P, state s (rs ++ padB n) = P := ⟨_, rfl⟩
  rw [hP]
  have hst := stC (P := Tryd.prog) w3 g 42 8 P.cs _ hrow3 rfl rfl (cs_one P)
  have hld3 := load51 (w3.setRow g P.cs) g 42 P (setRow_heap w3 g _ _ 42 _ hrow3)
  obtain ⟨Y, hY⟩ : ∃ Y, w3.setRow g P.cs = Y := ⟨_, rfl⟩
  have hbY : Below g w Y := by rw [← hY]; exact below_row hbw3 (Nat.le_refl _) (by omega) _
  have hszY : g + 1 ≤ Y.heap.size := by rw [← hY]; simp; omega
  have hrowY : Y.heap[g]? = some (.cells P.cs 42 (0, 0)) := by rw [← hY]; exact setRow_heap w3 g _ _ 42 _ hrow3
  rw [hY] at hst hld3
  rw [show P.v = .agg P.cs from rfl]
  have hmk : (Instr.makeSlice 22 (.int .i64 0) (.int .i64 32)).run Tryd.prog Y = .ok (.slice (some ⟨Y.heap.size, 0, none⟩) 0 32) (Y.alloc (rowObj 5 (zeros 32))) := make_cap 0 32 (by omega) (by omega) Y
  obtain ⟨Z, hZ⟩ : ∃ Z, Y.alloc (rowObj 5 (zeros 32)) = Z := ⟨_, rfl⟩
  have hld4 : (loadVar 42 ⟨g, 0, none⟩).run Tryd.prog Z = .ok (.agg P.cs) Z := by
    rw [← hZ]
    exact load51 _ g 42 P ((((Below.refl Y.heap.size Y).alloc (Nat.le_refl _) _).block g (by omega)).trans hrowY)
  have HOZ : Hid (Own Z g 5 (.slice (some ⟨Y.heap.size, 0, none⟩) 0 32) (digT P 0) ∧ Below g w Z) := by
    rw [← hZ]
    refine ⟨?_, hbY.alloc (by omega) _⟩
    have h1 := own_of_blk (k := 0) (Blk.new Y 5 (zeros 32)) (c := 32) (zeros_length 32) (by omega) (by omega)
    exact ⟨h1.1, by
      rcases h1.2 with h0 | ⟨g', cap, cur, e1, e2, e3⟩
      · exact .inl h0
      · exact .inr ⟨g', cap, cur, e1, by omega, e3⟩⟩
  rw [hZ] at hmk
  obtain ⟨q, hq⟩ : ∃ q, Y.heap.size = q := ⟨_, rfl⟩
  rw [hq] at hmk HOZ
  have HIX2 : Hid (∀ (k : Nat), k < 8 → ∀ w, (Instr.index 42 (.agg P.cs) (.int .i64 (k : Int))).run Tryd.prog w = .ok (U (P.l.getD k 0)) w) :=
    fun k hk w => index_u32 42 8 Tryd.underlying42 P.l k hk rfl w
  have HPok : Hid (∀ k, P.l.getD k 0 < 4294967296) := fun k => lt8 P (by rw [← hP]; exact state_ok _ hs) k
  have HPP := Lib.hid hP
  have hz8 : P.cs.size = 8 := rfl
  obtain ⟨cs2, hcs2⟩ : ∃ cs : Array Value, P.cs = cs := ⟨_, rfl⟩
  rw [hcs2] at hst hld3 hld4 HIX2 hz8 ⊢
  clear hP hY hZ hq hr3 hb3 hrow3 hbw3 hbY hrowY HMB HB2 hcs2 hlall hld2 hld3
  go_wp2_with ((with_reducible refine wl_loadRow (ty := 42) (x := .tmp 3) (g := g) (v := .agg cs2) ?hx hld4 ?_); (case hx => rfl))
  have hgw : g ≤ w.heap.size := by omega
  go_loopw [8, 28] (fun v i wr => ∃ k : Nat, k ≤ 8 ∧ i = .int .i64 k ∧ Own wr g 5 v (digT P k) ∧ Below g w wr) (fun _ i _ => 8 - (intOf i).toNat)
  case atStart => exact ⟨0, Nat.zero_le _, rfl, HOZ.out.1, HOZ.out.2⟩
  case round =>
    obtain ⟨k, hk, rfl, hO, hB⟩ := hrel
    by_cases hlt : k < 8
    · have hi2 := HIX2.out k hlt
      have hxM := HPok.out k
      have HDS := Lib.hid (digT_succ P k hlt)
      obtain ⟨x, hx⟩ : ∃ x, P.l.getD k 0 = x := ⟨_, rfl⟩
      rw [hx] at hi2 hxM HDS
      have h0 : Value.int .u8 ((x : Int) / 16777216) = B (UInt8.ofNat (x / 16777216)) := by
        rw [← byte_val x 16777216, show (x : Int) / ((16777216 : Nat) : Int) % 256 = (x : Int) / 16777216 by omega]
      have h1 : Value.int .u8 ((x : Int) / 65536 % 256) = B (UInt8.ofNat (x / 65536)) := byte_val x 65536
      have h2 : Value.int .u8 ((x : Int) / 256 % 256) = B (UInt8.ofNat (x / 256)) := byte_val x 256
      have h3 : Value.int .u8 ((x : Int) % 256) = B (UInt8.ofNat x) := by
        show _ = Value.int .u8 ((UInt8.ofNat x).toNat : Int)
        rw [UInt8.toNat_ofNat']
        rfl
      have HV := Lib.hid (And.intro h0 (And.intro h1 (And.intro h2 h3)))
      have hlen : (digT P k).length + 4 ≤ 70368744177664 := by rw [digT_length P k hk]; omega
      have hsz : g ≤ wr.heap.size + 1 := by have := hB.size; omega
      clear hx h0 h1 h2 h3
      go_wp2_with (at_builtin; go_loud (refine wpList_app _ rfl (.tmp 31) (.tmp 43) _ rfl g 5 Tryd.underlying22 u8_info u8 (digT P k) rfl (hO.alloc _) _ 4 4 [UInt8.ofNat (x / 16777216), UInt8.ofNat (x / 65536), UInt8.ofNat (x / 256), UInt8.ofNat x] rfl (four_rd _ _ _ _ _ _ _ _ _ _ HV.out.1 HV.out.2.1 HV.out.2.2.1 HV.out.2.2.2) hlen (by simpa using hsz) ?_); intro v1 w1 ho1 hb1)
      go_roundw
      case rel =>
        refine ⟨k + 1, by omega, by go_num, ?_, (hB.alloc (by have := hB.size; omega) _).trans hb1⟩
        rw [HDS.out]
        exact ho1
      case measure => simp [intOf]; omega
    · obtain rfl : k = 8 := by omega
      have HO2 := Lib.hid hO
      clear hO
      go_wp2
      go_ret
      refine ⟨_, rfl, ?_, by rw [HG.out]; exact hB⟩
      have := HO2.out
      rw [digT_all] at this
      rw [HPP.out, HG.out]
      exact this
end Go.Proofs.YtmimffbjghhdhaaDoor
