/-
  The statement 'Sha256Steps' (chandlerylaw03), as its tied card, holds at every input: the call returns true and leaves its arguments as they were. Conditions: none beyond the row's own: the two package-level tables start as the program's text lays them (the card ties them).
-/
import Derived.Test.YtnoldhedocejbaaDoorCard
import Derived.Test.YtnoldhedocejbaaDoorS13
import Derived.Deep.RegionHeld3
namespace Go.Proofs.YtnoldhedocejbaaDoor.sha256Steps
open Go.ChangeShapes Go.WideShapes Go.ChangeAt Go.RowKit Go.Bs Go.Sha
open Go.ChangeMaps (open_string shut_string)
set_option linter.unusedVariables false

theorem laidOut : laidOutB Tryd.prog = true := by kernel_rfl
def IsRow (k : IntKind) (w : World) (a : Option Addr) (len cap : Nat) (zs : List Int) : Prop :=
  (a = none ∧ len = 0 ∧ cap = 0 ∧ zs = []) ∨
  ∃ x, a = some x ∧ len ≤ cap ∧ cap ≤ maxLen ∧ zs.length = cap ∧ (∀ i, i < zs.length → w.cell? (x.add i) = some (.int k (zs.getD i 0))) ∧ ∀ n ∈ zs, (Lit.int k n).wf = true

theorem cell_ns {w : World} {g t : Nat} {s : St} (h : w.heap[g]? = some (.cells s.ns t (0, 0))) (k : Nat) (hk : k < 8) : w.cell? ⟨g, k, none⟩ = some (.int .i64 ((s.l.getD k 0 : Nat) : Int)) := by
  rw [cell_of_row w g k _ t (0, 0) h]
  have : k = 0 ∨ k = 1 ∨ k = 2 ∨ k = 3 ∨ k = 4 ∨ k = 5 ∨ k = 6 ∨ k = 7 := by omega
  rcases this with e | e | e | e | e | e | e | e <;> subst e <;> rfl

theorem Mix_n (S : St) (hS : S.ok) (A : Option Addr) (c : Nat) (bs : List UInt8) (w : World) (h : Rd w A 64 c bs) (hc : c ≤ 9223372036854775807) (hL : Laid w) :
    Calls Tryd.prog 11 #[.agg S.ns, .slice A 64 c] w fun e w' => e = .returned (.tuple #[.agg (mixS S bs).ns, .int .i64 0]) ∧ Below w.heap.size w w' := by
  refine (Mix_any S.a S.b S.c S.d S.e S.f S.g S.h A 64 c bs w h hc hL).mono ?_
  rintro e w' ⟨hb, hr⟩
  have hok : ∀ z ∈ [(S.a : Int), S.b, S.c, S.d, S.e, S.f, S.g, S.h], okI z := by
    obtain ⟨h1, h2, h3, h4, h5, h6, h7, h8⟩ := hS
    intro z hz
    simp only [List.mem_cons, List.not_mem_nil, or_false] at hz
    unfold okI
    rcases hz with rfl | rfl | rfl | rfl | rfl | rfl | rfl | rfl <;> omega
  rcases hr with ⟨_, _, rfl⟩ | ⟨hn, _⟩
  · exact ⟨rfl, hb⟩
  · exact absurd ⟨rfl, hok⟩ hn

theorem Start_n (w : World) (hL : Laid w) : Calls Tryd.prog 12 #[] w fun e w' => e = .returned (.agg Sha.start.ns) ∧ Below w.heap.size w w' := Start_any w hL

set_option maxRecDepth 100000 in
set_option maxHeartbeats 4000000 in
theorem walkIn (A : Option Addr) (n c : Nat) (bs : List UInt8) (w : World) (h : Rd w A n c bs) (hn : n ≤ 2000) (hL : Laid w) :
    Calls Tryd.prog 6 #[.slice A n c] w fun e w' => e = .returned (.bool true) ∧ Below w.heap.size w w' := by
  have HP : Hid (Calls Tryd.prog 8 #[.int .i64 (n : Int)] w fun e w' => ∃ v, e = .returned (.tuple #[v, .int .i64 0]) ∧ Own w' w.heap.size 5 v (padB n) ∧ Below w.heap.size w w') := by
    refine (Pad_any n (by omega) w).mono ?_
    rintro e w' (⟨h1, _⟩ | ⟨_, _, v, rfl, ho, hb⟩)
    · omega
    · exact ⟨v, rfl, ho, hb⟩
  have HR := Lib.hid h
  have HLEN := Lib.hid h.len
  have HL := Lib.hid hL
  clear h hL
  go_enter Tryd.func6, Tryd.ntmps6
  go_wp2_with fail
  refine HP.out.mono ?_
  rintro e w1 ⟨v1, rfl, ho1, hb1⟩
  obtain ⟨L, hLL⟩ : ∃ L, (padB n).length = L := ⟨_, rfl⟩
  obtain ⟨A1, c1, rfl, hr1⟩ := ho1.slice L hLL
  have hLm : (n + L) % 64 = 0 := by rw [← hLL]; exact pad_mod n
  have hL73 : 9 ≤ L ∧ L < 73 := by rw [← hLL, padB_length]; unfold noughts; omega
  have HBO := Lib.hid (Both_own A n c A1 L c1 bs (padB n) w1 (HR.out.keep hb1) hr1 (by omega) (by omega))
  have HB1 := Lib.hid hb1
  clear ho1 hr1 hb1 HP
  go_wp2_with fail
  refine HBO.out.mono ?_
  rintro e w2 ⟨v2, rfl, ho2, hb2⟩
  obtain ⟨all, hall⟩ : ∃ all, bs ++ padB n = all := ⟨_, rfl⟩
  rw [hall] at ho2
  have hNl : all.length = n + L := by rw [← hall, List.length_append, HLEN.out, hLL]
  obtain ⟨A2, c2, rfl, hr2, hc2⟩ := own_slice ho2 (n + L) hNl
  obtain ⟨K, hK⟩ : ∃ K, n + L = 64 * K := ⟨(n + L) / 64, by omega⟩
  rw [hK] at hr2 ⊢
  have hb2w : Below w.heap.size w w2 := HB1.out.trans (hb2.mono HB1.out.size)
  have HS := Lib.hid (Start_n w2 (HL.out.keep hb2w))
  have hK40 : K ≤ 40 := by omega
  have hmod : ((((64 * K : Nat) : Int)) % 64 != 0) = false := by rw [bne_eq_false_iff_eq]; omega
  have HB2 := Lib.hid hb2w
  have HALL := Lib.hid hall
  obtain ⟨ga, oa, rfl, hga, _⟩ := hr2.cells (by omega)
  have hcap2 := hr2.cap
  have HR2 := Lib.hid hr2
  clear ho2 hb2 hb2w hall hr2 HBO
  go_wp2_with fail
  refine HS.out.mono ?_
  rintro e w3 ⟨rfl, hb3⟩
  obtain ⟨gs, hgs⟩ : ∃ gs, w3.heap.size = gs := ⟨_, rfl⟩
  obtain ⟨W4, hW4⟩ : ∃ W4, w3.alloc (.cells Z8i 29) = W4 := ⟨_, rfl⟩
  have hrow4 : W4.heap[gs]? = some (.cells Z8i 29 (0, 0)) := by rw [← hW4, ← hgs]; exact heap_alloc_new w3 _
  have hst := stC (P := Tryd.prog) W4 gs 29 8 Sha.start.ns _ hrow4 rfl rfl (ns_one _)
  obtain ⟨Y, hY⟩ : ∃ Y, W4.setRow gs Sha.start.ns = Y := ⟨_, rfl⟩
  have hb4 : Below w3.heap.size w3 W4 := by rw [← hW4]; exact (Below.refl _ _).alloc (Nat.le_refl _) _
  have hbY3 : Below w3.heap.size w3 Y := by rw [← hY, ← hgs]; exact below_row hb4 (Nat.le_refl _) (by have := hb4.size; omega) _
  have HY : Hid (Below w2.heap.size w2 Y ∧ Y.heap[gs]? = some (.cells (blocks 0 Sha.start all).ns 29 (0, 0)) ∧ w2.heap.size ≤ gs ∧ gs < Y.heap.size) := by
    refine ⟨hb3.trans (hbY3.mono hb3.size), ?_, by have := hb3.size; omega, ?_⟩
    · rw [← hY]; exact setRow_heap W4 gs _ _ 29 _ hrow4
    · have := hbY3.size
      rw [← hY, ← hW4, ← hgs]; simp
  rw [hY] at hst
  obtain ⟨ns, hns⟩ : ∃ cs : Array Value, Sha.start.ns = cs := ⟨_, rfl⟩
  have hz : ns.size = 8 := by rw [← hns]; rfl
  rw [hns] at hst ⊢
  clear hns hY hrow4 hb3 hb4 hbY3 HS
  go_wp2
  clear hst hz hW4 hgs
  go_loopw [7] (fun i wr => ∃ k : Nat, k ≤ K ∧ i = .int .i64 ((64 * k : Nat) : Int) ∧ Below w2.heap.size w2 wr ∧ wr.heap[gs]? = some (.cells (blocks k Sha.start all).ns 29 (0, 0)) ∧ gs < wr.heap.size) (fun i _ => 3000 - (intOf i).toNat)
  case atStart => exact ⟨0, Nat.zero_le _, rfl, HY.out.1, HY.out.2.1, HY.out.2.2.2⟩
  case round =>
    obtain ⟨k, hk, rfl, hB, hR, hgl⟩ := hrel
    have hgs2 := HY.out.2.2.1
    by_cases hlt : k < K
    · obtain ⟨S, hS⟩ : ∃ S, blocks k Sha.start all = S := ⟨_, rfl⟩
      have hSok : S.ok := by rw [← hS]; exact blocks_ok _ _ start_ok
      rw [hS] at hR
      obtain ⟨i0, hi0⟩ : ∃ i0, 64 * k = i0 := ⟨_, rfl⟩
      obtain ⟨j1, hj1⟩ : ∃ j1, i0 + 64 = j1 := ⟨_, rfl⟩
      have hl1 : (i0 : Int) < (64 * K : Int) := by omega
      have q1 : IntKind.i64.wrap ((i0 : Int) + 64) = (j1 : Int) := by rw [IntWalk.i64_in _ (by omega)]; omega
      have hsl := slice_mid ga oa (64 * K) c2 i0 j1 (by omega) (by omega) (by omega)
      rw [show j1 - i0 = 64 by omega] at hsl
      have hld := loadA29 wr gs 29 S hR
      have hblk : Rd w2 (some ⟨ga, oa + i0, none⟩) 64 (c2 - i0) ((all.drop (64 * k)).take 64) := by rw [← hi0]; exact HR2.out.part (64 * k) 64 (c2 - 64 * k) (by omega) (by omega)
      have HBLK := Lib.hid hblk
      have HNX : Hid (blocks (k + 1) Sha.start all = mixS S ((all.drop (64 * k)).take 64)) := by rw [← hS]; exact blocks_succ k _ _
      have HBB := Lib.hid hB
      have HRR := Lib.hid hR
      clear hB hR hblk hS
      rw [hi0]
      have HI0 := Lib.hid hi0
      clear hi0
      go_wp2
      refine wp_region_held_drew (S := fun W => W.heap[gs]? = some (.cells S.ns 29 (0, 0))) (by kernel_rfl) HRR.out (fun hHeld => ?_)
      refine wpAnyH_take (i := 0) (oi := { dst := some 41, op := Op.load 29 (Operand.tmp 6), type := 29, pos := "law.go:65", after := #[], guard := none }) (v := .agg S.ns) rfl (by kernel_rfl) (by kernel_rfl) (by kernel_rfl) (fun _ _ _ h => h) (Or.inl ⟨by rfl, ?hy0⟩) hHeld ?_
      case hy0 => (intro w hSw; have hh := loadA29 w gs 29 S hSw; simp [execOp, Act.eval, hh])
      try simp only [Act.put, List.setIfInBounds_toArray, List.set_cons_zero, List.set_cons_succ]
      refine wpAnyH_take (i := 1) (oi := { dst := some 42, op := Op.move (Operand.tmp 5), type := 22, pos := "law.go:65", after := #[], guard := none }) (v := ?v1) rfl (by kernel_rfl) (by kernel_rfl) (by kernel_rfl) (fun _ _ _ h => h) (Or.inl ⟨by rfl, ?hy1⟩) hHeld ?_
      case hy1 => (intro w hSw; (try dsimp only at hSw); go_simp; first | done | with_reducible rfl)
      try simp only [Act.put, List.setIfInBounds_toArray, List.set_cons_zero, List.set_cons_succ]
      refine wpAnyH_take (i := 2) (oi := { dst := some 43, op := Op.move (Operand.tmp 7), type := 3, pos := "law.go:65", after := #[], guard := none }) (v := ?v2) rfl (by kernel_rfl) (by kernel_rfl) (by kernel_rfl) (fun _ _ _ h => h) (Or.inl ⟨by rfl, ?hy2⟩) hHeld ?_
      case hy2 => (intro w hSw; (try dsimp only at hSw); go_simp; first | done | with_reducible rfl)
      try simp only [Act.put, List.setIfInBounds_toArray, List.set_cons_zero, List.set_cons_succ]
      refine wpAnyH_take (i := 3) (oi := { dst := some 44, op := Op.move (Operand.tmp 7), type := 3, pos := "law.go:65", after := #[], guard := none }) (v := ?v3) rfl (by kernel_rfl) (by kernel_rfl) (by kernel_rfl) (fun _ _ _ h => h) (Or.inl ⟨by rfl, ?hy3⟩) hHeld ?_
      case hy3 => (intro w hSw; (try dsimp only at hSw); go_simp; first | done | with_reducible rfl)
      try simp only [Act.put, List.setIfInBounds_toArray, List.set_cons_zero, List.set_cons_succ]
      refine wpAnyH_take (i := 4) (oi := { dst := some 45, op := Op.binOp BinOp.add 3 (Operand.tmp 44) (Operand.const (Value.int IntKind.i64 64)) 3, type := 3, pos := "law.go:65", after := #[{ on := 3, ground := Ground.data }], guard := none }) (v := ?v4) rfl (by kernel_rfl) (by kernel_rfl) (by kernel_rfl) (fun _ _ _ h => h) (Or.inl ⟨by rfl, ?hy4⟩) hHeld ?_
      case hy4 => (intro w hSw; (try dsimp only at hSw); go_simp; first | done | with_reducible rfl)
      try simp only [Act.put, List.setIfInBounds_toArray, List.set_cons_zero, List.set_cons_succ]
      refine wpAnyH_take (i := 5) (oi := { dst := some 46, op := Op.slice 22 (Operand.tmp 42) (some (Operand.tmp 43)) (some (Operand.tmp 45)) none, type := 22, pos := "law.go:65", after := #[{ on := 1, ground := Ground.data }, { on := 2, ground := Ground.data }, { on := 4, ground := Ground.data }], guard := none }) (v := ?v5) rfl (by kernel_rfl) (by kernel_rfl) (by kernel_rfl) (fun _ _ _ h => h) (Or.inl ⟨by rfl, ?hy5⟩) hHeld ?_
      case hy5 => (intro w hSw; (try dsimp only at hSw); go_simp; first | done | with_reducible rfl)
      try simp only [Act.put, List.setIfInBounds_toArray, List.set_cons_zero, List.set_cons_succ]
      refine wpAnyH_ready (rs := [6, 10]) (by kernel_rfl) (by simp) ?_
      refine AllReadyH.cons (o := { dst := some 47, op := Op.call { callee := Callee.value (Operand.func 11), args := #[Operand.tmp 41, Operand.tmp 46], argTypes := #[29, 22] }, type := 30, pos := "law.go:65", after := #[{ on := 0, ground := Ground.data }, { on := 5, ground := Ground.data }], guard := none }) rfl (fun K hK => ?_) (AllReadyH.cons (o := { dst := some 8, op := Op.alloc 29, type := 0, pos := "law.go:65", after := #[], guard := none }) rfl (fun K hK => ?_) AllReadyH.nil)
      · go_simp
        refine (Mix_n S hSok _ _ _ wr.drew ((HBLK.out.keep HBB.out).drew) (by omega) (HL.out.keep ((HB2.out.trans (HBB.out.mono HB2.out.size)).drew))).mono ?_
        rintro e w5 ⟨rfl, hb5⟩
        have hb5 := below_of_drew hb5
        obtain ⟨P, hP⟩ : ∃ P, mixS S ((all.drop (64 * k)).take 64) = P := ⟨_, rfl⟩
        have HP := Lib.hid hP
        rw [hP]
        obtain ⟨ns, hns⟩ : ∃ cs : Array Value, P.ns = cs := ⟨_, rfl⟩
        have HNS := Lib.hid hns
        have hzn : ns.size = 8 := by rw [← hns]; rfl
        have h1n : ns.all (·.oneCell') = true := by rw [← hns]; exact ns_one P
        rw [hns]
        have hR5 := (hb5.block gs hgl).trans HRR.out
        have hsz5 := hb5.size
        obtain ⟨gt, hgt⟩ : ∃ gt, w5.heap.size = gt := ⟨_, rfl⟩
        obtain ⟨W6, hW6⟩ : ∃ W6, w5.alloc (.cells Z8i 29) = W6 := ⟨_, rfl⟩
        have hrow6 : W6.heap[gt]? = some (.cells Z8i 29 (0, 0)) := by rw [← hW6, ← hgt]; exact heap_alloc_new w5 _
        have hb56 : Below w5.heap.size w5 W6 := by rw [← hW6]; exact (Below.refl _ _).alloc (Nat.le_refl _) _
        have hR6 := (hb56.block gs (by omega)).trans hR5
        have hsz6 : W6.heap.size = gt + 1 := by rw [← hW6, ← hgt]; simp
        have hst := stC (P := Tryd.prog) W6 gt 29 8 ns _ hrow6 hzn rfl h1n
        obtain ⟨W7, hW7⟩ : ∃ W7, W6.setRow gt ns = W7 := ⟨_, rfl⟩
        rw [hW7] at hst
        have hR7 : W7.heap[gs]? = some (.cells S.ns 29 (0, 0)) := by rw [← hW7]; exact (setRow_other W6 gt gs _ (by omega)).trans hR6
        have hrow7 : W7.heap[gt]? = some (.cells ns 29 (0, 0)) := by rw [← hW7]; exact setRow_heap W6 gt _ _ 29 _ hrow6
        have hsz7 : W7.heap.size = gt + 1 := by rw [← hW7]; simpa using hsz6
        have hlt29 : (loadVar 29 ⟨gt, 0, none⟩).run Tryd.prog W7 = .ok (.agg ns) W7 := run_loadVar_row (P := Tryd.prog) W7 gt 29 29 ns (0, 0) _ hrow7 Tryd.underlying29 rfl (by rw [hzn]; kernel_rfl)
        have hst6 : (storeVar 29 ⟨gs, 0, none⟩ (.agg ns)).run Tryd.prog W7 = .ok () (W7.setRow gs ns) := run_storeVar_row (P := Tryd.prog) W7 gs 29 29 S.ns ns hR7 (by rw [hzn]; kernel_rfl) (by rw [hzn]; rfl) h1n
        obtain ⟨W8, hW8⟩ : ∃ W8, W7.setRow gs ns = W8 := ⟨_, rfl⟩
        rw [hW8] at hst6
        have hgs2' := hgs2
        have HX : Hid (Below w2.heap.size w2 W8 ∧ W8.heap[gs]? = some (.cells ns 29 (0, 0)) ∧ gs < W8.heap.size) := by
          have hbw5 : Below w2.heap.size w2 w5 := HBB.out.trans (hb5.mono HBB.out.size)
          have hbw6 : Below w2.heap.size w2 W6 := hbw5.trans (hb56.mono hbw5.size)
          have hbw7 : Below w2.heap.size w2 W7 := by rw [← hW7]; exact below_row hbw6 (by have := hbw5.size; omega) hbw6.size _
          refine ⟨?_, ?_, ?_⟩
          · rw [← hW8]; exact below_row hbw7 hgs2' hbw7.size _
          · rw [← hW8]; exact setRow_heap W7 gs _ _ 29 _ hR7
          · rw [← hW8]; simp; omega
        have hgt5 := hgt
        clear hns hP hb5 hb56 hrow6 hrow7 hsz6
        go_wp2_with fail
        refine hK.out _ _ hR5 (fun hHeld => ?_)
        clear hK K
        try simp only [Act.put, List.setIfInBounds_toArray, List.set_cons_zero, List.set_cons_succ]
        refine wpAnyH_take (i := 7) (oi := { dst := some 40, op := Op.move (Operand.tmp 47), type := 30, pos := "law.go:65", after := #[{ on := 6, ground := Ground.data }], guard := none }) (v := ?v7) rfl (by kernel_rfl) (by kernel_rfl) (by kernel_rfl) (fun _ _ _ h => h) (Or.inl ⟨by rfl, ?hy7⟩) hHeld ?_
        case hy7 => (intro w hSw; (try dsimp only at hSw); go_simp; first | done | with_reducible rfl)
        try simp only [Act.put, List.setIfInBounds_toArray, List.set_cons_zero, List.set_cons_succ]
        refine wpAnyH_take (i := 8) (oi := { dst := some 48, op := Op.extract (Operand.tmp 40) 0, type := 29, pos := "law.go:65", after := #[{ on := 7, ground := Ground.data }], guard := none }) (v := ?v8) rfl (by kernel_rfl) (by kernel_rfl) (by kernel_rfl) (fun _ _ _ h => h) (Or.inl ⟨by rfl, ?hy8⟩) hHeld ?_
        case hy8 => (intro w hSw; (try dsimp only at hSw); go_simp; first | done | with_reducible rfl)
        try simp only [Act.put, List.setIfInBounds_toArray, List.set_cons_zero, List.set_cons_succ]
        refine wpAnyH_take (i := 9) (oi := { dst := some 49, op := Op.extract (Operand.tmp 40) 1, type := 23, pos := "law.go:65", after := #[{ on := 7, ground := Ground.data }, { on := 11, ground := Ground.gcOnly Departure.lateStores }], guard := none }) (v := ?v9) rfl (by kernel_rfl) (by kernel_rfl) (by kernel_rfl) (fun _ _ _ h => h) (Or.inl ⟨by rfl, ?hy9⟩) hHeld ?_
        case hy9 => (intro w hSw; (try dsimp only at hSw); go_simp; first | done | with_reducible rfl)
        try simp only [Act.put, List.setIfInBounds_toArray, List.set_cons_zero, List.set_cons_succ]
        refine wpAnyH_ready (rs := [10]) (by kernel_rfl) (by simp) ?_
        refine AllReadyH.cons (o := { dst := some 8, op := Op.alloc 29, type := 0, pos := "law.go:65", after := #[], guard := none }) rfl (fun K hK => ?_) AllReadyH.nil
        go_simp
        skip
        refine hK.out _ _ hR6 (fun hHeld => ?_)
        clear hK K
        try simp only [Act.put, List.setIfInBounds_toArray, List.set_cons_zero, List.set_cons_succ]
        refine wpAnyH_ready (rs := [11]) (by kernel_rfl) (by simp) ?_
        refine AllReadyH.cons (o := { dst := none, op := Op.store 29 (Operand.tmp 8) (Operand.tmp 48), type := 0, pos := "law.go:65", after := #[{ on := 10, ground := Ground.data }, { on := 8, ground := Ground.data }, { on := 6, ground := Ground.chain }, { on := 0, ground := Ground.phase }, { on := 1, ground := Ground.phase }, { on := 2, ground := Ground.phase }, { on := 3, ground := Ground.phase }, { on := 4, ground := Ground.phase }, { on := 5, ground := Ground.phase }, { on := 6, ground := Ground.phase }, { on := 7, ground := Ground.phase }, { on := 8, ground := Ground.phase }, { on := 9, ground := Ground.textOnly Departure.lateStores }, { on := 10, ground := Ground.phase }], guard := none }) rfl (fun K hK => ?_) AllReadyH.nil
        go_simp
        refine hK.out _ _ hR7 (fun hHeld => ?_)
        clear hK K
        try simp only [Act.put, List.setIfInBounds_toArray, List.set_cons_zero, List.set_cons_succ]
        refine wpAnyH_ready (rs := [12]) (by kernel_rfl) (by simp) ?_
        refine AllReadyH.cons (o := { dst := some 9, op := Op.assign (Operand.tmp 49), type := 23, pos := "law.go:65", after := #[{ on := 9, ground := Ground.data }, { on := 11, ground := Ground.chain }, { on := 0, ground := Ground.phase }, { on := 1, ground := Ground.phase }, { on := 2, ground := Ground.phase }, { on := 3, ground := Ground.phase }, { on := 4, ground := Ground.phase }, { on := 5, ground := Ground.phase }, { on := 6, ground := Ground.phase }, { on := 7, ground := Ground.phase }, { on := 8, ground := Ground.phase }, { on := 9, ground := Ground.phase }, { on := 10, ground := Ground.phase }, { on := 11, ground := Ground.phase }], guard := none }) rfl (fun K hK => ?_) AllReadyH.nil
        go_simp
        refine hK.out _ _ hR7 (fun hHeld => ?_)
        clear hK K
        try simp only [Act.put, List.setIfInBounds_toArray, List.set_cons_zero, List.set_cons_succ]
        refine wpAnyH_done (by kernel_rfl) ?_ _
        go_wp2_with (first | ((with_reducible refine wl_loadRow (ty := 29) (x := .tmp 8) (g := gt) (v := .agg ns) ?hx hlt29 ?_); (case hx => rfl)) | ((with_reducible refine wl_storeRow (ty := 29) (x := .tmp 6) (y := .tmp 52) (v := .agg ns) ?hx ?hy hst6 ?_); (case hx => rfl); (case hy => rfl)))
        go_roundw
        case rel => exact ⟨k + 1, by omega, by have := HI0.out; congr 1; omega, HX.out.1, by rw [HNX.out, HP.out, HNS.out]; exact HX.out.2.1, HX.out.2.2⟩
        case measure => simp [intOf]; omega
      · obtain ⟨gt, hgt⟩ : ∃ gt, wr.heap.size = gt := ⟨_, rfl⟩
        obtain ⟨W6, hW6⟩ : ∃ W6, wr.drew.alloc (.cells Z8i 29) = W6 := ⟨_, rfl⟩
        have hrow6 : W6.heap[gt]? = some (.cells Z8i 29 (0, 0)) := by rw [← hW6, ← hgt]; exact heap_alloc_new wr.drew _
        have hb56 : Below wr.heap.size wr W6 := by rw [← hW6]; exact (Below.refl wr.heap.size wr).drew.alloc (Nat.le_refl _) _
        have hR6 := (hb56.block gs (by omega)).trans HRR.out
        have hsz6 : W6.heap.size = gt + 1 := by
          rw [← hW6, ← hgt]
          show (wr.heap.push _).size = wr.heap.size + 1
          simp
        have hbw6 : Below w2.heap.size w2 W6 := HBB.out.trans (hb56.mono HBB.out.size)
        go_simp
        refine hK.out _ _ hR6 (fun hHeld => ?_)
        clear hK K
        try simp only [Act.put, List.setIfInBounds_toArray, List.set_cons_zero, List.set_cons_succ]
        refine wpAnyH_ready (rs := [6]) (by kernel_rfl) (by simp) ?_
        refine AllReadyH.cons (o := { dst := some 47, op := Op.call { callee := Callee.value (Operand.func 11), args := #[Operand.tmp 41, Operand.tmp 46], argTypes := #[29, 22] }, type := 30, pos := "law.go:65", after := #[{ on := 0, ground := Ground.data }, { on := 5, ground := Ground.data }], guard := none }) rfl (fun K hK => ?_) AllReadyH.nil
        go_simp
        refine (Mix_n S hSok _ _ _ W6 (HBLK.out.keep hbw6) (by omega) (HL.out.keep (HB2.out.trans (hbw6.mono HB2.out.size)))).mono ?_
        rintro e w5 ⟨rfl, hb5⟩
        obtain ⟨P, hP⟩ : ∃ P, mixS S ((all.drop (64 * k)).take 64) = P := ⟨_, rfl⟩
        have HP := Lib.hid hP
        rw [hP]
        obtain ⟨ns, hns⟩ : ∃ cs : Array Value, P.ns = cs := ⟨_, rfl⟩
        have HNS := Lib.hid hns
        have hzn : ns.size = 8 := by rw [← hns]; rfl
        have h1n : ns.all (·.oneCell') = true := by rw [← hns]; exact ns_one P
        rw [hns]
        have hR5 := (hb5.block gs (by omega)).trans hR6
        have hrow5 := (hb5.block gt (by omega)).trans hrow6
        have hsz5 := hb5.size
        have hst := stC (P := Tryd.prog) w5 gt 29 8 ns _ hrow5 hzn rfl h1n
        obtain ⟨W7, hW7⟩ : ∃ W7, w5.setRow gt ns = W7 := ⟨_, rfl⟩
        rw [hW7] at hst
        have hR7 : W7.heap[gs]? = some (.cells S.ns 29 (0, 0)) := by rw [← hW7]; exact (setRow_other w5 gt gs _ (by omega)).trans hR5
        have hrow7 : W7.heap[gt]? = some (.cells ns 29 (0, 0)) := by rw [← hW7]; exact setRow_heap w5 gt _ _ 29 _ hrow5
        have hsz7 : gt + 1 ≤ W7.heap.size := by rw [← hW7]; simp; omega
        have hlt29 : (loadVar 29 ⟨gt, 0, none⟩).run Tryd.prog W7 = .ok (.agg ns) W7 := run_loadVar_row (P := Tryd.prog) W7 gt 29 29 ns (0, 0) _ hrow7 Tryd.underlying29 rfl (by rw [hzn]; kernel_rfl)
        have hst6 : (storeVar 29 ⟨gs, 0, none⟩ (.agg ns)).run Tryd.prog W7 = .ok () (W7.setRow gs ns) := run_storeVar_row (P := Tryd.prog) W7 gs 29 29 S.ns ns hR7 (by rw [hzn]; kernel_rfl) (by rw [hzn]; rfl) h1n
        obtain ⟨W8, hW8⟩ : ∃ W8, W7.setRow gs ns = W8 := ⟨_, rfl⟩
        rw [hW8] at hst6
        have hgs2' := hgs2
        have HX : Hid (Below w2.heap.size w2 W8 ∧ W8.heap[gs]? = some (.cells ns 29 (0, 0)) ∧ gs < W8.heap.size) := by
          have hbw5 : Below w2.heap.size w2 w5 := hbw6.trans (hb5.mono hbw6.size)
          have hbw7 : Below w2.heap.size w2 W7 := by rw [← hW7]; exact below_row hbw5 (by have := HBB.out.size; omega) hbw5.size _
          refine ⟨?_, ?_, ?_⟩
          · rw [← hW8]; exact below_row hbw7 hgs2' hbw7.size _
          · rw [← hW8]; exact setRow_heap W7 gs _ _ 29 _ hR7
          · rw [← hW8]; simp; omega
        clear hns hP hb5 hb56 hrow5 hrow7 hsz6 hbw6 hrow6
        go_wp2_with fail
        refine hK.out _ _ hR5 (fun hHeld => ?_)
        clear hK K
        try simp only [Act.put, List.setIfInBounds_toArray, List.set_cons_zero, List.set_cons_succ]
        refine wpAnyH_take (i := 7) (oi := { dst := some 40, op := Op.move (Operand.tmp 47), type := 30, pos := "law.go:65", after := #[{ on := 6, ground := Ground.data }], guard := none }) (v := ?vb7) rfl (by kernel_rfl) (by kernel_rfl) (by kernel_rfl) (fun _ _ _ h => h) (Or.inl ⟨by rfl, ?hyb7⟩) hHeld ?_
        case hyb7 => (intro w hSw; (try dsimp only at hSw); go_simp; first | done | with_reducible rfl)
        try simp only [Act.put, List.setIfInBounds_toArray, List.set_cons_zero, List.set_cons_succ]
        refine wpAnyH_take (i := 8) (oi := { dst := some 48, op := Op.extract (Operand.tmp 40) 0, type := 29, pos := "law.go:65", after := #[{ on := 7, ground := Ground.data }], guard := none }) (v := ?vb8) rfl (by kernel_rfl) (by kernel_rfl) (by kernel_rfl) (fun _ _ _ h => h) (Or.inl ⟨by rfl, ?hyb8⟩) hHeld ?_
        case hyb8 => (intro w hSw; (try dsimp only at hSw); go_simp; first | done | with_reducible rfl)
        try simp only [Act.put, List.setIfInBounds_toArray, List.set_cons_zero, List.set_cons_succ]
        refine wpAnyH_take (i := 9) (oi := { dst := some 49, op := Op.extract (Operand.tmp 40) 1, type := 23, pos := "law.go:65", after := #[{ on := 7, ground := Ground.data }, { on := 11, ground := Ground.gcOnly Departure.lateStores }], guard := none }) (v := ?vb9) rfl (by kernel_rfl) (by kernel_rfl) (by kernel_rfl) (fun _ _ _ h => h) (Or.inl ⟨by rfl, ?hyb9⟩) hHeld ?_
        case hyb9 => (intro w hSw; (try dsimp only at hSw); go_simp; first | done | with_reducible rfl)
        try simp only [Act.put, List.setIfInBounds_toArray, List.set_cons_zero, List.set_cons_succ]
        refine wpAnyH_ready (rs := [11]) (by kernel_rfl) (by simp) ?_
        refine AllReadyH.cons (o := { dst := none, op := Op.store 29 (Operand.tmp 8) (Operand.tmp 48), type := 0, pos := "law.go:65", after := #[{ on := 10, ground := Ground.data }, { on := 8, ground := Ground.data }, { on := 6, ground := Ground.chain }, { on := 0, ground := Ground.phase }, { on := 1, ground := Ground.phase }, { on := 2, ground := Ground.phase }, { on := 3, ground := Ground.phase }, { on := 4, ground := Ground.phase }, { on := 5, ground := Ground.phase }, { on := 6, ground := Ground.phase }, { on := 7, ground := Ground.phase }, { on := 8, ground := Ground.phase }, { on := 9, ground := Ground.textOnly Departure.lateStores }, { on := 10, ground := Ground.phase }], guard := none }) rfl (fun K hK => ?_) AllReadyH.nil
        go_simp
        refine hK.out _ _ hR7 (fun hHeld => ?_)
        clear hK K
        try simp only [Act.put, List.setIfInBounds_toArray, List.set_cons_zero, List.set_cons_succ]
        refine wpAnyH_ready (rs := [12]) (by kernel_rfl) (by simp) ?_
        refine AllReadyH.cons (o := { dst := some 9, op := Op.assign (Operand.tmp 49), type := 23, pos := "law.go:65", after := #[{ on := 9, ground := Ground.data }, { on := 11, ground := Ground.chain }, { on := 0, ground := Ground.phase }, { on := 1, ground := Ground.phase }, { on := 2, ground := Ground.phase }, { on := 3, ground := Ground.phase }, { on := 4, ground := Ground.phase }, { on := 5, ground := Ground.phase }, { on := 6, ground := Ground.phase }, { on := 7, ground := Ground.phase }, { on := 8, ground := Ground.phase }, { on := 9, ground := Ground.phase }, { on := 10, ground := Ground.phase }, { on := 11, ground := Ground.phase }], guard := none }) rfl (fun K hK => ?_) AllReadyH.nil
        go_simp
        refine hK.out _ _ hR7 (fun hHeld => ?_)
        clear hK K
        try simp only [Act.put, List.setIfInBounds_toArray, List.set_cons_zero, List.set_cons_succ]
        refine wpAnyH_done (by kernel_rfl) ?_ _
        go_wp2_with (first | ((with_reducible refine wl_loadRow (ty := 29) (x := .tmp 8) (g := gt) (v := .agg ns) ?hx hlt29 ?_); (case hx => rfl)) | ((with_reducible refine wl_storeRow (ty := 29) (x := .tmp 6) (y := .tmp 52) (v := .agg ns) ?hx ?hy hst6 ?_); (case hx => rfl); (case hy => rfl)))
        go_roundw
        case rel => exact ⟨k + 1, by omega, by have := HI0.out; congr 1; omega, HX.out.1, by rw [HNX.out, HP.out, HNS.out]; exact HX.out.2.1, HX.out.2.2⟩
        case measure => simp [intOf]; omega
    · obtain rfl : k = K := by omega
      obtain ⟨P, hP⟩ : ∃ P, blocks k Sha.start all = P := ⟨_, rfl⟩
      have hPok : P.ok := by rw [← hP]; exact blocks_ok _ _ start_ok
      rw [hP] at hR
      have HSB : Hid (sumB bs = digB P) := by
        show sumB bs = digB P
        unfold sumB
        rw [HLEN.out, HALL.out]
        unfold state
        rw [hNl, hK, show 64 * k / 64 = k by omega, hP]
      have hbw : Below w.heap.size w wr := HB2.out.trans (hB.mono HB2.out.size)
      have HSUM := Lib.hid (Sum_any A n c bs wr (HR.out.keep hbw) (by omega) (HL.out.keep hbw))
      have HBW := Lib.hid hbw
      have HRR := Lib.hid hR
      obtain ⟨i0, hi0⟩ : ∃ i0, 64 * k = i0 := ⟨_, rfl⟩
      rw [hi0]
      clear hB hR hP hbw
      go_wp2_with fail
      refine HSUM.out.mono ?_
      rintro e w5 ⟨v5, rfl, ho5, hb5⟩
      rw [HSB.out] at ho5
      obtain ⟨A5, c5, rfl, hr5⟩ := ho5.slice 32 rfl
      obtain ⟨g5, o5, rfl, hg5, hcell5⟩ := hr5.cells (by omega)
      have HC5 := Lib.hid hcell5
      have hcap5 := hr5.cap
      have hrow5 := (hb5.block gs hgl).trans HRR.out
      have HROW := Lib.hid hrow5
      have hbw5 : Below w.heap.size w w5 := HBW.out.trans (hb5.mono HBW.out.size)
      have HBW5 := Lib.hid hbw5
      have HLW := Lib.hid (HL.out.keep hbw5)
      have HPok := Lib.hid hPok
      clear ho5 hr5 hcell5 hb5 hrow5 hbw5 HSUM hPok
      go_wp2
      go_loopw [11] (fun i wr => ∃ j : Nat, j ≤ 8 ∧ i = .int .i64 j ∧ Below w5.heap.size w5 wr) (fun i _ => 8 - (intOf i).toNat)
      case atStart => exact ⟨0, Nat.zero_le _, rfl, Below.refl _ _⟩
      case round =>
        obtain ⟨j, hj, rfl, hB⟩ := hrel
        by_cases hlt2 : j < 8
        · have hgs5 : gs < w5.heap.size := by
            have := HROW.out
            rcases Nat.lt_or_ge gs w5.heap.size with h | h
            · exact h
            · rw [Array.getElem?_eq_none h] at this; cases this
          have cs := cell_ns ((hB.block gs hgs5).trans HROW.out) j hlt2
          have d0 := (hB.cell (p := ⟨g5, o5 + 4 * j, none⟩) hg5).trans (HC5.out (4 * j) (by omega))
          have d1 := (hB.cell (p := ⟨g5, o5 + (4 * j + 1), none⟩) hg5).trans (HC5.out (4 * j + 1) (by omega))
          have d2 := (hB.cell (p := ⟨g5, o5 + (4 * j + 2), none⟩) hg5).trans (HC5.out (4 * j + 2) (by omega))
          have d3 := (hB.cell (p := ⟨g5, o5 + (4 * j + 3), none⟩) hg5).trans (HC5.out (4 * j + 3) (by omega))
          have hdw := dig_word P HPok.out j hlt2
          obtain ⟨x0, hx0⟩ : ∃ x, (digB P).getD (4 * j) 0 = x := ⟨_, rfl⟩
          obtain ⟨x1, hx1⟩ : ∃ x, (digB P).getD (4 * j + 1) 0 = x := ⟨_, rfl⟩
          obtain ⟨x2, hx2⟩ : ∃ x, (digB P).getD (4 * j + 2) 0 = x := ⟨_, rfl⟩
          obtain ⟨x3, hx3⟩ : ∃ x, (digB P).getD (4 * j + 3) 0 = x := ⟨_, rfl⟩
          obtain ⟨y, hy⟩ : ∃ y, P.l.getD j 0 = y := ⟨_, rfl⟩
          rw [hx0] at d0 hdw
          rw [hx1] at d1 hdw
          rw [hx2] at d2 hdw
          rw [hx3] at d3 hdw
          rw [hy] at hdw cs
          obtain ⟨j0, hj0⟩ : ∃ j0, 4 * j = j0 := ⟨_, rfl⟩
          obtain ⟨j1, hj1⟩ : ∃ j1, 4 * j + 1 = j1 := ⟨_, rfl⟩
          obtain ⟨j2, hj2⟩ : ∃ j2, 4 * j + 2 = j2 := ⟨_, rfl⟩
          obtain ⟨j3, hj3⟩ : ∃ j3, 4 * j + 3 = j3 := ⟨_, rfl⟩
          rw [hj0] at d0
          rw [hj1] at d1
          rw [hj2] at d2
          rw [hj3] at d3
          have e0 : x0.toNat < 256 := x0.toNat_lt
          have e1 : x1.toNat < 256 := x1.toNat_lt
          have e2 : x2.toNat < 256 := x2.toNat_lt
          have e3 : x3.toNat < 256 := x3.toNat_lt
          have q0 : IntKind.i64.wrap (4 * (j : Int)) = (j0 : Int) := by rw [IntWalk.i64_in _ (by omega)]; omega
          have q1 : IntKind.i64.wrap ((j0 : Int) + 1) = (j1 : Int) := by rw [IntWalk.i64_in _ (by omega)]; omega
          have q2 : IntKind.i64.wrap ((j0 : Int) + 2) = (j2 : Int) := by rw [IntWalk.i64_in _ (by omega)]; omega
          have q3 : IntKind.i64.wrap ((j0 : Int) + 3) = (j3 : Int) := by rw [IntWalk.i64_in _ (by omega)]; omega
          have b0 : (j0 : Int) < 32 := by omega
          have b1 : (j1 : Int) < 32 := by omega
          have b2 : (j2 : Int) < 32 := by omega
          have b3 : (j3 : Int) < 32 := by omega
          have r0 : IntKind.i64.wrap (x0.toNat : Int) = (x0.toNat : Int) := IntWalk.i64_in _ (by omega)
          have r1 : IntKind.i64.wrap (x1.toNat : Int) = (x1.toNat : Int) := IntWalk.i64_in _ (by omega)
          have r2 : IntKind.i64.wrap (x2.toNat : Int) = (x2.toNat : Int) := IntWalk.i64_in _ (by omega)
          have r3 : IntKind.i64.wrap (x3.toNat : Int) = (x3.toNat : Int) := IntWalk.i64_in _ (by omega)
          have s0 : IntKind.i64.wrap (16777216 * (x0.toNat : Int)) = 16777216 * (x0.toNat : Int) := IntWalk.i64_in _ (by omega)
          have s1 : IntKind.i64.wrap (65536 * (x1.toNat : Int)) = 65536 * (x1.toNat : Int) := IntWalk.i64_in _ (by omega)
          have s2 : IntKind.i64.wrap (256 * (x2.toNat : Int)) = 256 * (x2.toNat : Int) := IntWalk.i64_in _ (by omega)
          have t1 : IntKind.i64.wrap (16777216 * (x0.toNat : Int) + 65536 * (x1.toNat : Int)) = 16777216 * (x0.toNat : Int) + 65536 * (x1.toNat : Int) := IntWalk.i64_in _ (by omega)
          have t2 : IntKind.i64.wrap (16777216 * (x0.toNat : Int) + 65536 * (x1.toNat : Int) + 256 * (x2.toNat : Int)) = 16777216 * (x0.toNat : Int) + 65536 * (x1.toNat : Int) + 256 * (x2.toNat : Int) := IntWalk.i64_in _ (by omega)
          have t3 : IntKind.i64.wrap (16777216 * (x0.toNat : Int) + 65536 * (x1.toNat : Int) + 256 * (x2.toNat : Int) + (x3.toNat : Int)) = (y : Int) := by rw [IntWalk.i64_in _ (by omega)]; omega
          have bj : (j : Int) < 8 := by omega
          have HBj := Lib.hid hB
          clear hx0 hx1 hx2 hx3 hy hj0 hj1 hj2 hj3 hB hdw
          go_wp2
          refine wp_region_still_lit (by kernel_rfl) (by kernel_rfl) ?_
          repeat still_step
          refine wpStill_nil ?_
          change Exit.then _ _ _ _ wr.drew
          clear q0 q1 q2 q3 b0 b1 b2 b3 r0 r1 r2 r3 s0 s1 s2 t1 t2 t3 d0 d1 d2 d3 e0 e1 e2 e3
          go_wp2
          go_roundw
          case rel => exact ⟨j + 1, by omega, by go_num, HBj.out.drew⟩
          case measure => simp [intOf]; omega
        · obtain rfl : j = 8 := by omega
          have HAW := Lib.hid (awake_any wr (HLW.out.keep hB))
          have HBj := Lib.hid hB
          clear hB
          go_wp2_with fail
          refine HAW.out.mono ?_
          rintro e w6 ⟨rfl, hb6⟩
          have hfin : Below w.heap.size w w6 := (HBW5.out.trans (HBj.out.mono HBW5.out.size)).trans (hb6.mono (Nat.le_trans HBW5.out.size HBj.out.size))
          have HF := Lib.hid hfin
          clear hfin hb6
          go_wp2
          go_ret
          exact ⟨rfl, HF.out⟩

set_option maxHeartbeats 4000000 in
theorem walk (a0 : Option Addr) (len0 cap0 : Nat) (z0 : List Int) (w : World) (w0 : IsRow .u8 w a0 len0 cap0 z0) (hL : Laid w) :
    Calls Tryd.prog 6 #[.slice a0 len0 cap0] w fun e w' => e = .returned (.bool true) ∧ Below w.heap.size w w' := by
  obtain ⟨hm, bs, hr⟩ := Bs.rd_of_row w0
  by_cases hn : len0 ≤ 2000
  · exact walkIn a0 len0 cap0 bs w hr hn hL
  · go_enter Tryd.func6, Tryd.ntmps6
    go_wp2
    go_ret
    exact ⟨rfl, Below.refl _ _⟩

theorem contract (H : Type) (enc : TypeId × Value → H) (W : World) (base : Nat) (args : Array Value) (ds gs : List (DataW H)) (before : List MemPlace)
    (hval : ∀ (j : Nat) t v, Tryd.f6.params[j]? = some t → args[j]? = some v → Value.okWide Tryd.prog W .any base t v)
    (hW : DataW.Whole enc Tryd.prog Tryd.f6.params.toList Rows.sha256StepsSpec.vars false W args.toList ds gs before) (hL : laidMetH Tryd.prog Rows.sha256StepsRow.laid W) :
    Calls Tryd.prog 6 args W fun e W' => ∃ v, e = .returned v ∧ Rows.sha256StepsSpec.post enc Tryd.prog Tryd.f6 false true false false W args v W' := by
  have hW' := hW
  obtain ⟨p, q, hA0, hV, rfl, hfz, hnd⟩ := hW
  have hA : DataW.TrodAll enc Tryd.prog W 0 (fun _ => true) true Tryd.f6.params.toList args.toList ds p := hA0
  rw [Tryd.params6] at hA hval
  obtain ⟨v0, vs0, d0, ds0, p0, q0, hargs, rfl, rfl, h0, r0⟩ := trodAll_cons hA
  obtain ⟨rfl, rfl, rfl⟩ := trodAll_nil r0
  obtain rfl : args = #[v0] := by cases args; simp_all
  obtain ⟨rfl, rfl⟩ := trodVars_none hV
  obtain ⟨a0, len0, cap0, rfl⟩ := okWide_slice Tryd.underlying22 (hval 0 22 v0 rfl rfl)
  have k0 := h0
  have lt0 : ∀ x ∈ p0, x.block < W.heap.size := by obtain ⟨m, hm⟩ := k0; exact DataW.trod_lt m _ _ _ hm
  obtain ⟨z0, w0⟩ : ∃ zs, IsRow .u8 W a0 len0 cap0 zs := by
    obtain ⟨fuel, hf⟩ := h0
    rcases open_ints Tryd.underlying22 Tryd.underlying5 (by kernel_rfl) hf with ⟨hcs, _⟩ | ⟨x, l, c, zs, hcs, _, hl, hm, hz, _, hcell, hwz⟩
    · simp [Value.cells] at hcs
      obtain ⟨rfl, rfl, rfl⟩ := hcs
      exact ⟨[], .inl ⟨rfl, rfl, rfl, rfl⟩⟩
    · simp [Value.cells] at hcs
      obtain ⟨rfl, rfl, rfl⟩ := hcs
      exact ⟨zs, .inr ⟨_, rfl, hl, hm, by simpa using hz, hcell, hwz⟩⟩
  clear hA0
  refine (walk a0 len0 cap0 z0 W w0 (laid_of hL)).mono fun e W' ⟨he, bel⟩ => ?_
  subst he
  exact ⟨_, rfl, _, _, _, [], _, [], hW', trodAll_mk1 (shut_bool Tryd.underlying4 _), (trodAll_cons_mk (Below.trod laidOut (by kernel_rfl) (of_decide_eq_true (by kernel_rfl)) k0 bel lt0) trodAll_mk0), rfl, bel.frame _, fun h => by cases h⟩

theorem laid_met (os : Os) : laidMet Tryd.prog Rows.sha256StepsRow.laid ((laidWorld os).forCall (fun _ _ => 0) ⟨#[], #[.slice none 0 0], []⟩).memory :=
  laidMet_of_run' 8 (by kernel_rfl) (by kernel_rfl)
theorem reads (os : Os) {H : Type} (enc : TypeId × Value → H) : ∃ places, DataW.whole enc Tryd.prog ((laidWorld os).forCall (fun _ _ => 0) ⟨#[], #[.slice none 0 0], []⟩).memory Tryd.f6.params.toList Rows.sha256StepsSpec.vars false (#[.slice none 0 0] : Array Value).toList 8 = some ([.nil], [], places) :=
  ⟨[], by kernel_rfl⟩

set_option maxRecDepth 100000 in
theorem lifted (os : Os) (started : os.Started) (H : Type) (enc : TypeId × Value → H) (F : Stop.Interp) :
    ReturnsInHanded {} Tryd.checked os 6 .any ((OpenSpec.ofChange Rows.sha256StepsSpec).preRow enc Tryd.prog Tryd.f6 Rows.sha256StepsRow.domain false Rows.sha256StepsRow.laid) (((OpenSpec.ofChange Rows.sha256StepsSpec).at F).post enc Tryd.prog Tryd.f6 false true false false) := by
  obtain ⟨places, hx⟩ := reads os enc
  refine returnsInHanded_of_row (C := Tryd.checked) (s := OpenSpec.ofChange Rows.sha256StepsSpec) own started (by kernel_rfl) Tryd.func6
    (witness_row_at (enc := enc) (C := Tryd.checked) false (laidWorld os) #[.slice none 0 0] rfl (by kernel_rfl) (by kernel_rfl) (by kernel_rfl)
      (OpenSpec.preRow_of_cond 8 hx (by kernel_rfl) (fun k hk => by cases hk) (by kernel_rfl) (laid_met os))) ?_
  intro W base args ds gs before hval hW _ _ _ hL _ _
  exact contract H enc W base args ds gs before hval hW hL

theorem said : Rows.Sha256StepsSaid :=
  OpenClaim.holds_of_cond 6 Tryd.f6 rfl rfl rfl rfl rfl rfl rfl ⟨rfl, rfl, rfl, rfl, rfl⟩ rfl rfl rfl rfl rfl (by kernel_rfl) Tryd.func6 (by kernel_rfl)
    (of_decide_eq_true (by kernel_rfl)) (by unfold Func.isWrapper; first | (rw [if_pos (by decide +kernel)]; kernel_rfl) | (rw [if_neg (by decide +kernel)]; exact ⟨rfl, rfl⟩))
    (fun os started H enc _ F => by rw [OpenClaim.pre_eq_preRow]; exact lifted os started H enc F)

theorem plain (f : FuncId) (fn : Func) (hf : Tryd.pinned.checked.prog.funcNamed "chandlery/chandlerylaw03.Sha256Steps" = some f) (hfn : Tryd.pinned.checked.prog.funcs[f]? = some fn) :
    false = Tryd.pinned.checked.prog.looks [] ∧ ∀ (j : Nat) t, fn.params[j]? = some t → Tryd.pinned.checked.prog.wantsStandIn t = false := by
  obtain rfl : f = 6 := Option.some.inj ((show Tryd.prog.funcNamed "chandlery/chandlerylaw03.Sha256Steps" = some 6 by kernel_rfl).symm.trans hf) |>.symm
  obtain rfl : fn = Tryd.f6 := (Option.some.inj (Tryd.func6.symm.trans hfn)).symm
  refine ⟨by kernel_rfl, fun j t ht => ?_⟩
  rw [Tryd.params6] at ht
  have hm : t ∈ [22] := by simpa using Array.mem_of_getElem? ht
  have hall : ([22].all fun u => !Tryd.prog.wantsStandIn u) = true := by kernel_rfl
  exact (show Tryd.prog.wantsStandIn t = false by simpa using List.all_eq_true.1 hall t hm)

theorem proved : Rows.Sha256StepsCardSaid :=
  Claim7.holds_tied_plain_at .later [] _ _ _ _ said (fun _ h => by cases h) (by kernel_rfl) (fun _ h => by cases h) sha256Steps_row_tie rfl ⟨rfl, rfl⟩ (by kernel_rfl) rfl plain (by kernel_rfl)
#print axioms proved
end Go.Proofs.YtnoldhedocejbaaDoor.sha256Steps
