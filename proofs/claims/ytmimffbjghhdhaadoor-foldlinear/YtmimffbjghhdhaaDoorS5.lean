/- mixBlock. Conditions: none. -/
import Derived.Test.YtmimffbjghhdhaaDoorS3
import Derived.Test.YtmimffbjghhdhaaDoorS4
import Derived.Test.YtmimffbjghhdhaaDoorS5a
import Derived.Test.YtmimffbjghhdhaaDoorIx
import Derived.Deep.CutRange
namespace Go.Proofs.YtmimffbjghhdhaaDoor
open Go.RowKit Go.Bs Go.Sha Go.Inv

def mixl (s p : St) (k : Nat) : List Nat := p.l.take k ++ s.l.drop k
theorem mixl_length (s p : St) (k : Nat) (h : k ≤ 8) : (mixl s p k).length = 8 := by simp [mixl, St.l]; omega
theorem mixl_getD (s p : St) (k : Nat) (h : k < 8) : (mixl s p k).getD k 0 = s.l.getD k 0 := by
  have : k = 0 ∨ k = 1 ∨ k = 2 ∨ k = 3 ∨ k = 4 ∨ k = 5 ∨ k = 6 ∨ k = 7 := by omega
  rcases this with e | e | e | e | e | e | e | e <;> subst e <;> simp [mixl, St.l]
theorem plus_getD (s v : St) (k : Nat) (h : k < 8) : (plus s v).l.getD k 0 = (s.l.getD k 0 + v.l.getD k 0) % 4294967296 := by
  have : k = 0 ∨ k = 1 ∨ k = 2 ∨ k = 3 ∨ k = 4 ∨ k = 5 ∨ k = 6 ∨ k = 7 := by omega
  rcases this with e | e | e | e | e | e | e | e <;> subst e <;> simp only [plus, St.l, List.getD_cons_zero, List.getD_cons_succ]
theorem mixl_set (s p : St) (k : Nat) (h : k < 8) : (mixl s p k).set k (p.l.getD k 0) = mixl s p (k + 1) := by
  have : k = 0 ∨ k = 1 ∨ k = 2 ∨ k = 3 ∨ k = 4 ∨ k = 5 ∨ k = 6 ∨ k = 7 := by omega
  obtain ⟨a, b, c, d, e, f, g, z⟩ := s
  obtain ⟨a', b', c', d', e', f', g', z'⟩ := p
  rcases this with e | e | e | e | e | e | e | e <;> subst e <;> rfl
theorem lt8 (s : St) (hs : s.ok) (k : Nat) : s.l.getD k 0 < 4294967296 := by
  obtain ⟨h1, h2, h3, h4, h5, h6, h7, h8⟩ := hs
  refine getD_lt ?_ k
  intro x hx
  simp only [St.l, List.mem_cons, List.not_mem_nil, or_false] at hx
  rcases hx with rfl | rfl | rfl | rfl | rfl | rfl | rfl | rfl <;> assumption

set_option maxRecDepth 100000 in
set_option maxHeartbeats 4000000 in
theorem mixBlock_any (s : St) (hs : s.ok) (A : Option Addr) (c : Nat) (bs : List UInt8) (w : World) (h : Rd w A 64 c bs) (hc : c ≤ 9223372036854775807) (hL : Laid w) :
    Calls Tryd.prog 33 #[s.v, .slice A 64 c] w fun e w' => e = .returned (mixS s bs).v ∧ Below w.heap.size w w' := by
  have HR := Lib.hid h
  have HL := Lib.hid hL
  obtain ⟨g, hg⟩ : ∃ g, w.heap.size = g := ⟨_, rfl⟩
  have hg2 : 2 ≤ g := by rw [← hg]; exact hL.lt
  obtain ⟨SV, hSV⟩ : ∃ SV : Value, s.v = SV := ⟨_, rfl⟩
  obtain ⟨W, hW⟩ : ∃ W, (w.alloc (.cells #[U s.a, U s.b, U s.c, U s.d, U s.e, U s.f, U s.g, U s.h] 42)).alloc (.cells #[.int .u32 0, .int .u32 0, .int .u32 0, .int .u32 0, .int .u32 0, .int .u32 0, .int .u32 0, .int .u32 0] 42) = W := ⟨_, rfl⟩
  have HB : Hid (Below g w W ∧ W.heap[g]? = some (.cells s.cs 42 (0, 0)) ∧ W.heap[g + 1]? = some (.cells #[.int .u32 0, .int .u32 0, .int .u32 0, .int .u32 0, .int .u32 0, .int .u32 0, .int .u32 0, .int .u32 0] 42 (0, 0)) ∧ W.heap.size = g + 2) := by
    rw [← hW, ← hg]
    refine ⟨((Below.refl _ _).alloc (Nat.le_refl _) _).alloc (by simp) _, ?_, ?_, by simp⟩
    · exact (((Below.refl _ _).alloc (Nat.le_refl _) _).block _ (by simp)).trans (heap_alloc_new w _)
    · have e : w.heap.size + 1 = (w.alloc (.cells #[U s.a, U s.b, U s.c, U s.d, U s.e, U s.f, U s.g, U s.h] 42)).heap.size := by simp
      rw [e]
      exact heap_alloc_new _ _
  have HG := Lib.hid hg
  clear h hL
  rw [show s.v = .agg #[U s.a, U s.b, U s.c, U s.d, U s.e, U s.f, U s.g, U s.h] from rfl]
  go_enter Tryd.func33, Tryd.ntmps33
  go_upto_region 1 with fail
  clear hW hSV SV
  obtain ⟨val, hval⟩ : ∃ val : Nat → Value, (fun k => if k % 2 = 0 then .pointer (some ⟨g, k / 2, none⟩) else U (s.l.getD (k / 2) 0)) = val := ⟨_, rfl⟩
  have v0 : val 0 = .pointer (some ⟨g, 0, none⟩) := by rw [← hval]; rfl
  have v1 : val 1 = U (s.l.getD 0 0) := by rw [← hval]; rfl
  have v2 : val 2 = .pointer (some ⟨g, 1, none⟩) := by rw [← hval]; rfl
  have v3 : val 3 = U (s.l.getD 1 0) := by rw [← hval]; rfl
  have v4 : val 4 = .pointer (some ⟨g, 2, none⟩) := by rw [← hval]; rfl
  have v5 : val 5 = U (s.l.getD 2 0) := by rw [← hval]; rfl
  have v6 : val 6 = .pointer (some ⟨g, 3, none⟩) := by rw [← hval]; rfl
  have v7 : val 7 = U (s.l.getD 3 0) := by rw [← hval]; rfl
  have v8 : val 8 = .pointer (some ⟨g, 4, none⟩) := by rw [← hval]; rfl
  have v9 : val 9 = U (s.l.getD 4 0) := by rw [← hval]; rfl
  have v10 : val 10 = .pointer (some ⟨g, 5, none⟩) := by rw [← hval]; rfl
  have v11 : val 11 = U (s.l.getD 5 0) := by rw [← hval]; rfl
  have v12 : val 12 = .pointer (some ⟨g, 6, none⟩) := by rw [← hval]; rfl
  have v13 : val 13 = U (s.l.getD 6 0) := by rw [← hval]; rfl
  have v14 : val 14 = .pointer (some ⟨g, 7, none⟩) := by rw [← hval]; rfl
  have v15 : val 15 = U (s.l.getD 7 0) := by rw [← hval]; rfl
  refine wp_region_inv (ops := ops26) [[], [0], [], [2], [], [4], [], [6], [], [8], [], [10], [], [12], [], [14], [], [], [], [], [], [], [], [], [16, 1, 0, 1, 16, 17, 18, 19, 20, 21, 22, 23], [17, 3, 24, 0, 1, 2, 3, 16, 17, 18, 19, 20, 21, 22, 23, 24], [18, 5, 25, 0, 1, 2, 3, 4, 5, 16, 17, 18, 19, 20, 21, 22, 23, 24, 25], [19, 7, 26, 0, 1, 2, 3, 4, 5, 6, 7, 16, 17, 18, 19, 20, 21, 22, 23, 24, 25, 26], [20, 9, 27, 0, 1, 2, 3, 4, 5, 6, 7, 8, 9, 16, 17, 18, 19, 20, 21, 22, 23, 24, 25, 26, 27], [21, 11, 28, 0, 1, 2, 3, 4, 5, 6, 7, 8, 9, 10, 11, 16, 17, 18, 19, 20, 21, 22, 23, 24, 25, 26, 27, 28], [22, 13, 29, 0, 1, 2, 3, 4, 5, 6, 7, 8, 9, 10, 11, 12, 13, 16, 17, 18, 19, 20, 21, 22, 23, 24, 25, 26, 27, 28, 29], [23, 15, 30, 0, 1, 2, 3, 4, 5, 6, 7, 8, 9, 10, 11, 12, 13, 14, 15, 16, 17, 18, 19, 20, 21, 22, 23, 24, 25, 26, 27, 28, 29, 30]] 32 (by kernel_rfl) (by kernel_rfl) (by decide) (by kernel_rfl)
    (fun t a' w' => ∃ al u : Nat → Value, a' = Fr26 (.agg #[U s.a, U s.b, U s.c, U s.d, U s.e, U s.f, U s.g, U s.h]) (.slice A 64 c) (.pointer (some ⟨g + 1, 0, none⟩)) g al u ∧ (∀ k, k < 16 → t k = true → u k = val k) ∧ Made (g + 2) W (fun j => s.l.getD j 0) t al w') ?_ ?_ ?_
  · refine ⟨fun _ => undef, fun _ => undef, rfl, (fun _ _ h => by cases h), ?_⟩
    exact { below := (Below.refl _ _).drew, size := (by show g + 2 ≤ W.heap.size; rw [HB.out.2.2.2]; omega), cel := (fun _ _ h => by cases h), dis := (fun _ _ _ _ _ h => by cases h), st := (fun _ _ h => by cases h) }
  · rintro t a' w' i ⟨al, u, rfl, hu, hM⟩ hi hbi hn
    have hrow : w'.heap[g]? = some (.cells s.cs 42 (0, 0)) := (hM.below.block g (by omega)).trans HB.out.2.1
    have hcell : ∀ j, j < 8 → w'.cell? ⟨g, j, none⟩ = some (U (s.l.getD j 0)) := fun j hj => by
      have : BlkU w' g 42 s.l := hrow
      exact this.cell j hj
    have hcs : i = 0 ∨ i = 1 ∨ i = 2 ∨ i = 3 ∨ i = 4 ∨ i = 5 ∨ i = 6 ∨ i = 7 ∨ i = 8 ∨ i = 9 ∨ i = 10 ∨ i = 11 ∨ i = 12 ∨ i = 13 ∨ i = 14 ∨ i = 15 ∨ i = 16 ∨ i = 17 ∨ i = 18 ∨ i = 19 ∨ i = 20 ∨ i = 21 ∨ i = 22 ∨ i = 23 ∨ i = 24 ∨ i = 25 ∨ i = 26 ∨ i = 27 ∨ i = 28 ∨ i = 29 ∨ i = 30 ∨ i = 31 := by omega
    rcases hcs with rfl | rfl | rfl | rfl | rfl | rfl | rfl | rfl | rfl | rfl | rfl | rfl | rfl | rfl | rfl | rfl | rfl | rfl | rfl | rfl | rfl | rfl | rfl | rfl | rfl | rfl | rfl | rfl | rfl | rfl | rfl | rfl
    · exact op26_0 _ _ _ g al u w' ⟨_, _, rfl, (by rw [← v0]; exact upd_slots16 hu 0), hM.slot 0 (by omega)⟩
    · exact op26_1 _ _ _ g al u w' _ ((hu 0 (by omega) (hn 0 (by decide))).trans v0) (hcell 0 (by omega)) ⟨_, _, rfl, (by rw [← v1]; exact upd_slots16 hu 1), hM.slot 1 (by omega)⟩
    · exact op26_2 _ _ _ g al u w' ⟨_, _, rfl, (by rw [← v2]; exact upd_slots16 hu 2), hM.slot 2 (by omega)⟩
    · exact op26_3 _ _ _ g al u w' _ ((hu 2 (by omega) (hn 2 (by decide))).trans v2) (hcell 1 (by omega)) ⟨_, _, rfl, (by rw [← v3]; exact upd_slots16 hu 3), hM.slot 3 (by omega)⟩
    · exact op26_4 _ _ _ g al u w' ⟨_, _, rfl, (by rw [← v4]; exact upd_slots16 hu 4), hM.slot 4 (by omega)⟩
    · exact op26_5 _ _ _ g al u w' _ ((hu 4 (by omega) (hn 4 (by decide))).trans v4) (hcell 2 (by omega)) ⟨_, _, rfl, (by rw [← v5]; exact upd_slots16 hu 5), hM.slot 5 (by omega)⟩
    · exact op26_6 _ _ _ g al u w' ⟨_, _, rfl, (by rw [← v6]; exact upd_slots16 hu 6), hM.slot 6 (by omega)⟩
    · exact op26_7 _ _ _ g al u w' _ ((hu 6 (by omega) (hn 6 (by decide))).trans v6) (hcell 3 (by omega)) ⟨_, _, rfl, (by rw [← v7]; exact upd_slots16 hu 7), hM.slot 7 (by omega)⟩
    · exact op26_8 _ _ _ g al u w' ⟨_, _, rfl, (by rw [← v8]; exact upd_slots16 hu 8), hM.slot 8 (by omega)⟩
    · exact op26_9 _ _ _ g al u w' _ ((hu 8 (by omega) (hn 8 (by decide))).trans v8) (hcell 4 (by omega)) ⟨_, _, rfl, (by rw [← v9]; exact upd_slots16 hu 9), hM.slot 9 (by omega)⟩
    · exact op26_10 _ _ _ g al u w' ⟨_, _, rfl, (by rw [← v10]; exact upd_slots16 hu 10), hM.slot 10 (by omega)⟩
    · exact op26_11 _ _ _ g al u w' _ ((hu 10 (by omega) (hn 10 (by decide))).trans v10) (hcell 5 (by omega)) ⟨_, _, rfl, (by rw [← v11]; exact upd_slots16 hu 11), hM.slot 11 (by omega)⟩
    · exact op26_12 _ _ _ g al u w' ⟨_, _, rfl, (by rw [← v12]; exact upd_slots16 hu 12), hM.slot 12 (by omega)⟩
    · exact op26_13 _ _ _ g al u w' _ ((hu 12 (by omega) (hn 12 (by decide))).trans v12) (hcell 6 (by omega)) ⟨_, _, rfl, (by rw [← v13]; exact upd_slots16 hu 13), hM.slot 13 (by omega)⟩
    · exact op26_14 _ _ _ g al u w' ⟨_, _, rfl, (by rw [← v14]; exact upd_slots16 hu 14), hM.slot 14 (by omega)⟩
    · exact op26_15 _ _ _ g al u w' _ ((hu 14 (by omega) (hn 14 (by decide))).trans v14) (hcell 7 (by omega)) ⟨_, _, rfl, (by rw [← v15]; exact upd_slots16 hu 15), hM.slot 15 (by omega)⟩
    · exact op26_16 _ _ _ g al u w' ⟨_, _, rfl, upd_other16 hu 16 (by omega), hM.alloc 0 (by omega) hbi⟩
    · exact op26_17 _ _ _ g al u w' ⟨_, _, rfl, upd_other16 hu 17 (by omega), hM.alloc 1 (by omega) hbi⟩
    · exact op26_18 _ _ _ g al u w' ⟨_, _, rfl, upd_other16 hu 18 (by omega), hM.alloc 2 (by omega) hbi⟩
    · exact op26_19 _ _ _ g al u w' ⟨_, _, rfl, upd_other16 hu 19 (by omega), hM.alloc 3 (by omega) hbi⟩
    · exact op26_20 _ _ _ g al u w' ⟨_, _, rfl, upd_other16 hu 20 (by omega), hM.alloc 4 (by omega) hbi⟩
    · exact op26_21 _ _ _ g al u w' ⟨_, _, rfl, upd_other16 hu 21 (by omega), hM.alloc 5 (by omega) hbi⟩
    · exact op26_22 _ _ _ g al u w' ⟨_, _, rfl, upd_other16 hu 22 (by omega), hM.alloc 6 (by omega) hbi⟩
    · exact op26_23 _ _ _ g al u w' ⟨_, _, rfl, upd_other16 hu 23 (by omega), hM.alloc 7 (by omega) hbi⟩
    · obtain ⟨q, e1, e2, e3, e4⟩ := hM.cel 0 (by omega) (hn 16 (by decide))
      exact op26_24 _ _ _ g al u w' _ _ q ((hu 1 (by omega) (hn 1 (by decide))).trans v1) e1 e4.cell e4.frozen ⟨_, _, rfl, upd_other16 hu 24 (by omega), hM.store 0 (by omega) (hn 16 (by decide)) q e1⟩
    · obtain ⟨q, e1, e2, e3, e4⟩ := hM.cel 1 (by omega) (hn 17 (by decide))
      exact op26_25 _ _ _ g al u w' _ _ q ((hu 3 (by omega) (hn 3 (by decide))).trans v3) e1 e4.cell e4.frozen ⟨_, _, rfl, upd_other16 hu 25 (by omega), hM.store 1 (by omega) (hn 17 (by decide)) q e1⟩
    · obtain ⟨q, e1, e2, e3, e4⟩ := hM.cel 2 (by omega) (hn 18 (by decide))
      exact op26_26 _ _ _ g al u w' _ _ q ((hu 5 (by omega) (hn 5 (by decide))).trans v5) e1 e4.cell e4.frozen ⟨_, _, rfl, upd_other16 hu 26 (by omega), hM.store 2 (by omega) (hn 18 (by decide)) q e1⟩
    · obtain ⟨q, e1, e2, e3, e4⟩ := hM.cel 3 (by omega) (hn 19 (by decide))
      exact op26_27 _ _ _ g al u w' _ _ q ((hu 7 (by omega) (hn 7 (by decide))).trans v7) e1 e4.cell e4.frozen ⟨_, _, rfl, upd_other16 hu 27 (by omega), hM.store 3 (by omega) (hn 19 (by decide)) q e1⟩
    · obtain ⟨q, e1, e2, e3, e4⟩ := hM.cel 4 (by omega) (hn 20 (by decide))
      exact op26_28 _ _ _ g al u w' _ _ q ((hu 9 (by omega) (hn 9 (by decide))).trans v9) e1 e4.cell e4.frozen ⟨_, _, rfl, upd_other16 hu 28 (by omega), hM.store 4 (by omega) (hn 20 (by decide)) q e1⟩
    · obtain ⟨q, e1, e2, e3, e4⟩ := hM.cel 5 (by omega) (hn 21 (by decide))
      exact op26_29 _ _ _ g al u w' _ _ q ((hu 11 (by omega) (hn 11 (by decide))).trans v11) e1 e4.cell e4.frozen ⟨_, _, rfl, upd_other16 hu 29 (by omega), hM.store 5 (by omega) (hn 21 (by decide)) q e1⟩
    · obtain ⟨q, e1, e2, e3, e4⟩ := hM.cel 6 (by omega) (hn 22 (by decide))
      exact op26_30 _ _ _ g al u w' _ _ q ((hu 13 (by omega) (hn 13 (by decide))).trans v13) e1 e4.cell e4.frozen ⟨_, _, rfl, upd_other16 hu 30 (by omega), hM.store 6 (by omega) (hn 22 (by decide)) q e1⟩
    · obtain ⟨q, e1, e2, e3, e4⟩ := hM.cel 7 (by omega) (hn 23 (by decide))
      exact op26_31 _ _ _ g al u w' _ _ q ((hu 15 (by omega) (hn 15 (by decide))).trans v15) e1 e4.cell e4.frozen ⟨_, _, rfl, upd_other16 hu 31 (by omega), hM.store 7 (by omega) (hn 23 (by decide)) q e1⟩
  · rintro t a' w' ⟨al, u, rfl, hu, hM⟩ hall
    obtain ⟨q, hq, hinj⟩ := hM.done hall
    have hbw := hM.below
    have a0 := (hq 0 (by omega)).1
    have a1 := (hq 1 (by omega)).1
    have a2 := (hq 2 (by omega)).1
    have a3 := (hq 3 (by omega)).1
    have a4 := (hq 4 (by omega)).1
    have a5 := (hq 5 (by omega)).1
    have a6 := (hq 6 (by omega)).1
    have a7 := (hq 7 (by omega)).1
    have HQ := Lib.hid hq
    have HBW := Lib.hid hbw
    have hsz : g + 2 ≤ w'.heap.size := by have := hM.size; exact this
    obtain ⟨p, hp⟩ : ∃ p : Nat → Nat, (fun j => q (7 - j)) = p := ⟨_, rfl⟩
    have hv : Vars w' p s := by
      rw [← hp]
      refine ⟨fun j hj => ?_, fun i j hi hj hne => hinj _ _ (by omega) (by omega) (by omega)⟩
      have h1 := (hq (7 - j) (by omega)).2.2.2
      have : j = 0 ∨ j = 1 ∨ j = 2 ∨ j = 3 ∨ j = 4 ∨ j = 5 ∨ j = 6 ∨ j = 7 := by omega
      rcases this with h | h | h | h | h | h | h | h <;> subst h <;> exact h1
    have hpN : ∀ j, j < 8 → g + 2 ≤ p j := fun j hj => by rw [← hp]; exact (hq (7 - j) (by omega)).2.1
    rw [show q 0 = p 7 by rw [← hp]] at a0
    rw [show q 1 = p 6 by rw [← hp]] at a1
    rw [show q 2 = p 5 by rw [← hp]] at a2
    rw [show q 3 = p 4 by rw [← hp]] at a3
    rw [show q 4 = p 3 by rw [← hp]] at a4
    rw [show q 5 = p 2 by rw [← hp]] at a5
    rw [show q 6 = p 1 by rw [← hp]] at a6
    rw [show q 7 = p 0 by rw [← hp]] at a7
    have HBx := Lib.hid (hbw.block g (by omega) |>.trans HB.out.2.1)
    have HRx := Lib.hid (hbw.block (g + 1) (by omega) |>.trans HB.out.2.2.1)
    have HWW : Hid (Below g w w') := HB.out.1.trans (hbw.mono (by omega))
    have HLW : Hid (Laid w') := HL.out.keep (by rw [HG.out]; exact HWW.out)
    have HV := Lib.hid hv
    have HPN := Lib.hid hpN
    have HSP := Lib.hid (spread_any A c bs w' (HR.out.keep (by rw [HG.out]; exact HWW.out)) hc)
    obtain ⟨SC, hSC⟩ : ∃ SC : Array Value, ((sched bs 64).map U).toArray = SC := ⟨_, rfl⟩
    rw [hSC] at HSP
    have hix : ∀ (k : Nat), k < 64 → ∀ w, (Instr.index 58 (.agg SC) (.int .i64 (k : Int))).run Tryd.prog w = .ok (U ((sched bs 64).getD k 0)) w := by
      intro k hk w
      rw [← hSC]
      exact index_u32 58 64 Tryd.underlying58 _ k hk (sched_length bs 64) w
    have HIX := Lib.hid hix
    clear hq hinj hbw hM hu hall hp hv hpN hSC hix HQ HBW HB
    unfold Fr26
    simp only [a0, a1, a2, a3, a4, a5, a6, a7]
    clear a0 a1 a2 a3 a4 a5 a6 a7
    go_wp2_with fail
    refine HSP.out.mono ?_
    rintro e w1 ⟨rfl, hb1⟩
    have HB1 := Lib.hid hb1
    have HV1 := Lib.hid (HV.out.keep hb1)
    have HL1 := Lib.hid (HLW.out.keep hb1)
    have HBx1 := Lib.hid ((hb1.block g (by omega)).trans HBx.out)
    have HRx1 := Lib.hid ((hb1.block (g + 1) (by omega)).trans HRx.out)
    have HW1 : Hid (Below g w w1) := HWW.out.trans (hb1.mono (by have := HWW.out.size; omega))
    have hsz1 : g + 2 ≤ w1.heap.size := by have := hb1.size; omega
    clear hb1 HBx HRx HWW HLW HV HSP HB1
    go_wp2
    go_loopw [37] (fun i wr => ∃ t : Nat, t ≤ 64 ∧ i = .int .i64 t ∧ Vars wr p (rounds (sched bs 64) s t) ∧ Only (ps8 p) w1 wr) (fun i _ => 64 - (intOf i).toNat)
    case atStart => exact ⟨0, Nat.zero_le _, rfl, HV1.out, Only.refl _ _⟩
    case round =>
      obtain ⟨t, ht, rfl, hv, ho⟩ := hrel
      by_cases hlt : t < 64
      · have hi2 := HIX.out t hlt
        obtain ⟨x, hx⟩ : ∃ x, (sched bs 64).getD t 0 = x := ⟨_, rfl⟩
        rw [hx] at hi2
        have hkc : wr.cell? ⟨1, t, none⟩ = some (U (KL.getD t 0)) := by
          have e1 : wr.heap[1]? = w1.heap[1]? := ho.block 1 (fun hm => by
            have h8 : ∀ y ∈ ps8 p, g + 2 ≤ y := by
              intro y hy
              simp only [ps8, List.mem_cons, List.not_mem_nil, or_false] at hy
              rcases hy with rfl | rfl | rfl | rfl | rfl | rfl | rfl | rfl <;> exact HPN.out _ (by omega)
            have := h8 1 hm
            omega)
          have e2 := HL1.out.k t hlt
          unfold World.cell? at e2 ⊢
          rw [e1]
          exact e2
        obtain ⟨kt, hkt⟩ : ∃ x, KL.getD t 0 = x := ⟨_, rfl⟩
        rw [hkt] at hkc
        obtain ⟨y, hy⟩ : ∃ y, (kt + x) % 4294967296 = y := ⟨_, rfl⟩
        have hwy : IntKind.u32.wrap ((kt : Int) + (x : Int)) = (y : Int) := by rw [← hy, IntKind.wrap_u32']; rfl
        have hyM : y < 4294967296 := by rw [← hy]; exact mod_lt' _
        have HM := Lib.hid (mix1_any y hyM p (rounds (sched bs 64) s t) (rounds_ok hs t) wr hv)
        have HY : Hid (rounds (sched bs 64) s (t + 1) = rnd (rounds (sched bs 64) s t) y) := by
          show rounds (sched bs 64) s (t + 1) = rnd (rounds (sched bs 64) s t) y
          rw [rounds, hkt, hx, hy]
        have HO := Lib.hid ho
        have bt : (t : Int) < 64 := by omega
        clear hx hkt hy hv ho
        go_wp2_with fail
        refine HM.out.mono ?_
        rintro e w2 ⟨rfl, hv2, ho2⟩
        have HV2 := Lib.hid hv2
        have HO2 := Lib.hid (HO.out.trans ho2)
        clear hv2 ho2
        go_wp2
        go_roundw
        case rel => exact ⟨t + 1, by omega, by go_num, by rw [HY.out]; exact HV2.out, HO2.out⟩
        case measure => simp [intOf]; omega
      · obtain rfl : t = 64 := by omega
        simp only [show ((64 : Nat) : Int) = 64 from rfl]
        obtain ⟨V, hV⟩ : ∃ V, rounds (sched bs 64) s 64 = V := ⟨_, rfl⟩
        rw [hV] at hv
        have hVok : V.ok := by rw [← hV]; exact rounds_ok hs 64
        obtain ⟨P, hP⟩ : ∃ P, plus s V = P := ⟨_, rfl⟩
        have HP : Hid (mixS s bs = P) := by show mixS s bs = P; rw [← hP, ← hV]; rfl
        have HPD : Hid (∀ k, k < 8 → P.l.getD k 0 = (s.l.getD k 0 + V.l.getD k 0) % 4294967296) := fun k hk => by rw [← hP]; exact plus_getD s V k hk
        have h8 : ∀ y ∈ ps8 p, g + 2 ≤ y := by
          intro y hy
          simp only [ps8, List.mem_cons, List.not_mem_nil, or_false] at hy
          rcases hy with rfl | rfl | rfl | rfl | rfl | rfl | rfl | rfl <;> exact HPN.out _ (by omega)
        have HBx2 := Lib.hid ((ho.block g (fun hm => by have := h8 g hm; omega)).trans HBx1.out)
        have HRx2 := Lib.hid ((ho.block (g + 1) (fun hm => by have := h8 (g + 1) hm; omega)).trans HRx1.out)
        have HW2 : Hid (Below g w wr) := ho.below HW1.out (fun y hy => by have := h8 y hy; omega)
        have c0 : wr.cell? ⟨p 0, 0, none⟩ = some (U V.h) := (hv.cel 0 (by omega)).cell
        have c1 : wr.cell? ⟨p 1, 0, none⟩ = some (U V.g) := (hv.cel 1 (by omega)).cell
        have c2 : wr.cell? ⟨p 2, 0, none⟩ = some (U V.f) := (hv.cel 2 (by omega)).cell
        have c3 : wr.cell? ⟨p 3, 0, none⟩ = some (U V.e) := (hv.cel 3 (by omega)).cell
        have c4 : wr.cell? ⟨p 4, 0, none⟩ = some (U V.d) := (hv.cel 4 (by omega)).cell
        have c5 : wr.cell? ⟨p 5, 0, none⟩ = some (U V.c) := (hv.cel 5 (by omega)).cell
        have c6 : wr.cell? ⟨p 6, 0, none⟩ = some (U V.b) := (hv.cel 6 (by omega)).cell
        have c7 : wr.cell? ⟨p 7, 0, none⟩ = some (U V.a) := (hv.cel 7 (by omega)).cell
        have HIX2 : Hid (∀ (k : Nat), k < 8 → ∀ w, (Instr.index 42 (.agg #[U V.a, U V.b, U V.c, U V.d, U V.e, U V.f, U V.g, U V.h]) (.int .i64 (k : Int))).run Tryd.prog w = .ok (U (V.l.getD k 0)) w) :=
          fun k hk w => index_u32 42 8 Tryd.underlying42 V.l k hk rfl w
        have hszr : g + 2 ≤ wr.heap.size := by have := ho.size; omega
        clear hP hv ho h8 hV hlt ht HV1 HL1 HBx1 HRx1 HW1
        go_wp2
        clear c0 c1 c2 c3 c4 c5 c6 c7
        go_loopw [58] (fun i wx => ∃ k : Nat, k ≤ 8 ∧ i = .int .i64 k ∧ BlkU wx g 42 (mixl s P k) ∧ wx.heap[g + 1]? = some (.cells #[.int .u32 0, .int .u32 0, .int .u32 0, .int .u32 0, .int .u32 0, .int .u32 0, .int .u32 0, .int .u32 0] 42 (0, 0)) ∧ Below g w wx ∧ g + 2 ≤ wx.heap.size) (fun i _ => 8 - (intOf i).toNat)
        case atStart => exact ⟨0, Nat.zero_le _, rfl, HBx2.out, HRx2.out, HW2.out, hszr⟩
        case round =>
          obtain ⟨k, hk, rfl, hB, hRr, hG, hsx⟩ := hrel
          by_cases hlt : k < 8
          · have hi2 := HIX2.out k hlt
            have hcell := hB.cell k (by rw [mixl_length _ _ _ hk]; exact hlt)
            have hfz := hB.frozen k
            rw [mixl_getD s P k hlt] at hcell
            have hPD := HPD.out k hlt
            obtain ⟨x, hx⟩ : ∃ x, s.l.getD k 0 = x := ⟨_, rfl⟩
            obtain ⟨y, hy⟩ : ∃ x, V.l.getD k 0 = x := ⟨_, rfl⟩
            obtain ⟨z, hz⟩ : ∃ x, P.l.getD k 0 = x := ⟨_, rfl⟩
            rw [hx] at hcell hPD
            rw [hy] at hi2 hPD
            rw [hz] at hPD
            have hwz : IntKind.u32.wrap ((x : Int) + (y : Int)) = (z : Int) := by rw [hPD, IntKind.wrap_u32']; rfl
            have bk : (k : Int) < 8 := by omega
            have HB := Lib.hid hB
            have HRr := Lib.hid hRr
            have HGG := Lib.hid hG
            have HZ := Lib.hid hz
            clear hB hRr hG hx hy hz hPD
            go_wp2
            go_roundw
            case rel =>
              refine ⟨k + 1, by omega, by go_num, ?_, ?_, ?_, by simpa [World.setCell] using hsx⟩
              · rw [← mixl_set s P k hlt, HZ.out]
                exact HB.out.set _ _
              · exact (Below.heap_setCell _ ⟨g, k, none⟩ _ (g + 1) (by show g + 1 ≠ g; omega)).trans HRr.out
              · exact HGG.out.setCell (Nat.le_refl _) _
            case measure => simp [intOf]; omega
          · obtain rfl : k = 8 := by omega
            have e8 : mixl s P 8 = P.l := by simp [mixl, St.l]
            rw [e8] at hB
            have hld := load51 _ g 42 P hB
            have hst := stC (P := Tryd.prog) _ (g + 1) 42 8 P.cs _ hRr rfl rfl (cs_one P)
            have hres := load51 _ (g + 1) 42 P (setRow_heap _ (g + 1) _ _ 42 _ hRr)
            obtain ⟨Y, hY⟩ : ∃ Y, wr.setRow (g + 1) P.cs = Y := ⟨_, rfl⟩
            have HBV : Hid (Below g w Y) := by
              rw [← hY]
              exact below_row hG (by omega) (by omega) _
            rw [hY] at hst hres
            obtain ⟨cs, hcs⟩ : ∃ cs : Array Value, P.cs = cs := ⟨_, rfl⟩
            have hz : cs.size = 8 := by rw [← hcs]; rfl
            have HCS := Lib.hid hcs
            rw [hcs] at hst hres hld
            clear hcs hY hB hRr hG e8 hlt hk
            go_wp2_with ((with_reducible refine wl_loadRow (ty := 42) (x := .tmp 2) (g := g) (v := .agg cs) ?hx hld ?_); (case hx => rfl))
            refine bodyPost_ret (v := .agg cs) (results_cell Tryd.results33 _ _ rfl hres) rfl ⟨by rw [HP.out, ← HCS.out]; rfl, by rw [HG.out]; exact HBV.out⟩
end Go.Proofs.YtmimffbjghhdhaaDoor
