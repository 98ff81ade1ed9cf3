/- mixBlocks. Conditions: none. -/
import Derived.Test.YtmimffbjghhdhaaDoorS5
import Derived.Test.YtmimffbjghhdhaaDoorSl
namespace Go.Proofs.YtmimffbjghhdhaaDoor
open Go.RowKit Go.Bs Go.Sha Go.Inv

abbrev Z8u : Array Value := #[.int .u32 0, .int .u32 0, .int .u32 0, .int .u32 0, .int .u32 0, .int .u32 0, .int .u32 0, .int .u32 0]

theorem blocks_succ (k : Nat) (s : St) (bs : List UInt8) : blocks (k + 1) s bs = mixS (blocks k s bs) ((bs.drop (64 * k)).take 64) := by
  rw [blocks_add k 1]
  rfl

set_option maxRecDepth 100000 in
set_option maxHeartbeats 4000000 in
theorem mixBlocks_any (s : St) (hs : s.ok) (A : Option Addr) (n c : Nat) (bs : List UInt8) (w : World) (h : Rd w A n c bs) (hn : n ≤ 4611686018427387904) (hL : Laid w) :
    Calls Tryd.prog 25 #[s.v, .slice A n c] w fun e w' => ∃ A', e = .returned (.tuple #[(state s bs).v, .slice A' (n % 64) (c - n / 64 * 64)]) ∧ Rd w' A' (n % 64) (c - n / 64 * 64) (bs.drop (n / 64 * 64)) ∧ Below w.heap.size w w' := by
  have hcap := h.cap
  have HLEN := Lib.hid h.len
  have HR := Lib.hid h
  have HL := Lib.hid hL
  obtain ⟨g, hg⟩ : ∃ g, w.heap.size = g := ⟨_, rfl⟩
  have hg2 : 2 ≤ g := by rw [← hg]; exact hL.lt
  obtain ⟨W, hW⟩ : ∃ W, (w.alloc (.cells #[U s.a, U s.b, U s.c, U s.d, U s.e, U s.f, U s.g, U s.h] 42)).alloc (.cells Z8u 42) = W := ⟨_, rfl⟩
  have HB : Hid (Below g w W ∧ W.heap[g]? = some (.cells s.cs 42 (0, 0)) ∧ W.heap[g + 1]? = some (.cells Z8u 42 (0, 0)) ∧ W.heap.size = g + 2) := by
    rw [← hW, ← hg]
    refine ⟨((Below.refl _ _).alloc (Nat.le_refl _) _).alloc (by simp) _, ?_, ?_, by simp⟩
    · exact (((Below.refl _ _).alloc (Nat.le_refl _) _).block _ (by simp)).trans (heap_alloc_new w _)
    · have e : w.heap.size + 1 = (w.alloc (.cells #[U s.a, U s.b, U s.c, U s.d, U s.e, U s.f, U s.g, U s.h] 42)).heap.size := by simp
      rw [e]
      exact heap_alloc_new _ _
  have HG := Lib.hid hg
  clear h hL
  rw [show s.v = .agg #[U s.a, U s.b, U s.c, U s.d, U s.e, U s.f, U s.g, U s.h] from rfl]
  go_enter Tryd.func25, Tryd.ntmps25
  go_wp2
  clear hW
  go_loopw [1] (fun v wr => ∃ (k : Nat) (A' : Option Addr), k ≤ n / 64 ∧ v = .slice A' (n - 64 * k) (c - 64 * k) ∧ Rd w A' (n - 64 * k) (c - 64 * k) (bs.drop (64 * k)) ∧ wr.heap[g]? = some (.cells (blocks k s bs).cs 42 (0, 0)) ∧ wr.heap[g + 1]? = some (.cells Z8u 42 (0, 0)) ∧ Below g w wr ∧ g + 2 ≤ wr.heap.size) (fun v _ => sliceLen v)
  case atStart => exact ⟨0, A, Nat.zero_le _, rfl, by simpa using HR.out, HB.out.2.1, HB.out.2.2.1, HB.out.1, by rw [HB.out.2.2.2]; omega⟩
  case round =>
    obtain ⟨k, A', hk, rfl, hr, hB, hRr, hG, hsz⟩ := hrel
    obtain ⟨S, hS⟩ : ∃ S, blocks k s bs = S := ⟨_, rfl⟩
    rw [hS] at hB
    have hSok : S.ok := by rw [← hS]; exact blocks_ok _ _ hs
    obtain ⟨m, hm⟩ : ∃ m, n - 64 * k = m := ⟨_, rfl⟩
    obtain ⟨d, hd⟩ : ∃ d, c - 64 * k = d := ⟨_, rfl⟩
    rw [hm, hd] at hr ⊢
    have hmd : m ≤ d := hr.cap
    by_cases hlt : 64 ≤ m
    · have hBU : BlkU wr g 42 S.l := hB
      have c0 : wr.cell? ⟨g, 0, none⟩ = some (U S.a) := hBU.cell 0 (by simp [St.l])
      have c1 : wr.cell? ⟨g, 1, none⟩ = some (U S.b) := hBU.cell 1 (by simp [St.l])
      have c2 : wr.cell? ⟨g, 2, none⟩ = some (U S.c) := hBU.cell 2 (by simp [St.l])
      have c3 : wr.cell? ⟨g, 3, none⟩ = some (U S.d) := hBU.cell 3 (by simp [St.l])
      have c4 : wr.cell? ⟨g, 4, none⟩ = some (U S.e) := hBU.cell 4 (by simp [St.l])
      have c5 : wr.cell? ⟨g, 5, none⟩ = some (U S.f) := hBU.cell 5 (by simp [St.l])
      have c6 : wr.cell? ⟨g, 6, none⟩ = some (U S.g) := hBU.cell 6 (by simp [St.l])
      have c7 : wr.cell? ⟨g, 7, none⟩ = some (U S.h) := hBU.cell 7 (by simp [St.l])
      have hsh : ∀ W, (Instr.slice 22 (.slice A' m d) none (some (.int .i64 64)) (some (.int .i64 64))).run Tryd.prog W = .ok (.slice A' 64 64) W := fun W => slice_head A' m d 64 64 (by omega) (by omega) W
      have hsf : ∀ W, (Instr.slice 22 (.slice A' m d) (some (.int .i64 64)) none none).run Tryd.prog W = .ok (.slice (tailA A' d 64) (m - 64) (d - 64)) W := fun W => slice_from A' m d 64 (by omega) W
      have HMB := Lib.hid (mixBlock_any S hSok A' 64 ((bs.drop (64 * k)).take 64) wr.drew ((rd_head (hr.keep (by rw [HG.out]; exact hG)) 64 64 hlt (by omega)).drew) (by omega) ((HL.out.keep (by rw [HG.out]; exact hG.drew))))
      rw [show S.v = .agg #[U S.a, U S.b, U S.c, U S.d, U S.e, U S.f, U S.g, U S.h] from rfl] at HMB
      have HS : Hid (blocks (k + 1) s bs = mixS S ((bs.drop (64 * k)).take 64)) := by rw [← hS]; exact blocks_succ k s bs
      have HRR := Lib.hid hr
      have HBB := Lib.hid hB
      have HRr := Lib.hid hRr
      have HGG := Lib.hid hG
      clear hB hRr hG hBU hr
      go_wp2
      go_still_tail 3, (by kernel_rfl)
      change wpList _ _ _ _ _ wr.drew
      go_wp2_with fail
      refine HMB.out.mono ?_
      rintro e w1 ⟨rfl, hb1⟩
      have hb1' : Below wr.heap.size wr w1 := below_of_drew hb1
      have hrow := (hb1'.block g (by omega)).trans HBB.out
      obtain ⟨P, hP⟩ : ∃ P, mixS S ((bs.drop (64 * k)).take 64) = P := ⟨_, rfl⟩
      rw [hP] at HS ⊢
      have hst := stC (P := Tryd.prog) w1 g 42 8 P.cs _ hrow rfl rfl (cs_one P)
      obtain ⟨Y, hY⟩ : ∃ Y, w1.setRow g P.cs = Y := ⟨_, rfl⟩
      have hsz1 := hb1'.size
      have HY : Hid (Y.heap[g]? = some (.cells P.cs 42 (0, 0)) ∧ Y.heap[g + 1]? = some (.cells Z8u 42 (0, 0)) ∧ Below g w Y ∧ g + 2 ≤ Y.heap.size) := by
        rw [← hY]
        refine ⟨setRow_heap w1 g _ _ 42 _ hrow, (setRow_other w1 g (g + 1) _ (by omega)).trans ((hb1'.block (g + 1) (by omega)).trans HRr.out), ?_, by simp; omega⟩
        exact below_row (HGG.out.trans (hb1'.mono (by have := HGG.out.size; omega))) (Nat.le_refl _) (by omega) _
      rw [hY] at hst
      rw [show P.v = .agg P.cs from rfl]
      obtain ⟨cs, hcs⟩ : ∃ cs : Array Value, P.cs = cs := ⟨_, rfl⟩
      have hz : cs.size = 8 := by rw [← hcs]; rfl
      have HCS := Lib.hid hcs
      rw [hcs] at hst ⊢
      clear hcs hY hrow hb1 hb1' hP c0 c1 c2 c3 c4 c5 c6 c7
      go_wp2
      go_roundw
      case rel =>
        refine ⟨k + 1, tailA A' d 64, by omega, ?_, ?_, ?_, HY.out.2.1, HY.out.2.2.1, HY.out.2.2.2⟩
        · rw [show n - 64 * (k + 1) = m - 64 by omega, show c - 64 * (k + 1) = d - 64 by omega]
        · have e := rd_tail HRR.out 64 hlt
          rw [List.drop_drop] at e
          rw [show n - 64 * (k + 1) = m - 64 by omega, show c - 64 * (k + 1) = d - 64 by omega, show 64 * (k + 1) = 64 * k + 64 by omega]
          exact e
        · rw [HS.out]; exact HY.out.1
      case measure => simp [sliceLen]; omega
    · have hkn : k = n / 64 := by omega
      have hld := load51 wr g 42 S hB
      have hst := stC (P := Tryd.prog) wr (g + 1) 42 8 S.cs _ hRr rfl rfl (cs_one S)
      have hres := load51 (wr.setRow (g + 1) S.cs) (g + 1) 42 S (setRow_heap wr (g + 1) _ _ 42 _ hRr)
      obtain ⟨Y, hY⟩ : ∃ Y, wr.setRow (g + 1) S.cs = Y := ⟨_, rfl⟩
      have HBV : Hid (Below g w Y) := by
        rw [← hY]
        exact below_row hG (by omega) (by omega) _
      have HRY : Hid (Rd Y A' m d (bs.drop (64 * k))) := hr.keep (by rw [HG.out]; exact HBV.out)
      rw [hY] at hst hres
      obtain ⟨cs, hcs⟩ : ∃ cs : Array Value, S.cs = cs := ⟨_, rfl⟩
      have hz : cs.size = 8 := by rw [← hcs]; rfl
      have HCS := Lib.hid hcs
      have HS : Hid (state s bs = S) := by show state s bs = S; unfold state; rw [HLEN.out, ← hkn, hS]
      rw [hcs] at hst hres hld
      clear hcs hY hB hRr hG hS hr
      go_wp2_with ((with_reducible refine wl_loadRow (ty := 42) (x := .tmp 2) (g := g) (v := .agg cs) ?hx hld ?_); (case hx => rfl))
      refine bodyPost_ret (results_cell2 Tryd.results25 _ _ rfl hres) rfl ⟨A', ?_, ?_, by rw [HG.out]; exact HBV.out⟩
      · rw [HS.out, show S.v = .agg S.cs from rfl, HCS.out, show n % 64 = m by omega, show c - n / 64 * 64 = d by omega]
        rfl
      · rw [show n % 64 = m by omega, show c - n / 64 * 64 = d by omega, show n / 64 * 64 = 64 * k by omega]
        exact HRY.out
end Go.Proofs.YtmimffbjghhdhaaDoor
