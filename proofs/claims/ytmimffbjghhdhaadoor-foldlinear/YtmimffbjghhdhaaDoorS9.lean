/- Sum, Pad, Mix. Conditions: none. -/
import Derived.Test.YtmimffbjghhdhaaDoorS8
namespace Go.Proofs.YtmimffbjghhdhaaDoor
open Go.RowKit Go.Bs Go.Sha Go.Inv

set_option maxRecDepth 100000 in
set_option maxHeartbeats 4000000 in
theorem Sum_any (A : Option Addr) (n c : Nat) (bs : List UInt8) (w : World) (h : Rd w A n c bs) (hn : n ≤ 1152921504606846975) (hL : Laid w) :
    Calls Tryd.prog 13 #[.slice A n c] w fun e w' => ∃ v, e = .returned v ∧ Own w' w.heap.size 5 v (sumB bs) ∧ Below w.heap.size w w' := by
  obtain ⟨c0, c1, c2, c3, c4, c5, c6, c7⟩ := hL.eight
  have HL := Lib.hid hL
  have HLEN := Lib.hid h.len
  have HMB := Lib.hid (mixBlocks_any Sha.start start_ok A n c bs w h (by omega) hL)
  rw [start_v] at HMB
  clear h hL
  go_enter Tryd.func13, Tryd.ntmps13
  go_wp2_with fail
  refine HMB.out.mono ?_
  rintro e w1 ⟨A1, rfl, hr1, hb1⟩
  clear c0 c1 c2 c3 c4 c5 c6 c7 HMB
  obtain ⟨S, hS⟩ : ∃ S, state Sha.start bs = S := ⟨_, rfl⟩
  have hSok : S.ok := by rw [← hS]; exact state_ok _ start_ok
  have HS := Lib.hid hS
  rw [hS]
  clear hS
  obtain ⟨W, hW⟩ : ∃ W, w1.alloc (.cells Z8u 42) = W := ⟨_, rfl⟩
  obtain ⟨Y, hY⟩ : ∃ Y, W.setRow w1.heap.size S.cs = Y := ⟨_, rfl⟩
  have hrow : W.heap[w1.heap.size]? = some (.cells Z8u 42 (0, 0)) := by rw [← hW]; exact heap_alloc_new w1 _
  have hst := stC (P := Tryd.prog) W w1.heap.size 42 8 S.cs _ hrow rfl rfl (cs_one S)
  have hrowY : Y.heap[w1.heap.size]? = some (.cells S.cs 42 (0, 0)) := by rw [← hY]; exact setRow_heap W w1.heap.size _ _ 42 _ hrow
  have hld := load51 Y w1.heap.size 42 S hrowY
  have hbY : Below w1.heap.size w1 Y := by
    rw [← hY]
    exact below_row (by rw [← hW]; exact (Below.refl _ _).alloc (Nat.le_refl _) _) (Nat.le_refl _) (by rw [← hW]; simp) _
  have hbwY : Below w.heap.size w Y := hb1.trans (hbY.mono hb1.size)
  rw [hY] at hst
  have HD := Lib.hid (digest_any S hSok A1 (n % 64) (c - n / 64 * 64) n (bs.drop (n / 64 * 64)) Y (hr1.keep hbY) (by omega) hn (HL.out.keep hbwY))
  rw [show S.v = .agg S.cs from rfl] at HD ⊢
  have HBY := Lib.hid hbwY
  obtain ⟨cs, hcs⟩ : ∃ cs : Array Value, S.cs = cs := ⟨_, rfl⟩
  have hz : cs.size = 8 := by rw [← hcs]; rfl
  rw [hcs] at hst hld HD ⊢
  clear hcs hY hrow hrowY hbY hbwY hr1 hb1
  go_wp2_with ((with_reducible refine wl_loadRow (ty := 42) (x := .tmp 3) (g := w1.heap.size) (v := .agg cs) ?hx hld ?_); (case hx => rfl))
  refine HD.out.mono ?_
  rintro e w2 ⟨v, rfl, ho, hb⟩
  go_wp2
  go_ret
  refine ⟨v, rfl, ?_, HBY.out.trans (hb.mono HBY.out.size)⟩
  have e1 : digB (state S (bs.drop (n / 64 * 64) ++ padB n)) = sumB bs := by
    unfold sumB
    rw [state_rest Sha.start bs, HS.out, HLEN.out]
  rw [e1] at ho
  refine ⟨ho.1, ?_⟩
  rcases ho.2 with h0 | ⟨g', cap, cur, e1, e2, e3⟩
  · exact .inl h0
  · exact .inr ⟨g', cap, cur, e1, Nat.le_trans HBY.out.size e2, e3⟩

def StI.v (a b c d e f g h : Int) : Value := .agg #[.int .i64 a, .int .i64 b, .int .i64 c, .int .i64 d, .int .i64 e, .int .i64 f, .int .i64 g, .int .i64 h]
end Go.Proofs.YtmimffbjghhdhaaDoor
