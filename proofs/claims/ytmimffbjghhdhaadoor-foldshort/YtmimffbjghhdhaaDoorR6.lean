/- the document's Mix. Conditions: none. -/
import Derived.Test.YtmimffbjghhdhaaDoorR5
import Derived.Deep.RegionLaw
import Derived.Deep.CutRange
import Derived.Deep.QuietTactic
import Derived.BigQuiet
namespace Go.Proofs.YtmimffbjghhdhaaDoor
open Go.RowKit Go.Bs Go.Sha

theorem step_appW {ops : Array Oper} {o : Oper} {a : Act} {w : World} {K : Act → World → Prop} {Q : Exit → Act → World → Prop} {E : Prop} (hgd : o.guard = none) (s x : Operand)
    (ho : o.op = .call { callee := .builtin .append, args := #[s, x], argTypes := #[53, 53] })
    (base : Nat) (v : Value) (xs : List Nat) (hs : a.eval s = v) (hown : OwnW w base v xs) (y : Value) (z : Nat) (hy : y = I z) (hx : a.eval x = .slice (some ⟨w.heap.size, 0, none⟩) 1 1) (hsz : xs.length + 1 ≤ 1048576) (hbase : base ≤ w.heap.size)
    (h : ∀ v' w', OwnW w' base v' (xs ++ [z]) → Below base w w' → K (a.put o.dst v') w') :
    if Region.wanted o (yielded ops a.tmps) = true then Oper.wp Tryd.prog o a (w.alloc (.cells #[y] 3)) K Q else E := by
  have hw : Region.wanted o (yielded ops a.tmps) = true := by simp [Region.wanted, hgd]
  rw [if_pos hw]
  obtain ⟨v', w', hrun, h2, h3⟩ := run_appW w base o.type v xs hown y z hy hsz hbase
  unfold Oper.wp execOp
  simp only [ho, resolve, invoke, builtin, Sem.run_bind, Sem.run_pure, Result.andThen_ok, List.map_toArray, List.map_cons, List.map_nil, hs, hx, hrun]
  exact h v' w' h2 h3

theorem tailA_some (g o c k : Nat) (h : ¬ c = k) : tailA (some ⟨g, o, none⟩) c k = some ⟨g, o + k, none⟩ := by
  unfold tailA
  rw [Option.map_some, if_neg h, addr_add]

/-- a whole block of words. -/
def BlkW (w : World) (g : Nat) (t : TypeId) (xs : List Nat) : Prop := w.heap[g]? = some (.cells (xs.map I).toArray t (0, 0))
theorem BlkW.cell {w : World} {g t : Nat} {xs : List Nat} (h : BlkW w g t xs) (i : Nat) (hi : i < xs.length) : w.cell? ⟨g, i, none⟩ = some (I (xs.getD i 0)) := by
  rw [cell_of_row w g i _ t (0, 0) h]
  simp [List.getElem?_eq_getElem hi]
theorem BlkW.frozen {w : World} {g t : Nat} {xs : List Nat} (h : BlkW w g t xs) (i : Nat) : w.frozen? ⟨g, i, none⟩ = false := by
  unfold BlkW at h
  simp [World.frozen?, h]
theorem BlkW.set {w : World} {g t : Nat} {xs : List Nat} (h : BlkW w g t xs) (i : Nat) (x : Nat) : BlkW (w.setCell ⟨g, i, none⟩ (I x)) g t (xs.set i x) := by
  unfold BlkW at h ⊢
  simp [World.setCell, Array.getElem?_modify, h, List.map_set]
theorem BlkW.heap {w w' : World} {g t : Nat} {xs : List Nat} (h : BlkW w g t xs) (e : w'.heap = w.heap) : BlkW w' g t xs := by unfold BlkW at h ⊢; rw [e]; exact h

def cpL (s : List Nat) (k : Nat) : List Nat := s.take k ++ List.replicate (8 - k) 0
theorem cpL_len (s : St) (k : Nat) (h : k ≤ 8) : (cpL s.l k).length = 8 := by simp [cpL, St.l]; omega
theorem cpL_set (s : St) (k : Nat) (h : k < 8) : (cpL s.l k).set k (s.l.getD k 0) = cpL s.l (k + 1) := by
  have : k = 0 ∨ k = 1 ∨ k = 2 ∨ k = 3 ∨ k = 4 ∨ k = 5 ∨ k = 6 ∨ k = 7 := by omega
  rcases this with e | e | e | e | e | e | e | e <;> subst e <;> simp [cpL, St.l]
theorem cpL_all (s : St) : cpL s.l 8 = s.l := by simp [cpL, St.l]
theorem l_lt {s : St} (h : s.ok) (k : Nat) : s.l.getD k 0 < 4294967296 := by
  obtain ⟨h1, h2, h3, h4, h5, h6, h7, h8⟩ := h
  refine getD_lt (l := s.l) ?_ k
  intro x hx
  simp only [St.l, List.mem_cons, List.not_mem_nil, or_false] at hx
  rcases hx with rfl | rfl | rfl | rfl | rfl | rfl | rfl | rfl <;> assumption
theorem KL_len : KL.length = 64 := by decide +kernel
/-- the state moved on by k places from behind: what the inner loop leaves at i = 7 - k. -/
def shL (s : List Nat) (i : Nat) : List Nat := s.take (i + 1) ++ (s.drop i).take (7 - i)
theorem shL_set (s : St) (i : Nat) (h : i < 7) : (shL s.l (i + 1)).set (i + 1) (s.l.getD i 0) = shL s.l i := by
  have : i = 0 ∨ i = 1 ∨ i = 2 ∨ i = 3 ∨ i = 4 ∨ i = 5 ∨ i = 6 := by omega
  rcases this with e | e | e | e | e | e | e <;> subst e <;> simp [shL, St.l]
theorem shL_get (s : St) (i : Nat) (h : i < 7) : (shL s.l (i + 1)).getD i 0 = s.l.getD i 0 := by
  have : i = 0 ∨ i = 1 ∨ i = 2 ∨ i = 3 ∨ i = 4 ∨ i = 5 ∨ i = 6 := by omega
  rcases this with e | e | e | e | e | e | e <;> subst e <;> simp [shL, St.l]
theorem shL_seven (s : St) : shL s.l 7 = s.l := by simp [shL, St.l]
theorem shL_len (s : St) (i : Nat) (h : i ≤ 7) : (shL s.l i).length = 8 := by simp [shL, St.l]; omega

theorem drew1 {P : Program} {f : FuncId} {args : Array Value} {w : World} {v : Value} (h : Calls P f args w fun e w' => e = .returned v ∧ w' = w.drew) : Calls P f args w fun e w' => e = .returned v ∧ ∃ m, w' = w.drewN m :=
  h.mono fun _ _ ⟨he, hw⟩ => ⟨he, 1, hw⟩


theorem plus_get (s v : St) (k : Nat) (hk : k < 8) : (plus s v).l.take (k + 1) = (plus s v).l.take k ++ [(s.l.getD k 0 + v.l.getD k 0) % 4294967296] := by
  have : k = 0 ∨ k = 1 ∨ k = 2 ∨ k = 3 ∨ k = 4 ∨ k = 5 ∨ k = 6 ∨ k = 7 := by omega
  rcases this with e | e | e | e | e | e | e | e <;> subst e <;> simp [plus, St.l]
theorem plus_all (s v : St) : (plus s v).l.take 8 = (plus s v).l := by simp [St.l]
theorem plus_tlen (s v : St) (k : Nat) (hk : k ≤ 8) : ((plus s v).l.take k).length = k := by simp [St.l]; omega

set_option maxRecDepth 100000 in
set_option maxHeartbeats 4000000 in
theorem rMix_any (S : St) (hS : S.ok) (A0 : Option Addr) (c0 : Nat) (A : Option Addr) (c : Nat) (bs : List UInt8) (w : World) (h0 : RdW w A0 8 c0 S.l) (h : Rd w A 64 c bs) :
    Calls Tryd.prog 39 #[.slice A0 8 c0, .slice A 64 c] w fun e w' => ∃ v, e = .returned v ∧ OwnW w' w.heap.size v (mixS S bs).l ∧ Below w.heap.size w w' := by
  have HR0 := Lib.hid h0
  have HR := Lib.hid h
  have hcap := h.cap
  obtain ⟨ga, oa, rfl, hga, hxx⟩ := h.cells (by omega)
  obtain ⟨g, hg⟩ : ∃ g, w.heap.size = g := ⟨_, rfl⟩
  have HG := Lib.hid hg
  have hgw : g ≤ w.heap.size := by omega
  rw [hg]
  clear h h0 hxx
  go_enter Tryd.func39, Tryd.ntmps39
  go_wp2
  go_loopw [5, 6] (fun v i wr => ∃ t : Nat, t ≤ 64 ∧ i = .int .i64 t ∧ OwnW wr g v (sched bs t) ∧ Below g w wr) (fun _ i _ => 64 - (intOf i).toNat)
  case atStart => exact ⟨0, Nat.zero_le _, rfl, OwnW.nil _ _, Below.refl _ _⟩
  case round =>
    obtain ⟨t, ht, rfl, hO, hB⟩ := hrel
    have hsl := sched_length bs t
    have hszl : (sched bs t).length + 1 ≤ 1048576 := by rw [hsl]; omega
    have hsz : g ≤ wr.heap.size := by have := hB.size; omega
    by_cases hlt : t < 64
    · by_cases h16 : t < 16
      · obtain ⟨i0, hi0⟩ : ∃ i0, 4 * t = i0 := ⟨_, rfl⟩
        have q1 : (4 * (t : Int)) = (i0 : Int) := by omega
        have hne : ¬ c = i0 := by omega
        have HW := Lib.hid (rword_any (tailA (some ⟨ga, oa, none⟩) c i0) (64 - i0) (c - i0) (bs.drop i0) wr (rd_tail (HR.out.keep (by rw [HG.out]; exact hB)) i0 (by omega)) (by omega))
        rw [wordN_drop, tailA_some ga oa c i0 hne, ← hi0] at HW
        have HSS : Hid (sched bs (t + 1) = sched bs t ++ [wordN bs (4 * t)]) := by show sched bs (t + 1) = _; rw [sched, if_pos h16]
        obtain ⟨x, hx⟩ : ∃ x, wordN bs (4 * t) = x := ⟨_, rfl⟩
        rw [hx] at HW HSS
        rw [hi0] at HW
        clear hx
        go_wp2_with fail
        refine HW.out.mono ?_
        rintro e w5 ⟨rfl, rfl⟩
        go_wp2_with (at_builtin; go_loud (refine wpList_appW wr.drew rfl (.tmp 26) (.tmp 32) rfl g u5 (sched bs t) rfl hO _ x rfl rfl hszl hsz ?_); intro v6 w6 ho6 hb6)
        go_roundw
        case rel => exact ⟨t + 1, by omega, by go_num, by rw [HSS.out]; exact ho6, hB.trans (below_of_drew hb6)⟩
        case measure => simp [intOf]; omega
      · obtain ⟨Aw, cw, rfl, hRd⟩ := hO.slice t hsl
        have hcapw := hRd.cap
        obtain ⟨gw, ow, rfl, hgw2, hcw⟩ := hRd.cells (by omega)
        clear hRd
        obtain ⟨j2, hj2⟩ : ∃ j, j + 2 = t := ⟨t - 2, by omega⟩
        obtain ⟨j7, hj7⟩ : ∃ j, j + 7 = t := ⟨t - 7, by omega⟩
        obtain ⟨j15, hj15⟩ : ∃ j, j + 15 = t := ⟨t - 15, by omega⟩
        obtain ⟨j16, hj16⟩ : ∃ j, j + 16 = t := ⟨t - 16, by omega⟩
        have c2 := hcw j2 (by omega)
        have c7 := hcw j7 (by omega)
        have c15 := hcw j15 (by omega)
        have c16 := hcw j16 (by omega)
        clear hcw
        have HSS : Hid (sched bs (t + 1) = sched bs t ++ [next (sched bs t) t]) := by show sched bs (t + 1) = _; rw [sched, if_neg h16]
        have HN : Hid (next (sched bs t) t = (ss1 ((sched bs t).getD j2 0) + (sched bs t).getD j7 0 + ss0 ((sched bs t).getD j15 0) + (sched bs t).getD j16 0) % 4294967296) := by
          show next (sched bs t) t = _
          unfold next
          rw [show t - 2 = j2 by omega, show t - 7 = j7 by omega, show t - 15 = j15 by omega, show t - 16 = j16 by omega]
        have l2 := getD_lt (sched_lt bs t) j2
        have l7 := getD_lt (sched_lt bs t) j7
        have l15 := getD_lt (sched_lt bs t) j15
        have l16 := getD_lt (sched_lt bs t) j16
        obtain ⟨L, hL⟩ : ∃ L, sched bs t = L := ⟨_, rfl⟩
        rw [hL] at hO hsl hszl HSS
        rw [hL] at HN c2 c7 c15 c16 l2 l7 l15 l16
        clear hL
        obtain ⟨x2, hx2⟩ : ∃ x, L.getD j2 0 = x := ⟨_, rfl⟩
        obtain ⟨x7, hx7⟩ : ∃ x, L.getD j7 0 = x := ⟨_, rfl⟩
        obtain ⟨x15, hx15⟩ : ∃ x, L.getD j15 0 = x := ⟨_, rfl⟩
        obtain ⟨x16, hx16⟩ : ∃ x, L.getD j16 0 = x := ⟨_, rfl⟩
        rw [hx2] at c2 l2 HN
        rw [hx7] at c7 l7 HN
        rw [hx15] at c15 l15 HN
        rw [hx16] at c16 l16 HN
        clear hx2 hx7 hx15 hx16
        have q2 : (t : Int) - 2 = (j2 : Int) := by omega
        have q7 : (t : Int) - 7 = (j7 : Int) := by omega
        have q15 : (t : Int) - 15 = (j15 : Int) := by omega
        have q16 : (t : Int) - 16 = (j16 : Int) := by omega
        obtain ⟨X1, hX1⟩ : ∃ X, x2 / 1024 = X := ⟨_, rfl⟩
        obtain ⟨Y1, hY1⟩ : ∃ X, x15 / 8 = X := ⟨_, rfl⟩
        have qX : (x2 : Int) / 1024 = (X1 : Int) := by omega
        have qY : (x15 : Int) / 8 = (Y1 : Int) := by omega
        have lX1 : X1 < 4294967296 := by omega
        have lY1 : Y1 < 4294967296 := by omega
        have rA := fun W => rrot_any x2 17 l2 (by omega) (by omega) W 17 rfl
        have rB := fun W => rrot_any x2 19 l2 (by omega) (by omega) W 19 rfl
        have rC := fun W => rrot_any x15 7 l15 (by omega) (by omega) W 7 rfl
        have rD := fun W => rrot_any x15 18 l15 (by omega) (by omega) W 18 rfl
        have lA := rotr_lt x2 17 l2 (by omega)
        have lB := rotr_lt x2 19 l2 (by omega)
        have lC := rotr_lt x15 7 l15 (by omega)
        have lD := rotr_lt x15 18 l15 (by omega)
        have HE : Hid (ss1 x2 = X1 ^^^ rotr x2 17 ^^^ rotr x2 19 ∧ ss0 x15 = Y1 ^^^ rotr x15 7 ^^^ rotr x15 18) := by
          show _ ∧ _
          unfold ss1 ss0
          rw [hX1, hY1]
          exact ⟨rfl, rfl⟩
        have rE := fun W => xor_any X1 _ _ lX1 lA lB W
        have rF := fun W => xor_any Y1 _ _ lY1 lC lD W
        have ls1 := ss1_lt l2
        have ls0 := ss0_lt l15
        rw [← HE.out.1] at rE
        rw [← HE.out.2] at rF
        clear HE
        obtain ⟨A1, hA1⟩ : ∃ X, rotr x2 17 = X := ⟨_, rfl⟩
        obtain ⟨B1, hB1⟩ : ∃ X, rotr x2 19 = X := ⟨_, rfl⟩
        obtain ⟨C1, hC1⟩ : ∃ X, rotr x15 7 = X := ⟨_, rfl⟩
        obtain ⟨D1, hD1⟩ : ∃ X, rotr x15 18 = X := ⟨_, rfl⟩
        obtain ⟨E1, hE1⟩ : ∃ X, ss1 x2 = X := ⟨_, rfl⟩
        obtain ⟨F1, hF1⟩ : ∃ X, ss0 x15 = X := ⟨_, rfl⟩
        simp only [hA1, hB1, hC1, hD1, hE1, hF1] at rA rB rC rD rE rF HN ls1 ls0
        replace rA := Lib.hid rA
        replace rB := Lib.hid rB
        replace rC := Lib.hid rC
        replace rD := Lib.hid rD
        replace rE := Lib.hid rE
        replace rF := Lib.hid rF
        clear hA1 hB1 hC1 hD1 hE1 hF1 hX1 hY1 lA lB lC lD
        go_wp2_with fail
        refine (rA.out _).mono ?_
        rintro e w5 ⟨rfl, rfl⟩
        go_wp2_with fail
        refine (rB.out _).mono ?_
        rintro e w5 ⟨rfl, rfl⟩
        go_wp2_with fail
        refine (rE.out _).mono ?_
        rintro e w5 ⟨rfl, rfl⟩
        go_wp2_with fail
        refine (rC.out _).mono ?_
        rintro e w5 ⟨rfl, rfl⟩
        go_wp2_with fail
        refine (rD.out _).mono ?_
        rintro e w5 ⟨rfl, rfl⟩
        go_wp2_with fail
        refine (rF.out _).mono ?_
        rintro e w5 ⟨rfl, rfl⟩
        go_wp2_with fail
        obtain ⟨W, hW⟩ : ∃ W, wr.drew.drew.drew.drew = W := ⟨_, rfl⟩
        have d7 : W.cell? ⟨gw, ow + j7, none⟩ = some (I x7) := by rw [← hW]; exact c7
        have d16 : W.cell? ⟨gw, ow + j16, none⟩ = some (I x16) := by rw [← hW]; exact c16
        have hOW : OwnW W g (Value.slice (some ⟨gw, ow, none⟩) t cw) L := by rw [← hW]; exact hO
        have hBW : Below g w W := by rw [← hW]; exact hB.trans ⟨rfl, rfl, rfl, Nat.le_refl _, fun _ _ => rfl⟩
        have hszW : g ≤ W.heap.size := by rw [← hW]; exact hsz
        have hgwW : gw < W.heap.size := by rw [← hW]; exact hgw2
        rw [hW]
        clear hW c2 c7 c15 c16 hO hB hsz hgw2 wr
        obtain ⟨Z, hZ⟩ : ∃ Z, next L t = Z := ⟨_, rfl⟩
        rw [hZ] at HSS HN
        clear hZ
        have s1 : IntKind.i64.wrap ((E1 : Int) + (x7 : Int)) = ((E1 + x7 : Nat) : Int) := by rw [IntWalk.i64_in _ (by omega)]; rfl
        have s2 : IntKind.i64.wrap (((E1 + x7 : Nat) : Int) + (F1 : Int)) = ((E1 + x7 + F1 : Nat) : Int) := by rw [IntWalk.i64_in _ (by omega)]; rfl
        have s3 : IntKind.i64.wrap (((E1 + x7 + F1 : Nat) : Int) + (x16 : Int)) = ((E1 + x7 + F1 + x16 : Nat) : Int) := by rw [IntWalk.i64_in _ (by omega)]; rfl
        have s4 : ((E1 + x7 + F1 + x16 : Nat) : Int).tmod 4294967296 = (Z : Int) := by rw [HN.out]; exact Int.ofNat_tmod _ 4294967296
        obtain ⟨T1, hT1⟩ : ∃ T, E1 + x7 = T := ⟨_, rfl⟩
        rw [hT1] at s1 s2 s3 s4
        obtain ⟨T2, hT2⟩ : ∃ T, T1 + F1 = T := ⟨_, rfl⟩
        rw [hT2] at s2 s3 s4
        obtain ⟨T3, hT3⟩ : ∃ T, T2 + x16 = T := ⟨_, rfl⟩
        rw [hT3] at s3 s4
        clear hT1 hT2 hT3 HN
        have qw7 : IntKind.i64.wrap ((t : Int) - 7) = (j7 : Int) := by rw [IntWalk.i64_in _ (by omega)]; omega
        have qw16 : IntKind.i64.wrap ((t : Int) - 16) = (j16 : Int) := by rw [IntWalk.i64_in _ (by omega)]; omega
        have lt7 : (j7 : Int) < (t : Int) := by omega
        have lt16 : (j16 : Int) < (t : Int) := by omega
        clear q7 q16 q2 q15
        have hOD : OwnW W.drew g (Value.slice (some ⟨gw, ow, none⟩) t cw) L := hOW
        go_region_law (refine step_appW rfl (.tmp 58) (.tmp 75) rfl g (Value.slice (some ⟨gw, ow, none⟩) t cw) L rfl hOD _ Z rfl rfl hszl hszW ?_; intro v6 w6 ho6 hb6)
        all_goals
          go_wp2
          refine ⟨?rel, ?measure⟩
          case rel => exact ⟨t + 1, by omega, by go_num, by rw [HSS.out]; exact ho6, hBW.trans (below_of_drew hb6)⟩
          case measure => simp [intOf]; omega
    · obtain rfl : t = 64 := by omega
      obtain ⟨Aw, cw, rfl, hRw⟩ := hO.slice 64 hsl
      obtain ⟨L, hL⟩ : ∃ L, sched bs 64 = L := ⟨_, rfl⟩
      have HL := Lib.hid hL
      have hLlt : ∀ x ∈ L, x < 4294967296 := by rw [← hL]; exact sched_lt bs 64
      rw [hL] at hRw
      clear hO hsl hszl hL ht hlt
      have HS0 := Lib.hid (HR0.out.keep (by rw [HG.out]; exact hB))
      have HK := Lib.hid (rk_any wr)
      have HB0 := Lib.hid hB
      have HRw := Lib.hid hRw
      clear hRw hB
      go_wp2_with fail
      refine HK.out.mono ?_
      rintro e w2 ⟨vk, rfl, hOk, hBk⟩
      obtain ⟨Ak, ck, rfl, hRk⟩ := hOk.slice 64 KL_len
      have HRK := Lib.hid hRk
      have HR2 := Lib.hid (HRw.out.keep hBk)
      have HS2 := Lib.hid (HS0.out.keep hBk)
      have HB2 := Lib.hid (HB0.out.trans (hBk.mono hsz))
      have hsz2 : g ≤ w2.heap.size := Nat.le_trans hsz hBk.size
      clear hRk hOk HRw HS0 HB0 HK hBk hsz HR hcap hga
      obtain ⟨gl, hgl⟩ : ∃ gl, w2.heap.size = gl := ⟨_, rfl⟩
      obtain ⟨W3, hW3⟩ : ∃ W3, w2.alloc (.cells #[.int .i64 0, .int .i64 0, .int .i64 0, .int .i64 0, .int .i64 0, .int .i64 0, .int .i64 0, .int .i64 0] 64) = W3 := ⟨_, rfl⟩
      have HB3 : Hid (BlkW W3 gl 64 (cpL S.l 0) ∧ Below gl w2 W3) := by
        rw [← hW3, ← hgl]
        exact ⟨heap_alloc_new w2 _, (Below.refl _ _).alloc (Nat.le_refl _) _⟩
      have HGL := Lib.hid hgl
      have hggl : g ≤ gl := by omega
      go_wp2
      go_loopw [13] (fun i wr => ∃ k : Nat, k ≤ 8 ∧ i = .int .i64 k ∧ BlkW wr gl 64 (cpL S.l k) ∧ Below gl w2 wr) (fun i _ => 8 - (intOf i).toNat)
      case atStart => exact ⟨0, Nat.zero_le _, rfl, HB3.out.1, HB3.out.2⟩
      case round =>
        obtain ⟨k, hk, rfl, hb, hbw⟩ := hrel
        by_cases hlt2 : k < 8
        · obtain ⟨gs, os, rfl, hgs, hcs⟩ := (HS2.out.keep (by rw [HGL.out]; exact hbw)).cells (by omega)
          have c1 := hcs k hlt2
          have c2 := hb.cell k (by rw [cpL_len S k hk]; omega)
          have hfz := hb.frozen k
          have HBL := Lib.hid hb
          have HBW := Lib.hid hbw
          have bi : (k : Int) < 8 := by omega
          obtain ⟨y, hy⟩ : ∃ y, S.l.getD k 0 = y := ⟨_, rfl⟩
          obtain ⟨z, hz⟩ : ∃ z, (cpL S.l k).getD k 0 = z := ⟨_, rfl⟩
          rw [hy] at c1
          rw [hz] at c2
          have HY := Lib.hid hy
          clear hb hbw hcs hy hz
          go_wp2
          go_roundw
          case rel =>
            refine ⟨k + 1, by omega, by go_num, ?_, HBW.out.setCell (Nat.le_refl _) _⟩
            rw [← cpL_set S k hlt2, HY.out]
            exact HBL.out.set _ _
          case measure => simp [intOf]; omega
        · have hk8 : k = 8 := by omega
          rw [hk8, cpL_all] at hb
          obtain ⟨W4, rfl⟩ : ∃ W4, W4 = wr := ⟨_, rfl⟩
          have H4 := Lib.hid (And.intro hb hbw)
          have hk8i : ¬ (k : Int) < 8 := by omega
          clear hb hbw HB3 hlt2 hk hk8
          have hLlt' := Lib.hid hLlt
          clear hLlt
          go_wp2
          go_loopw [14] (fun i wr => ∃ t : Nat, t ≤ 64 ∧ i = .int .i64 t ∧ BlkW wr gl 64 (rounds L S t).l ∧ Below gl w2 wr) (fun i _ => 64 - (intOf i).toNat)
          case atStart => exact ⟨0, Nat.zero_le _, rfl, H4.out.1, H4.out.2⟩
          case round =>
            obtain ⟨t, ht, rfl, hb, hbw⟩ := hrel
            by_cases hlt3 : t < 64
            · have hok := rounds_ok (l := L) hS t
              have HSU : Hid (rounds L S (t + 1) = rnd (rounds L S t) ((KL.getD t 0 + L.getD t 0) % 4294967296)) := by show rounds L S (t + 1) = _; rw [rounds]
              obtain ⟨V, hV⟩ : ∃ V, rounds L S t = V := ⟨_, rfl⟩
              rw [hV] at hb hok HSU
              clear hV
              obtain ⟨va, vb, vc, vd, ve, vf, vg, vh⟩ := V
              obtain ⟨la, lb, lc, ld, le, lf, lg, lh⟩ := hok
              simp only at la lb lc ld le lf lg lh
              have dc0 : wr.cell? ⟨gl, 0, none⟩ = some (I va) := hb.cell 0 (by simp [St.l])
              have c1 : wr.cell? ⟨gl, 1, none⟩ = some (I vb) := hb.cell 1 (by simp [St.l])
              have c2 : wr.cell? ⟨gl, 2, none⟩ = some (I vc) := hb.cell 2 (by simp [St.l])
              have c4 : wr.cell? ⟨gl, 4, none⟩ = some (I ve) := hb.cell 4 (by simp [St.l])
              have c5 : wr.cell? ⟨gl, 5, none⟩ = some (I vf) := hb.cell 5 (by simp [St.l])
              have c6 : wr.cell? ⟨gl, 6, none⟩ = some (I vg) := hb.cell 6 (by simp [St.l])
              have c7 : wr.cell? ⟨gl, 7, none⟩ = some (I vh) := hb.cell 7 (by simp [St.l])
              obtain ⟨gk, ok, rfl, hgk, hck⟩ := (HRK.out.keep (by rw [HGL.out]; exact hbw)).cells (by omega)
              obtain ⟨gw, ow, rfl, hgw', hcw⟩ := (HR2.out.keep (by rw [HGL.out]; exact hbw)).cells (by omega)
              have ck1 := hck t hlt3
              have cw1 := hcw t hlt3
              have lk := getD_lt KL_lt t
              have lw := getD_lt hLlt'.out t
              obtain ⟨kt, hkt⟩ : ∃ kt, KL.getD t 0 = kt := ⟨_, rfl⟩
              obtain ⟨xt, hxt⟩ : ∃ xt, L.getD t 0 = xt := ⟨_, rfl⟩
              rw [hkt] at ck1 lk HSU
              rw [hxt] at cw1 lw HSU
              clear hck hcw hkt hxt
              have HB5 := Lib.hid (And.intro hb hbw)
              clear hb hbw
              have q6 := fun W => rrot_any ve 6 le (by omega) (by omega) W 6 rfl
              have q11 := fun W => rrot_any ve 11 le (by omega) (by omega) W 11 rfl
              have q25 := fun W => rrot_any ve 25 le (by omega) (by omega) W 25 rfl
              have q2 := fun W => rrot_any va 2 la (by omega) (by omega) W 2 rfl
              have q13 := fun W => rrot_any va 13 la (by omega) (by omega) W 13 rfl
              have q22 := fun W => rrot_any va 22 la (by omega) (by omega) W 22 rfl
              have qx := fun W => xor_any _ _ _ (rotr_lt ve 6 le (by omega)) (rotr_lt ve 11 le (by omega)) (rotr_lt ve 25 le (by omega)) W
              have qy := fun W => xor_any _ _ _ (rotr_lt va 2 la (by omega)) (rotr_lt va 13 la (by omega)) (rotr_lt va 22 la (by omega)) W
              have qc := fun W => choose_any ve vf vg le lf lg W
              have qm := fun W => most_any va vb vc la lb lc W
              have e1 : bs1 ve = rotr ve 6 ^^^ rotr ve 11 ^^^ rotr ve 25 := by unfold bs1; rfl
              have e0 : bs0 va = rotr va 2 ^^^ rotr va 13 ^^^ rotr va 22 := by unfold bs0; rfl
              rw [← e1] at qx
              rw [← e0] at qy
              have lx := bs1_lt le
              have ly := bs0_lt la
              have lch : ch ve vf vg < 4294967296 := ch_lt lf lg
              have lmj : maj va vb vc < 4294967296 := maj_lt lb lc
              have HF : Hid (fst ⟨va, vb, vc, vd, ve, vf, vg, vh⟩ ((kt + xt) % 4294967296) = (vh + bs1 ve + ch ve vf vg + kt + xt) % 4294967296) := by
                show fst _ _ = _
                unfold fst
                simp only
                omega
              have HSn : Hid (snd ⟨va, vb, vc, vd, ve, vf, vg, vh⟩ = (bs0 va + maj va vb vc) % 4294967296) := by
                show snd _ = _
                unfold snd
                simp only
              have HRN : Hid ((rnd ⟨va, vb, vc, vd, ve, vf, vg, vh⟩ ((kt + xt) % 4294967296)).l = [(fst ⟨va, vb, vc, vd, ve, vf, vg, vh⟩ ((kt + xt) % 4294967296) + snd ⟨va, vb, vc, vd, ve, vf, vg, vh⟩) % 4294967296, va, vb, vc, (vd + fst ⟨va, vb, vc, vd, ve, vf, vg, vh⟩ ((kt + xt) % 4294967296)) % 4294967296, ve, vf, vg]) := by
                show St.l _ = _
                simp only [rnd, St.l]
              rw [← HSU.out] at HRN
              clear HSU
              obtain ⟨F, hF⟩ : ∃ F, fst ⟨va, vb, vc, vd, ve, vf, vg, vh⟩ ((kt + xt) % 4294967296) = F := ⟨_, rfl⟩
              obtain ⟨G, hG⟩ : ∃ G, snd ⟨va, vb, vc, vd, ve, vf, vg, vh⟩ = G := ⟨_, rfl⟩
              rw [hF] at HF HRN
              rw [hG] at HSn HRN
              clear hF hG e1 e0
              obtain ⟨r1, h1⟩ : ∃ X, rotr ve 6 = X := ⟨_, rfl⟩
              obtain ⟨r2, h2⟩ : ∃ X, rotr ve 11 = X := ⟨_, rfl⟩
              obtain ⟨r3, h3⟩ : ∃ X, rotr ve 25 = X := ⟨_, rfl⟩
              obtain ⟨r4, h4⟩ : ∃ X, rotr va 2 = X := ⟨_, rfl⟩
              obtain ⟨r5, h5⟩ : ∃ X, rotr va 13 = X := ⟨_, rfl⟩
              obtain ⟨r6, h6⟩ : ∃ X, rotr va 22 = X := ⟨_, rfl⟩
              obtain ⟨X, hX⟩ : ∃ X, bs1 ve = X := ⟨_, rfl⟩
              obtain ⟨Y, hY⟩ : ∃ X, bs0 va = X := ⟨_, rfl⟩
              obtain ⟨C, hC⟩ : ∃ X, ch ve vf vg = X := ⟨_, rfl⟩
              obtain ⟨M, hM⟩ : ∃ X, maj va vb vc = X := ⟨_, rfl⟩
              simp only [h1, h2, h3, h4, h5, h6, hX, hY, hC, hM] at q6 q11 q25 q2 q13 q22 qx qy qc qm lx ly lch lmj HF HSn
              clear h1 h2 h3 h4 h5 h6 hX hY hC hM
              have s1 : IntKind.i64.wrap ((vh : Int) + (X : Int)) = ((vh + X : Nat) : Int) := by rw [IntWalk.i64_in _ (by omega)]; rfl
              have s2 : IntKind.i64.wrap (((vh + X : Nat) : Int) + (C : Int)) = ((vh + X + C : Nat) : Int) := by rw [IntWalk.i64_in _ (by omega)]; rfl
              have s3 : IntKind.i64.wrap (((vh + X + C : Nat) : Int) + (kt : Int)) = ((vh + X + C + kt : Nat) : Int) := by rw [IntWalk.i64_in _ (by omega)]; rfl
              have s4 : IntKind.i64.wrap (((vh + X + C + kt : Nat) : Int) + (xt : Int)) = ((vh + X + C + kt + xt : Nat) : Int) := by rw [IntWalk.i64_in _ (by omega)]; rfl
              have s5 : ((vh + X + C + kt + xt : Nat) : Int).tmod 4294967296 = (F : Int) := by rw [HF.out]; exact Int.ofNat_tmod _ 4294967296
              have s6 : IntKind.i64.wrap ((Y : Int) + (M : Int)) = ((Y + M : Nat) : Int) := by rw [IntWalk.i64_in _ (by omega)]; rfl
              have s7 : ((Y + M : Nat) : Int).tmod 4294967296 = (G : Int) := by rw [HSn.out]; exact Int.ofNat_tmod _ 4294967296
              have lF : F < 4294967296 := by rw [HF.out]; exact mod_lt' _
              have lG : G < 4294967296 := by rw [HSn.out]; exact mod_lt' _
              obtain ⟨T1, hT1⟩ : ∃ T, vh + X = T := ⟨_, rfl⟩
              rw [hT1] at s1 s2 s3 s4 s5
              obtain ⟨T2, hT2⟩ : ∃ T, T1 + C = T := ⟨_, rfl⟩
              rw [hT2] at s2 s3 s4 s5
              obtain ⟨T3, hT3⟩ : ∃ T, T2 + kt = T := ⟨_, rfl⟩
              rw [hT3] at s3 s4 s5
              obtain ⟨T4, hT4⟩ : ∃ T, T3 + xt = T := ⟨_, rfl⟩
              rw [hT4] at s4 s5
              obtain ⟨T6, hT6⟩ : ∃ T, Y + M = T := ⟨_, rfl⟩
              rw [hT6] at s6 s7
              clear hT1 hT2 hT3 hT4 hT6 HF HSn
              replace q6 := Lib.hid q6
              replace q11 := Lib.hid q11
              replace q25 := Lib.hid q25
              replace q2 := Lib.hid q2
              replace q13 := Lib.hid q13
              replace q22 := Lib.hid q22
              replace qx := Lib.hid qx
              replace qy := Lib.hid qy
              replace qc := Lib.hid qc
              replace qm := Lib.hid qm
              have bt : (t : Int) < 64 := by omega
              go_wp2
              go_big_quiet (first
                | (go_at_call 47; with_reducible refine Calls.quiet_of (drew1 (q6.out _)))
                | (go_at_call 47; with_reducible refine Calls.quiet_of (drew1 (q11.out _)))
                | (go_at_call 47; with_reducible refine Calls.quiet_of (drew1 (q25.out _)))
                | (go_at_call 46; with_reducible refine Calls.quiet_of_same (qx.out _))
                | (go_at_call 49; with_reducible refine Calls.quiet_of_same (qc.out _)))
              obtain ⟨wq, hwq⟩ : ∃ wq, wr.drewN nq = wq := ⟨_, rfl⟩
              have dq0 : wq.cell? ⟨gl, 0, none⟩ = some (I va) := by rw [← hwq]; exact dc0
              have dq1 : wq.cell? ⟨gl, 1, none⟩ = some (I vb) := by rw [← hwq]; exact c1
              have dq2 : wq.cell? ⟨gl, 2, none⟩ = some (I vc) := by rw [← hwq]; exact c2
              have HB5' : Hid (BlkW wq gl 64 (St.mk va vb vc vd ve vf vg vh).l ∧ Below gl w2 wq) := by
                show _ ∧ _
                rw [← hwq]
                exact ⟨HB5.out.1, HB5.out.2.trans ⟨rfl, rfl, rfl, Nat.le_refl _, fun _ _ => rfl⟩⟩
              rw [hwq]
              clear hwq dc0 c1 c2 c4 c5 c6 c7 ck1 cw1 HB5
              go_wp2
              go_big_quiet (first
                | (go_at_call 47; with_reducible refine Calls.quiet_of (drew1 (q2.out _)))
                | (go_at_call 47; with_reducible refine Calls.quiet_of (drew1 (q13.out _)))
                | (go_at_call 47; with_reducible refine Calls.quiet_of (drew1 (q22.out _)))
                | (go_at_call 46; with_reducible refine Calls.quiet_of_same (qy.out _))
                | (go_at_call 50; with_reducible refine Calls.quiet_of_same (qm.out _)))
              obtain ⟨W5, hW5⟩ : ∃ W5, wq.drewN nq = W5 := ⟨_, rfl⟩
              have HB6 : Hid (BlkW W5 gl 64 (shL (St.mk va vb vc vd ve vf vg vh).l 7) ∧ Below gl w2 W5) := by
                show _ ∧ _
                rw [← hW5, shL_seven]
                exact ⟨HB5'.out.1, HB5'.out.2.trans ⟨rfl, rfl, rfl, Nat.le_refl _, fun _ _ => rfl⟩⟩
              rw [hW5]
              clear hW5 dq0 dq1 dq2 HB5' s1 s2 s3 s4 s5 s6 s7 q6 q11 q25 q2 q13 q22 qx qy qc qm
              obtain ⟨V, hV⟩ : ∃ V, St.mk va vb vc vd ve vf vg vh = V := ⟨_, rfl⟩
              have HV := Lib.hid hV
              rw [hV] at HB6
              clear hV
              go_wp2
              go_loopw [17] (fun j wr => ∃ i : Nat, i ≤ 7 ∧ j = .int .i64 i ∧ BlkW wr gl 64 (shL V.l i) ∧ Below gl w2 wr) (fun j _ => (intOf j).toNat)
              case atStart => exact ⟨7, Nat.le_refl _, rfl, HB6.out.1, HB6.out.2⟩
              case round =>
                obtain ⟨i, hi, rfl, hb, hbw⟩ := hrel
                by_cases hpos : 0 < i
                · obtain ⟨i', hii⟩ : ∃ i', i' + 1 = i := ⟨i - 1, by omega⟩
                  have d1 := hb.cell i' (by rw [shL_len _ _ hi]; omega)
                  have d2 := hb.cell i (by rw [shL_len _ _ hi]; omega)
                  have d3 := hb.frozen i
                  have HSE := Lib.hid (shL_set V i' (by omega))
                  rw [hii] at HSE
                  have HSG := shL_get V i' (by omega)
                  rw [hii] at HSG
                  rw [HSG] at d1
                  obtain ⟨y, hy⟩ : ∃ y, V.l.getD i' 0 = y := ⟨_, rfl⟩
                  obtain ⟨z, hz⟩ : ∃ z, (shL V.l i).getD i 0 = z := ⟨_, rfl⟩
                  rw [hy] at d1 HSE
                  rw [hz] at d2
                  have HBL := Lib.hid hb
                  have HBW := Lib.hid hbw
                  have qi : (i : Int) - 1 = (i' : Int) := by omega
                  have b1 : (i' : Int) < 8 := by omega
                  have b2 : (i : Int) < 8 := by omega
                  have b3 : (0 : Int) < (i : Int) := by omega
                  clear hb hbw hy hz HSG la lb lc ld le lf lg lh lx ly lch lmj lk lw lF lG hgk hgw' HV HRN HB6
                  go_wp2
                  go_roundw
                  case rel =>
                    refine ⟨i', by omega, rfl, ?_, HBW.out.setCell (Nat.le_refl _) _⟩
                    rw [← HSE.out]
                    exact HBL.out.set _ _
                  case measure => simp [intOf]; omega
                · obtain rfl : i = 0 := by omega
                  rw [← HV.out] at hb
                  have d0 : wr.cell? ⟨gl, 4, none⟩ = some (I vd) := hb.cell 4 (by simp [shL, St.l])
                  have f0 := hb.frozen 0
                  have f4 := hb.frozen 4
                  have d1 : wr.cell? ⟨gl, 0, none⟩ = some (I va) := hb.cell 0 (by simp [shL, St.l])
                  obtain ⟨Z4, hZ4⟩ : ∃ Z, (vd + F) % 4294967296 = Z := ⟨_, rfl⟩
                  obtain ⟨Z0, hZ0⟩ : ∃ Z, (F + G) % 4294967296 = Z := ⟨_, rfl⟩
                  rw [hZ4, hZ0] at HRN
                  have z4 : ((vd : Int) + (F : Int)) % 4294967296 = (Z4 : Int) := by omega
                  have z0 : ((F : Int) + (G : Int)) % 4294967296 = (Z0 : Int) := by omega
                  have HBL := Lib.hid hb
                  have HBW := Lib.hid hbw
                  clear hb hbw hZ4 hZ0 la lb lc le lf lg lh lx ly lch lmj lk lw hgk hgw' HV HB6
                  go_wp2
                  refine ⟨⟨t + 1, by omega, by go_num, ?_, (HBW.out.setCell (Nat.le_refl _) _).setCell (Nat.le_refl _) _⟩, by simp [intOf]; omega⟩
                  rw [HRN.out]
                  have := (HBL.out.set 4 Z4).set 0 Z0
                  simpa [shL, St.l] using this
            · have ht64 : t = 64 := by omega
              rw [ht64] at hb
              have hok := rounds_ok (l := L) hS 64
              obtain ⟨V, hV⟩ : ∃ V, rounds L S 64 = V := ⟨_, rfl⟩
              rw [hV] at hb hok
              have HV : Hid (mixS S bs = plus S V) := by show mixS S bs = _; unfold mixS; rw [HL.out, hV]
              have ht64i : ¬ (t : Int) < 64 := by omega
              clear hV hlt3 ht ht64
              obtain ⟨W6, rfl⟩ : ∃ W6, W6 = wr := ⟨_, rfl⟩
              have hsz6 : gl < W6.heap.size := by
                rcases Nat.lt_or_ge gl W6.heap.size with hlt | hge
                · exact hlt
                · unfold BlkW at hb; rw [Array.getElem?_eq_none hge] at hb; cases hb
              have H6 := Lib.hid (And.intro hb hbw)
              clear hb hbw
              obtain ⟨g6, hg6⟩ : ∃ g6, W6.heap.size = g6 := ⟨_, rfl⟩
              have HG6 := Lib.hid hg6
              rw [hg6] at hsz6
              go_wp2
              go_loopw [18, 19] (fun v i wr => ∃ k : Nat, k ≤ 8 ∧ i = .int .i64 k ∧ OwnW wr g6 v ((plus S V).l.take k) ∧ Below g6 W6 wr) (fun _ i _ => 8 - (intOf i).toNat)
              case atStart => exact ⟨0, Nat.zero_le _, rfl, OwnW.nil _ _, Below.refl _ _⟩
              case round =>
                obtain ⟨k, hk, rfl, hO, hB⟩ := hrel
                by_cases hlt4 : k < 8
                · have hBB := H6.out.2.trans (hB.mono (Nat.le_of_lt hsz6))
                  have hb := (hB.block gl hsz6).trans H6.out.1
                  obtain ⟨gs, os, rfl, hgs, hcs⟩ := (HS2.out.keep (by rw [HGL.out]; exact hBB)).cells (by omega)
                  have c1 := hcs k hlt4
                  have c2 : wr.cell? ⟨gl, k, none⟩ = some (I (V.l.getD k 0)) := BlkW.cell hb k (by simp [St.l]; omega)
                  have l1 := l_lt hS k
                  have l2 := l_lt hok k
                  have HPG := Lib.hid (plus_get S V k hlt4)
                  have hlen := plus_tlen S V k hk
                  obtain ⟨x, hx⟩ : ∃ x, S.l.getD k 0 = x := ⟨_, rfl⟩
                  obtain ⟨y, hy⟩ : ∃ y, V.l.getD k 0 = y := ⟨_, rfl⟩
                  rw [hx] at c1 l1 HPG
                  rw [hy] at c2 l2 HPG
                  obtain ⟨Z, hZ⟩ : ∃ Z, (x + y) % 4294967296 = Z := ⟨_, rfl⟩
                  rw [hZ] at HPG
                  obtain ⟨P, hP⟩ : ∃ P, (plus S V).l.take k = P := ⟨_, rfl⟩
                  rw [hP] at hO HPG hlen
                  have s1 : IntKind.i64.wrap ((x : Int) + (y : Int)) = ((x + y : Nat) : Int) := by rw [IntWalk.i64_in _ (by omega)]; rfl
                  have s2 : ((x + y : Nat) : Int).tmod 4294967296 = (Z : Int) := by rw [← hZ]; exact Int.ofNat_tmod _ 4294967296
                  obtain ⟨T, hT⟩ : ∃ T, x + y = T := ⟨_, rfl⟩
                  rw [hT] at s1 s2
                  have bi : (k : Int) < 8 := by omega
                  have hszl : P.length + 1 ≤ 1048576 := by rw [hlen]; omega
                  have hszr : g6 ≤ wr.heap.size := by have := hB.size; rw [HG6.out] at this; exact this
                  have HBL := Lib.hid hB
                  clear hcs hx hy hZ hP hT hb hBB l1 l2 hB
                  have hOD : OwnW wr.drew g6 u18 P := hO
                  go_wp2
                  go_region_law (refine step_appW rfl (.tmp 168) (.tmp 178) rfl g6 u18 P rfl hOD _ Z rfl rfl hszl hszr ?_; intro v6 w6 ho6 hb6)
                  all_goals
                    go_wp2
                    refine ⟨?rel, ?measure⟩
                    case rel => exact ⟨k + 1, by omega, by go_num, by rw [HPG.out]; exact ho6, HBL.out.trans (below_of_drew hb6)⟩
                    case measure => simp [intOf]; omega
                · obtain rfl : k = 8 := by omega
                  rw [plus_all] at hO
                  have HO := Lib.hid hO
                  have HBL := Lib.hid hB
                  clear hO hB
                  go_wp2
                  go_ret
                  refine ⟨_, rfl, ?_, ?_⟩
                  · rw [HV.out]; exact HO.out.le (by omega)
                  · exact HB2.out.trans ((H6.out.2.mono hggl).trans (HBL.out.mono (by omega)))
end Go.Proofs.YtmimffbjghhdhaaDoor
