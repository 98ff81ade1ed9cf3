/- bytes of the law; what every law asks. Conditions: none. -/
import Derived.Test.YtikajhfaoccicaaD8
import Derived.Deep.RegionHeld3
namespace Go.Proofs.Ytikajhfaoccicaa
open Go.RowKit Go.Bs Go.Dk

def by16 (x : UInt8) : List UInt8 := (zeros 16).set 3 x
theorem by16_length (x : UInt8) : (by16 x).length = 16 := rfl
theorem Did.at {D : Nat → Prop} {g : Nat} {s : S} {w w' : World} (h : Did D g s w w') : ∃ D', DiskAt w' g s D' ∧ (∀ k, D' k → D k ∨ w.heap.size ≤ k) ∧ Fr D w w' := h
set_option maxHeartbeats 1000000 in
theorem bytes_any (x : UInt8) (w : World) : Calls Try.prog 28 #[.int .u8 (x.toNat : Int)] w fun e w' => e = .returned (.slice (some ⟨w.heap.size, 0, none⟩) 16 16) ∧ Blk w' w.heap.size 5 (by16 x) ∧ Below w.heap.size w w' := by
  have hmk := make_zeros 16 (by omega) w
  obtain ⟨W, hW⟩ : ∃ W, w.alloc (rowObj 5 (zeros 16)) = W := ⟨_, rfl⟩
  obtain ⟨z, hz⟩ : ∃ z, w.heap.size = z := ⟨_, rfl⟩
  have hblk : Blk W z 5 (zeros 16) := by rw [← hW, ← hz]; exact Blk.new w 5 (zeros 16)
  have hB : Below z w W := by rw [← hW, ← hz]; exact (Below.refl _ _).alloc (Nat.le_refl _) _
  have hc := hblk.cell 3 (by decide)
  have hf := hblk.frozen 3
  rw [hW, hz] at hmk
  rw [hz]
  have HK := Lib.hid (hblk.set 3 x)
  have HB := Lib.hid (hB.setCell (p := ⟨z, 3, none⟩) (Nat.le_refl _) (B x))
  clear hblk hB hW
  have hmk' : (Instr.makeSlice 32 (.int .i64 16) (.int .i64 16)).run Try.prog w = .ok (.slice (some ⟨z, 0, none⟩) 16 16) W := hmk
  clear hmk
  go_enter Try.func28, Try.ntmps28
  go_wp2
  go_ret
  exact ⟨rfl, HK.out, HB.out⟩

def a0 : S := S.new 2 16
def a1 : S := ⟨2, 16, fun _ => zeros 16, [(0, by16 1)], true, 1, 0, []⟩
def a2 : S := ⟨2, 16, cur (fun _ => zeros 16) [(0, by16 1)], [], true, 2, 0, []⟩
def a3 : S := ⟨2, 16, cur (fun _ => zeros 16) [(0, by16 1)], [(0, by16 2)], true, 3, 0, []⟩
def a4 : S := ⟨2, 16, cur (fun _ => zeros 16) [(0, by16 1)], [(0, by16 2), (1, by16 3)], true, 4, 0, []⟩
def a5 : S := ⟨2, 16, cur (cur (fun _ => zeros 16) [(0, by16 1)]) [(1, by16 3)], [], false, 4, 0, []⟩
theorem a1_eq : a0.write 0 (by16 1) = (a1, 0) := rfl
theorem a2_eq : a1.flush = (a2, 0) := rfl
theorem a3_eq : a2.write 0 (by16 2) = (a3, 0) := rfl
theorem a4_eq : a3.write 1 (by16 3) = (a4, 0) := rfl
theorem a5_eq : a4.crash [false, true] = a5 := rfl
theorem r5_eq : a5.read 0 = ([], 50) := rfl
theorem r6_eq : a5.on.read 0 = (by16 1, 0) := rfl
theorem r7_eq : a5.on.read 1 = (by16 3, 0) := rfl
theorem fine0 : a0.Fine := Nat.zero_le _
theorem fine2 : a2.Fine := Nat.zero_le _
theorem fine3 : a3.Fine := by show 1 ≤ 3; omega

theorem readV_rd {w w' : World} {v : Value} {bs : List UInt8} (h : ReadV w w' v bs) (n : Nat) (hn : bs.length = n) (h0 : 0 < n) : v = .slice (some ⟨w.heap.size, 0, none⟩) n n ∧ Blk w' w.heap.size 5 bs := by
  subst hn
  rcases h with ⟨_, rfl⟩ | h
  · simp at h0
  · exact h
theorem readV_nil {w w' : World} {v : Value} (h : ReadV w w' v []) : ∃ A c, v = .slice A 0 c := by
  rcases h with ⟨rfl, _⟩ | ⟨rfl, _⟩
  · exact ⟨none, 0, rfl⟩
  · exact ⟨_, 0, rfl⟩

/-- a disk that lies in blocks that were not there. -/
def DF (w w' : World) (g : Nat) (s : S) : Prop := ∃ D, DiskAt w' g s D ∧ (∀ k, D k → w.heap.size ≤ k) ∧ Below w.heap.size w w'
theorem DF.below {w a b : World} {g : Nat} {s : S} (h : DF w a g s) (hb : Below a.heap.size a b) : DF w b g s := by
  obtain ⟨D, h1, h2, h3⟩ := h
  exact ⟨D, h1.below hb, h2, bstep h3 hb⟩
theorem DF.bel {w a : World} {g : Nat} {s : S} (h : DF w a g s) : Below w.heap.size w a := by obtain ⟨D, h1, h2, h3⟩ := h; exact h3
theorem DF.step {w a b : World} {g : Nat} {s : S} {D : Nat → Prop} (h2 : ∀ k, D k → w.heap.size ≤ k) (h3 : Below w.heap.size w a) (hd : Did D g s a b) : DF w b g s := by
  obtain ⟨D', h4, h5, h6⟩ := hd
  refine ⟨D', h4, fun k hk => ?_, h3.trans (h6.below h2 h3.size)⟩
  rcases h5 k hk with h | h
  · exact h2 k h
  · exact Nat.le_trans h3.size h
theorem Write_df {w a : World} {g : Nat} {s : S} (h : DF w a g s) (hf : s.Fine) (hd : s.deeds < 900000) (i : Int) (A : Option Addr) (n c : Nat) (bs : List UInt8) (hr : Rd a A n c bs) (hn : n ≤ 17592186044416) (s' : S) (r : Int) (e : s.write i bs = (s', r)) :
    Calls Try.prog 13 #[.pointer (some ⟨g, 0, none⟩), .int .i64 i, .slice A n c] a fun e b => e = .returned (.int .i64 r) ∧ DF w b g s' := by
  obtain ⟨D, h1, h2, h3⟩ := h
  refine (Write_any a g s D h1 hf hd i A n c bs hr hn).mono ?_
  rw [e]
  exact fun e b ⟨he, hd⟩ => ⟨he, DF.step h2 h3 hd⟩
theorem Flush_df {w a : World} {g : Nat} {s : S} (h : DF w a g s) (hd : s.deeds < 900000) (s' : S) (r : Int) (e : s.flush = (s', r)) :
    Calls Try.prog 15 #[.pointer (some ⟨g, 0, none⟩)] a fun e b => e = .returned (.int .i64 r) ∧ DF w b g s' := by
  obtain ⟨D, h1, h2, h3⟩ := h
  refine (Flush_any a g s D h1 hd).mono ?_
  rw [e]
  exact fun e b ⟨he, hd⟩ => ⟨he, DF.step h2 h3 hd⟩
theorem Crash_df {w a : World} {g : Nat} {s : S} (h : DF w a g s) (hd : s.deeds < 900000) (A : Option Addr) (n c : Nat) (ks : List Bool) (hr : RdQ a A n c ks) (s' : S) (e : s.crash ks = s') :
    Calls Try.prog 19 #[.pointer (some ⟨g, 0, none⟩), .slice A n c] a fun e b => (∃ v, e = .returned v) ∧ DF w b g s' := by
  obtain ⟨D, h1, h2, h3⟩ := h
  refine (Crash_any a g s D h1 (by omega) A n c ks hr).mono ?_
  rw [e]
  exact fun e b ⟨he, hd⟩ => ⟨he, DF.step h2 h3 hd⟩
theorem On_df {w a : World} {g : Nat} {s : S} (h : DF w a g s) : Calls Try.prog 21 #[.pointer (some ⟨g, 0, none⟩)] a fun e b => (∃ v, e = .returned v) ∧ DF w b g s.on := by
  obtain ⟨D, h1, h2, h3⟩ := h
  exact (On_any a g s D h1).mono fun e b ⟨he, hd⟩ => ⟨he, DF.step h2 h3 hd⟩
theorem Read_df {w a : World} {g : Nat} {s : S} (h : DF w a g s) (i : Int) (bs : List UInt8) (r : Int) (e : s.read i = (bs, r)) :
    Calls Try.prog 23 #[.pointer (some ⟨g, 0, none⟩), .int .i64 i] a fun e b => ∃ v, e = .returned (.tuple #[v, .int .i64 r]) ∧ ReadV a b v bs ∧ DF w b g s ∧ Below a.heap.size a b := by
  obtain ⟨D, h1, h2, h3⟩ := h
  refine (Read_any a g s D h1 i).mono ?_
  rw [e]
  exact fun e b ⟨v, he, hv, hb⟩ => ⟨v, he, hv, DF.below ⟨D, h1, h2, h3⟩ hb, hb⟩
theorem Deeds_df {w a : World} {g : Nat} {s : S} (h : DF w a g s) : Calls Try.prog 27 #[.pointer (some ⟨g, 0, none⟩)] a fun e b => e = .returned (.int .i64 (s.deeds : Int)) ∧ a = b := by
  obtain ⟨D, h1, h2, h3⟩ := h
  exact Deeds_any a g s D h1

set_option maxRecDepth 100000 in
set_option maxHeartbeats 4000000 in
theorem awake_any (w : World) : Calls Try.prog 11 #[] w fun e w' => e = .returned (.bool true) ∧ Below w.heap.size w w' := by
  have hN := Lib.hid (New_any 2 16 (by omega) (by omega) (by omega) (by omega) w)
  go_enter Try.func11, Try.ntmps11
  go_wp2_with fail
  refine hN.out.mono ?_
  rintro e w1 ⟨g, D1, rfl, hd1, hk1, hb1⟩
  have H1 : Hid (DF w w1 g a0) := ⟨D1, hd1, hk1, hb1⟩
  clear hd1 hk1 hb1
  go_wp2_with fail
  refine (bytes_any 1 w1).mono ?_
  rintro e w2 ⟨rfl, hb, hb2⟩
  have HW := Lib.hid (Write_df (H1.out.below hb2) fine0 (by decide) 0 _ 16 16 _ (hb.all' 16 16 rfl (Nat.le_refl _)) (by omega) _ _ a1_eq)
  clear hb hb2
  go_wp2_with fail
  refine HW.out.mono ?_
  rintro e w3 ⟨rfl, h3⟩
  have HW := Lib.hid (Flush_df h3 (by decide) _ _ a2_eq)
  clear h3
  go_wp2_with fail
  refine HW.out.mono ?_
  rintro e w4 ⟨rfl, h4⟩
  have H4 := Lib.hid h4
  clear h4
  go_wp2_with fail
  refine (bytes_any 2 w4).mono ?_
  rintro e w5 ⟨rfl, hb, hb2⟩
  have HW := Lib.hid (Write_df (H4.out.below hb2) fine2 (by decide) 0 _ 16 16 _ (hb.all' 16 16 rfl (Nat.le_refl _)) (by omega) _ _ a3_eq)
  clear hb hb2
  go_wp2_with fail
  refine HW.out.mono ?_
  rintro e w6 ⟨rfl, h6⟩
  have H6 := Lib.hid h6
  clear h6
  go_wp2_with fail
  refine (bytes_any 3 w6).mono ?_
  rintro e w7 ⟨rfl, hb, hb2⟩
  have HW := Lib.hid (Write_df (H6.out.below hb2) fine3 (by decide) 1 _ 16 16 _ (hb.all' 16 16 rfl (Nat.le_refl _)) (by omega) _ _ a4_eq)
  clear hb hb2
  go_wp2_with fail
  refine HW.out.mono ?_
  rintro e w8 ⟨rfl, h8⟩
  have hq : RdQ (w8.alloc (.cells #[.bool false, .bool true] 4)) (some ⟨w8.heap.size, 0, none⟩) 2 2 [false, true] := ⟨rfl, Nat.le_refl _, fun _ => ⟨w8.heap.size, 0, rfl, by simp, fun j hj => by
    rw [cell_of_row _ w8.heap.size _ _ 4 (0, 0) (heap_alloc_new w8 _)]
    match j, hj with
    | 0, _ => rfl
    | 1, _ => rfl⟩⟩
  have HC := Lib.hid (Crash_df (h8.below ((Below.refl _ _).alloc (Nat.le_refl _) (.cells #[.bool false, .bool true] 4))) (by decide) _ 2 2 _ hq _ a5_eq)
  clear h8 hq
  go_wp2_with fail
  refine HC.out.mono ?_
  rintro e w9 ⟨⟨v, rfl⟩, h9⟩
  have HR := Lib.hid (Read_df h9 0 _ _ r5_eq)
  clear h9
  go_wp2_with fail
  refine HR.out.mono ?_
  rintro e w10 ⟨v10, rfl, hv10, h10, _⟩
  obtain ⟨A10, c10, rfl⟩ := readV_nil hv10
  have HO := Lib.hid (On_df h10)
  clear h10 hv10
  go_wp2_with fail
  refine HO.out.mono ?_
  rintro e w11 ⟨⟨v11, rfl⟩, h11⟩
  have HR := Lib.hid (Read_df h11 0 _ _ r6_eq)
  clear h11
  go_wp2_with fail
  refine HR.out.mono ?_
  rintro e w12 ⟨v12, rfl, hv12, h12, _⟩
  obtain ⟨rfl, hk12⟩ := readV_rd hv12 16 rfl (by omega)
  have HR := Lib.hid (Read_df h12 1 _ _ r7_eq)
  have HK12 := Lib.hid hk12
  clear h12 hv12 hk12
  go_wp2_with fail
  refine HR.out.mono ?_
  rintro e w13 ⟨v13, rfl, hv13, h13, hb13⟩
  obtain ⟨rfl, hk13⟩ := readV_rd hv13 16 rfl (by omega)
  obtain ⟨z12, hz12⟩ : ∃ z, w12.heap.size = z := ⟨_, rfl⟩
  obtain ⟨z11, hz11⟩ : ∃ z, w11.heap.size = z := ⟨_, rfl⟩
  rw [hz12] at hk13 ⊢
  rw [hz11]
  rw [hz11] at HK12
  have HRA := Lib.hid ((HK12.out.all' 16 16 rfl (Nat.le_refl _)).keep hb13)
  have HRB := Lib.hid (hk13.all' 16 16 rfl (Nat.le_refl _))
  have H13 := Lib.hid h13
  obtain ⟨va, hva⟩ : ∃ v, Value.slice (some ⟨z11, 0, none⟩) 16 16 = v := ⟨_, rfl⟩
  obtain ⟨vb, hvb⟩ : ∃ v, Value.slice (some ⟨z12, 0, none⟩) 16 16 = v := ⟨_, rfl⟩
  have HCA : Hid (∀ W, Below w13.heap.size w13 W → (convert 32 9 va).run Try.prog W = .ok (.string ⟨(by16 1).toArray⟩) W) := fun W hW => by
    rw [← hva]; exact string_rd W _ _ _ _ (HRA.out.keep hW)
  have HCB : Hid (∀ W, Below w13.heap.size w13 W → (convert 32 9 vb).run Try.prog W = .ok (.string ⟨(by16 3).toArray⟩) W) := fun W hW => by
    rw [← hvb]; exact string_rd W _ _ _ _ (HRB.out.keep hW)
  rw [hva, hvb]
  clear hva hvb hk13 hv13 hb13 h13 hz11 hz12 HK12 HR HO HC HW hN H1 H4 H6
  go_wp2_with fail
  have hd1 : Below w13.heap.size w13 w13.drew := (Below.refl _ _).drew
  have hdd : ((a5.on.deeds : Nat) : Int) = 4 := rfl
  refine wp_region_held_drew (S := fun W => (convert 32 9 va).run Try.prog W = .ok (.string ⟨(by16 1).toArray⟩) W ∧ (convert 32 9 vb).run Try.prog W = .ok (.string ⟨(by16 3).toArray⟩) W) (by kernel_rfl) (⟨HCA.out _ hd1, HCB.out _ hd1⟩) (fun hHeld => ?_)
  refine wpAnyH_take (i := 0) (oi := { dst := some 52, op := Op.move (Operand.tmp 3), type := 26, pos := "law.go:38", after := #[], guard := none }) (v := ?v0) rfl (by kernel_rfl) (by kernel_rfl) (by kernel_rfl) (fun _ _ _ h => h) (Or.inl ⟨by rfl, ?hy0⟩) hHeld ?_
  case hy0 => (intro w hSw; (try dsimp only at hSw); go_simp; first | done | with_reducible rfl)
  try simp only [Act.put, List.setIfInBounds_toArray, List.set_cons_zero, List.set_cons_succ]
  refine wpAnyH_take (i := 1) (oi := { dst := some 53, op := Op.binOp BinOp.eql 26 (Operand.tmp 52) (Operand.const (Value.int IntKind.i64 0)) 26, type := 4, pos := "law.go:38", after := #[{ on := 0, ground := Ground.data }], guard := none }) (v := ?v1) rfl (by kernel_rfl) (by kernel_rfl) (by kernel_rfl) (fun _ _ _ h => h) (Or.inl ⟨by rfl, ?hy1⟩) hHeld ?_
  case hy1 => (intro w hSw; (try dsimp only at hSw); go_simp; first | done | with_reducible rfl)
  try simp only [Act.put, List.setIfInBounds_toArray, List.set_cons_zero, List.set_cons_succ]
  refine wpAnyH_take (i := 2) (oi := { dst := some 54, op := Op.move (Operand.tmp 53), type := 4, pos := "law.go:38", after := #[{ on := 1, ground := Ground.data }], guard := none }) (v := ?v2) rfl (by kernel_rfl) (by kernel_rfl) (by kernel_rfl) (fun _ _ _ h => h) (Or.inl ⟨by rfl, ?hy2⟩) hHeld ?_
  case hy2 => (intro w hSw; (try dsimp only at hSw); go_simp; first | done | with_reducible rfl)
  try simp only [Act.put, List.setIfInBounds_toArray, List.set_cons_zero, List.set_cons_succ]
  refine wpAnyH_take (i := 3) (oi := { dst := some 55, op := Op.move (Operand.tmp 4), type := 26, pos := "law.go:38", after := #[{ on := 2, ground := Ground.guard }], guard := some (2, true) }) (v := ?v3) rfl (by kernel_rfl) (by kernel_rfl) (by kernel_rfl) (fun _ _ _ h => h) (Or.inl ⟨by rfl, ?hy3⟩) hHeld ?_
  case hy3 => (intro w hSw; (try dsimp only at hSw); go_simp; first | done | with_reducible rfl)
  try simp only [Act.put, List.setIfInBounds_toArray, List.set_cons_zero, List.set_cons_succ]
  refine wpAnyH_take (i := 4) (oi := { dst := some 56, op := Op.binOp BinOp.eql 26 (Operand.tmp 55) (Operand.const (Value.int IntKind.i64 0)) 26, type := 4, pos := "law.go:38", after := #[{ on := 3, ground := Ground.data }, { on := 2, ground := Ground.guard }], guard := some (2, true) }) (v := ?v4) rfl (by kernel_rfl) (by kernel_rfl) (by kernel_rfl) (fun _ _ _ h => h) (Or.inl ⟨by rfl, ?hy4⟩) hHeld ?_
  case hy4 => (intro w hSw; (try dsimp only at hSw); go_simp; first | done | with_reducible rfl)
  try simp only [Act.put, List.setIfInBounds_toArray, List.set_cons_zero, List.set_cons_succ]
  refine wpAnyH_take (i := 5) (oi := { dst := some 57, op := Op.pick (Operand.tmp 54) (Operand.tmp 56) (Operand.const (Value.bool false)), type := 4, pos := "law.go:38", after := #[{ on := 2, ground := Ground.data }, { on := 4, ground := Ground.data }], guard := none }) (v := ?v5) rfl (by kernel_rfl) (by kernel_rfl) (by kernel_rfl) (fun _ _ _ h => h) (Or.inl ⟨by rfl, ?hy5⟩) hHeld ?_
  case hy5 => (intro w hSw; (try dsimp only at hSw); go_simp; first | done | with_reducible rfl)
  try simp only [Act.put, List.setIfInBounds_toArray, List.set_cons_zero, List.set_cons_succ]
  refine wpAnyH_take (i := 6) (oi := { dst := some 58, op := Op.move (Operand.tmp 57), type := 4, pos := "law.go:38", after := #[{ on := 5, ground := Ground.data }, { on := 2, ground := Ground.chain }], guard := none }) (v := ?v6) rfl (by kernel_rfl) (by kernel_rfl) (by kernel_rfl) (fun _ _ _ h => h) (Or.inl ⟨by rfl, ?hy6⟩) hHeld ?_
  case hy6 => (intro w hSw; (try dsimp only at hSw); go_simp; first | done | with_reducible rfl)
  try simp only [Act.put, List.setIfInBounds_toArray, List.set_cons_zero, List.set_cons_succ]
  refine wpAnyH_take (i := 7) (oi := { dst := some 59, op := Op.move (Operand.tmp 6), type := 26, pos := "law.go:38", after := #[{ on := 6, ground := Ground.guard }], guard := some (6, true) }) (v := ?v7) rfl (by kernel_rfl) (by kernel_rfl) (by kernel_rfl) (fun _ _ _ h => h) (Or.inl ⟨by rfl, ?hy7⟩) hHeld ?_
  case hy7 => (intro w hSw; (try dsimp only at hSw); go_simp; first | done | with_reducible rfl)
  try simp only [Act.put, List.setIfInBounds_toArray, List.set_cons_zero, List.set_cons_succ]
  refine wpAnyH_take (i := 8) (oi := { dst := some 60, op := Op.binOp BinOp.eql 26 (Operand.tmp 59) (Operand.const (Value.int IntKind.i64 50)) 26, type := 4, pos := "law.go:38", after := #[{ on := 7, ground := Ground.data }, { on := 6, ground := Ground.guard }], guard := some (6, true) }) (v := ?v8) rfl (by kernel_rfl) (by kernel_rfl) (by kernel_rfl) (fun _ _ _ h => h) (Or.inl ⟨by rfl, ?hy8⟩) hHeld ?_
  case hy8 => (intro w hSw; (try dsimp only at hSw); go_simp; first | done | with_reducible rfl)
  try simp only [Act.put, List.setIfInBounds_toArray, List.set_cons_zero, List.set_cons_succ]
  refine wpAnyH_take (i := 9) (oi := { dst := some 61, op := Op.pick (Operand.tmp 58) (Operand.tmp 60) (Operand.const (Value.bool false)), type := 4, pos := "law.go:38", after := #[{ on := 6, ground := Ground.data }, { on := 8, ground := Ground.data }], guard := none }) (v := ?v9) rfl (by kernel_rfl) (by kernel_rfl) (by kernel_rfl) (fun _ _ _ h => h) (Or.inl ⟨by rfl, ?hy9⟩) hHeld ?_
  case hy9 => (intro w hSw; (try dsimp only at hSw); go_simp; first | done | with_reducible rfl)
  try simp only [Act.put, List.setIfInBounds_toArray, List.set_cons_zero, List.set_cons_succ]
  refine wpAnyH_take (i := 10) (oi := { dst := some 62, op := Op.move (Operand.tmp 61), type := 4, pos := "law.go:38", after := #[{ on := 9, ground := Ground.data }, { on := 6, ground := Ground.chain }], guard := none }) (v := ?v10) rfl (by kernel_rfl) (by kernel_rfl) (by kernel_rfl) (fun _ _ _ h => h) (Or.inl ⟨by rfl, ?hy10⟩) hHeld ?_
  case hy10 => (intro w hSw; (try dsimp only at hSw); go_simp; first | done | with_reducible rfl)
  try simp only [Act.put, List.setIfInBounds_toArray, List.set_cons_zero, List.set_cons_succ]
  refine wpAnyH_take (i := 11) (oi := { dst := some 63, op := Op.move (Operand.tmp 10), type := 26, pos := "law.go:38", after := #[{ on := 10, ground := Ground.guard }], guard := some (10, true) }) (v := ?v11) rfl (by kernel_rfl) (by kernel_rfl) (by kernel_rfl) (fun _ _ _ h => h) (Or.inl ⟨by rfl, ?hy11⟩) hHeld ?_
  case hy11 => (intro w hSw; (try dsimp only at hSw); go_simp; first | done | with_reducible rfl)
  try simp only [Act.put, List.setIfInBounds_toArray, List.set_cons_zero, List.set_cons_succ]
  refine wpAnyH_take (i := 12) (oi := { dst := some 64, op := Op.binOp BinOp.eql 26 (Operand.tmp 63) (Operand.const (Value.int IntKind.i64 0)) 26, type := 4, pos := "law.go:38", after := #[{ on := 11, ground := Ground.data }, { on := 10, ground := Ground.guard }], guard := some (10, true) }) (v := ?v12) rfl (by kernel_rfl) (by kernel_rfl) (by kernel_rfl) (fun _ _ _ h => h) (Or.inl ⟨by rfl, ?hy12⟩) hHeld ?_
  case hy12 => (intro w hSw; (try dsimp only at hSw); go_simp; first | done | with_reducible rfl)
  try simp only [Act.put, List.setIfInBounds_toArray, List.set_cons_zero, List.set_cons_succ]
  refine wpAnyH_take (i := 13) (oi := { dst := some 65, op := Op.pick (Operand.tmp 62) (Operand.tmp 64) (Operand.const (Value.bool false)), type := 4, pos := "law.go:38", after := #[{ on := 10, ground := Ground.data }, { on := 12, ground := Ground.data }], guard := none }) (v := ?v13) rfl (by kernel_rfl) (by kernel_rfl) (by kernel_rfl) (fun _ _ _ h => h) (Or.inl ⟨by rfl, ?hy13⟩) hHeld ?_
  case hy13 => (intro w hSw; (try dsimp only at hSw); go_simp; first | done | with_reducible rfl)
  try simp only [Act.put, List.setIfInBounds_toArray, List.set_cons_zero, List.set_cons_succ]
  refine wpAnyH_take (i := 14) (oi := { dst := some 66, op := Op.move (Operand.tmp 65), type := 4, pos := "law.go:38", after := #[{ on := 13, ground := Ground.data }, { on := 10, ground := Ground.chain }], guard := none }) (v := ?v14) rfl (by kernel_rfl) (by kernel_rfl) (by kernel_rfl) (fun _ _ _ h => h) (Or.inl ⟨by rfl, ?hy14⟩) hHeld ?_
  case hy14 => (intro w hSw; (try dsimp only at hSw); go_simp; first | done | with_reducible rfl)
  try simp only [Act.put, List.setIfInBounds_toArray, List.set_cons_zero, List.set_cons_succ]
  refine wpAnyH_take (i := 15) (oi := { dst := some 67, op := Op.move (Operand.tmp 7), type := 32, pos := "law.go:38", after := #[{ on := 14, ground := Ground.guard }], guard := some (14, true) }) (v := ?v15) rfl (by kernel_rfl) (by kernel_rfl) (by kernel_rfl) (fun _ _ _ h => h) (Or.inl ⟨by rfl, ?hy15⟩) hHeld ?_
  case hy15 => (intro w hSw; (try dsimp only at hSw); go_simp; first | done | with_reducible rfl)
  try simp only [Act.put, List.setIfInBounds_toArray, List.set_cons_zero, List.set_cons_succ]
  refine wpAnyH_take (i := 16) (oi := { dst := some 68, op := Op.convert 32 9 (Operand.tmp 67), type := 9, pos := "law.go:38", after := #[{ on := 15, ground := Ground.data }, { on := 14, ground := Ground.guard }], guard := some (14, true) }) (v := ?v16) rfl (by kernel_rfl) (by kernel_rfl) (by kernel_rfl) (fun _ _ _ h => h) (Or.inl ⟨by rfl, ?hy16⟩) hHeld ?_
  case hy16 => (intro w hSw; (try dsimp only at hSw); go_simp; first | done | with_reducible rfl)
  try simp only [Act.put, List.setIfInBounds_toArray, List.set_cons_zero, List.set_cons_succ]
  refine wpAnyH_ready (rs := [17]) (by kernel_rfl) (by simp) ?_
  refine AllReadyH.cons (o := { dst := some 69, op := Op.call { callee := Callee.value (Operand.func 28), args := #[Operand.const (Value.int IntKind.u8 1)], argTypes := #[5] }, type := 32, pos := "law.go:38", after := #[{ on := 14, ground := Ground.chain }, { on := 14, ground := Ground.guard }], guard := some (14, true) }) rfl (fun K hK => ?_) AllReadyH.nil
  go_simp
  refine (bytes_any 1 _).mono ?_
  rintro e wA ⟨rfl, hkA, hbA⟩
  have hd2 := Bs.below_step hd1 hbA
  have e3 := string_rd wA _ _ _ _ (hkA.all' 16 16 rfl (Nat.le_refl _))
  generalize Value.slice _ 16 16 = vA at e3 ⊢
  clear hkA hbA
  go_wp2_with fail
  refine hK.out _ _ (⟨HCA.out _ hd2, HCB.out _ hd2⟩) (fun hHeld => ?_)
  clear hK K
  try simp only [Act.put, List.setIfInBounds_toArray, List.set_cons_zero, List.set_cons_succ]
  refine wpAnyH_ready (rs := [18]) (by kernel_rfl) (by simp) ?_
  refine AllReadyH.cons (o := { dst := some 70, op := Op.convert 32 9 (Operand.tmp 69), type := 9, pos := "law.go:38", after := #[{ on := 17, ground := Ground.data }, { on := 14, ground := Ground.guard }], guard := some (14, true) }) rfl (fun K hK => ?_) AllReadyH.nil
  go_simp
  refine hK.out _ _ (hHeld) (fun hHeld => ?_)
  clear hK K
  try simp only [Act.put, List.setIfInBounds_toArray, List.set_cons_zero, List.set_cons_succ]
  refine wpAnyH_take (i := 19) (oi := { dst := some 71, op := Op.binOp BinOp.eql 9 (Operand.tmp 68) (Operand.tmp 70) 9, type := 4, pos := "law.go:38", after := #[{ on := 16, ground := Ground.data }, { on := 18, ground := Ground.data }, { on := 14, ground := Ground.guard }], guard := some (14, true) }) (v := ?v19) rfl (by kernel_rfl) (by kernel_rfl) (by kernel_rfl) (fun _ _ _ h => h) (Or.inl ⟨by rfl, ?hy19⟩) hHeld ?_
  case hy19 => (intro w hSw; (try dsimp only at hSw); go_simp; first | done | with_reducible rfl)
  try simp only [Act.put, List.setIfInBounds_toArray, List.set_cons_zero, List.set_cons_succ]
  refine wpAnyH_take (i := 20) (oi := { dst := some 72, op := Op.pick (Operand.tmp 66) (Operand.tmp 71) (Operand.const (Value.bool false)), type := 4, pos := "law.go:38", after := #[{ on := 14, ground := Ground.data }, { on := 19, ground := Ground.data }], guard := none }) (v := ?v20) rfl (by kernel_rfl) (by kernel_rfl) (by kernel_rfl) (fun _ _ _ h => h) (Or.inl ⟨by rfl, ?hy20⟩) hHeld ?_
  case hy20 => (intro w hSw; (try dsimp only at hSw); go_simp; first | done | with_reducible rfl)
  try simp only [Act.put, List.setIfInBounds_toArray, List.set_cons_zero, List.set_cons_succ]
  refine wpAnyH_take (i := 21) (oi := { dst := some 73, op := Op.move (Operand.tmp 72), type := 4, pos := "law.go:38", after := #[{ on := 20, ground := Ground.data }, { on := 17, ground := Ground.chain }], guard := none }) (v := ?v21) rfl (by kernel_rfl) (by kernel_rfl) (by kernel_rfl) (fun _ _ _ h => h) (Or.inl ⟨by rfl, ?hy21⟩) hHeld ?_
  case hy21 => (intro w hSw; (try dsimp only at hSw); go_simp; first | done | with_reducible rfl)
  try simp only [Act.put, List.setIfInBounds_toArray, List.set_cons_zero, List.set_cons_succ]
  refine wpAnyH_take (i := 22) (oi := { dst := some 74, op := Op.move (Operand.tmp 9), type := 32, pos := "law.go:38", after := #[{ on := 21, ground := Ground.guard }], guard := some (21, true) }) (v := ?v22) rfl (by kernel_rfl) (by kernel_rfl) (by kernel_rfl) (fun _ _ _ h => h) (Or.inl ⟨by rfl, ?hy22⟩) hHeld ?_
  case hy22 => (intro w hSw; (try dsimp only at hSw); go_simp; first | done | with_reducible rfl)
  try simp only [Act.put, List.setIfInBounds_toArray, List.set_cons_zero, List.set_cons_succ]
  refine wpAnyH_take (i := 23) (oi := { dst := some 75, op := Op.convert 32 9 (Operand.tmp 74), type := 9, pos := "law.go:38", after := #[{ on := 22, ground := Ground.data }, { on := 21, ground := Ground.guard }], guard := some (21, true) }) (v := ?v23) rfl (by kernel_rfl) (by kernel_rfl) (by kernel_rfl) (fun _ _ _ h => h) (Or.inl ⟨by rfl, ?hy23⟩) hHeld ?_
  case hy23 => (intro w hSw; (try dsimp only at hSw); go_simp; first | done | with_reducible rfl)
  try simp only [Act.put, List.setIfInBounds_toArray, List.set_cons_zero, List.set_cons_succ]
  refine wpAnyH_ready (rs := [24]) (by kernel_rfl) (by simp) ?_
  refine AllReadyH.cons (o := { dst := some 76, op := Op.call { callee := Callee.value (Operand.func 28), args := #[Operand.const (Value.int IntKind.u8 3)], argTypes := #[5] }, type := 32, pos := "law.go:38", after := #[{ on := 21, ground := Ground.chain }, { on := 21, ground := Ground.guard }], guard := some (21, true) }) rfl (fun K hK => ?_) AllReadyH.nil
  go_simp
  refine (bytes_any 3 _).mono ?_
  rintro e wB ⟨rfl, hkB, hbB⟩
  have hd3 := Bs.below_step hd2 hbB
  have e4 := string_rd wB _ _ _ _ (hkB.all' 16 16 rfl (Nat.le_refl _))
  generalize Value.slice _ 16 16 = vB at e4 ⊢
  clear hkB hbB e3
  go_wp2_with fail
  refine hK.out _ _ (⟨HCA.out _ hd3, HCB.out _ hd3⟩) (fun hHeld => ?_)
  clear hK K
  try simp only [Act.put, List.setIfInBounds_toArray, List.set_cons_zero, List.set_cons_succ]
  refine wpAnyH_ready (rs := [25]) (by kernel_rfl) (by simp) ?_
  refine AllReadyH.cons (o := { dst := some 77, op := Op.convert 32 9 (Operand.tmp 76), type := 9, pos := "law.go:38", after := #[{ on := 24, ground := Ground.data }, { on := 21, ground := Ground.guard }], guard := some (21, true) }) rfl (fun K hK => ?_) AllReadyH.nil
  go_simp
  refine hK.out _ _ (hHeld) (fun hHeld => ?_)
  clear hK K
  try simp only [Act.put, List.setIfInBounds_toArray, List.set_cons_zero, List.set_cons_succ]
  refine wpAnyH_take (i := 26) (oi := { dst := some 78, op := Op.binOp BinOp.eql 9 (Operand.tmp 75) (Operand.tmp 77) 9, type := 4, pos := "law.go:38", after := #[{ on := 23, ground := Ground.data }, { on := 25, ground := Ground.data }, { on := 21, ground := Ground.guard }], guard := some (21, true) }) (v := ?v26) rfl (by kernel_rfl) (by kernel_rfl) (by kernel_rfl) (fun _ _ _ h => h) (Or.inl ⟨by rfl, ?hy26⟩) hHeld ?_
  case hy26 => (intro w hSw; (try dsimp only at hSw); go_simp; first | done | with_reducible rfl)
  try simp only [Act.put, List.setIfInBounds_toArray, List.set_cons_zero, List.set_cons_succ]
  refine wpAnyH_take (i := 27) (oi := { dst := some 79, op := Op.pick (Operand.tmp 73) (Operand.tmp 78) (Operand.const (Value.bool false)), type := 4, pos := "law.go:38", after := #[{ on := 21, ground := Ground.data }, { on := 26, ground := Ground.data }], guard := none }) (v := ?v27) rfl (by kernel_rfl) (by kernel_rfl) (by kernel_rfl) (fun _ _ _ h => h) (Or.inl ⟨by rfl, ?hy27⟩) hHeld ?_
  case hy27 => (intro w hSw; (try dsimp only at hSw); go_simp; first | done | with_reducible rfl)
  try simp only [Act.put, List.setIfInBounds_toArray, List.set_cons_zero, List.set_cons_succ]
  refine wpAnyH_take (i := 28) (oi := { dst := some 80, op := Op.move (Operand.tmp 79), type := 4, pos := "law.go:38", after := #[{ on := 27, ground := Ground.data }, { on := 24, ground := Ground.chain }], guard := none }) (v := ?v28) rfl (by kernel_rfl) (by kernel_rfl) (by kernel_rfl) (fun _ _ _ h => h) (Or.inl ⟨by rfl, ?hy28⟩) hHeld ?_
  case hy28 => (intro w hSw; (try dsimp only at hSw); go_simp; first | done | with_reducible rfl)
  try simp only [Act.put, List.setIfInBounds_toArray, List.set_cons_zero, List.set_cons_succ]
  refine wpAnyH_take (i := 29) (oi := { dst := some 81, op := Op.move (Operand.tmp 1), type := 25, pos := "law.go:38", after := #[{ on := 28, ground := Ground.guard }], guard := some (28, true) }) (v := ?v29) rfl (by kernel_rfl) (by kernel_rfl) (by kernel_rfl) (fun _ _ _ h => h) (Or.inl ⟨by rfl, ?hy29⟩) hHeld ?_
  case hy29 => (intro w hSw; (try dsimp only at hSw); go_simp; first | done | with_reducible rfl)
  try simp only [Act.put, List.setIfInBounds_toArray, List.set_cons_zero, List.set_cons_succ]
  refine wpAnyH_ready (rs := [30]) (by kernel_rfl) (by simp) ?_
  refine AllReadyH.cons (o := { dst := some 82, op := Op.call { callee := Callee.value (Operand.func 27), args := #[Operand.tmp 81], argTypes := #[25] }, type := 3, pos := "law.go:38", after := #[{ on := 29, ground := Ground.data }, { on := 28, ground := Ground.chain }, { on := 28, ground := Ground.guard }], guard := some (28, true) }) rfl (fun K hK => ?_) AllReadyH.nil
  go_simp
  refine (Deeds_df (H13.out.below hd3)).mono ?_
  rintro e wC ⟨rfl, rfl⟩
  go_wp2_with fail
  refine hK.out _ _ (⟨HCA.out _ hd3, HCB.out _ hd3⟩) (fun hHeld => ?_)
  clear hK K
  try simp only [Act.put, List.setIfInBounds_toArray, List.set_cons_zero, List.set_cons_succ]
  refine wpAnyH_take (i := 31) (oi := { dst := some 83, op := Op.binOp BinOp.eql 3 (Operand.tmp 82) (Operand.const (Value.int IntKind.i64 4)) 3, type := 4, pos := "law.go:38", after := #[{ on := 30, ground := Ground.data }, { on := 28, ground := Ground.guard }], guard := some (28, true) }) (v := ?v31) rfl (by kernel_rfl) (by kernel_rfl) (by kernel_rfl) (fun _ _ _ h => h) (Or.inl ⟨by rfl, ?hy31⟩) hHeld ?_
  case hy31 => (intro w hSw; (try dsimp only at hSw); go_simp; first | done | with_reducible rfl)
  try simp only [Act.put, List.setIfInBounds_toArray, List.set_cons_zero, List.set_cons_succ]
  refine wpAnyH_take (i := 32) (oi := { dst := some 84, op := Op.pick (Operand.tmp 80) (Operand.tmp 83) (Operand.const (Value.bool false)), type := 4, pos := "law.go:38", after := #[{ on := 28, ground := Ground.data }, { on := 31, ground := Ground.data }], guard := none }) (v := ?v32) rfl (by kernel_rfl) (by kernel_rfl) (by kernel_rfl) (fun _ _ _ h => h) (Or.inl ⟨by rfl, ?hy32⟩) hHeld ?_
  case hy32 => (intro w hSw; (try dsimp only at hSw); go_simp; first | done | with_reducible rfl)
  try simp only [Act.put, List.setIfInBounds_toArray, List.set_cons_zero, List.set_cons_succ]
  refine wpAnyH_take (i := 33) (oi := { dst := some 0, op := Op.assign (Operand.tmp 84), type := 4, pos := "law.go:38", after := #[{ on := 32, ground := Ground.data }, { on := 30, ground := Ground.chain }, { on := 0, ground := Ground.phase }, { on := 1, ground := Ground.phase }, { on := 2, ground := Ground.phase }, { on := 3, ground := Ground.phase }, { on := 4, ground := Ground.phase }, { on := 5, ground := Ground.phase }, { on := 6, ground := Ground.phase }, { on := 7, ground := Ground.phase }, { on := 8, ground := Ground.phase }, { on := 9, ground := Ground.phase }, { on := 10, ground := Ground.phase }, { on := 11, ground := Ground.phase }, { on := 12, ground := Ground.phase }, { on := 13, ground := Ground.phase }, { on := 14, ground := Ground.phase }, { on := 15, ground := Ground.phase }, { on := 16, ground := Ground.phase }, { on := 17, ground := Ground.phase }, { on := 18, ground := Ground.phase }, { on := 19, ground := Ground.phase }, { on := 20, ground := Ground.phase }, { on := 21, ground := Ground.phase }, { on := 22, ground := Ground.phase }, { on := 23, ground := Ground.phase }, { on := 24, ground := Ground.phase }, { on := 25, ground := Ground.phase }, { on := 26, ground := Ground.phase }, { on := 27, ground := Ground.phase }, { on := 28, ground := Ground.phase }, { on := 29, ground := Ground.phase }, { on := 30, ground := Ground.phase }, { on := 31, ground := Ground.phase }, { on := 32, ground := Ground.phase }], guard := none }) (v := ?v33) rfl (by kernel_rfl) (by kernel_rfl) (by kernel_rfl) (fun _ _ _ h => h) (Or.inl ⟨by rfl, ?hy33⟩) hHeld ?_
  case hy33 => (intro w hSw; (try dsimp only at hSw); go_simp; first | done | with_reducible rfl)
  try simp only [Act.put, List.setIfInBounds_toArray, List.set_cons_zero, List.set_cons_succ]
  refine wpAnyH_done (by kernel_rfl) ?_ _
  go_wp2
  go_ret
  exact ⟨rfl, H13.out.bel.trans (hd3.mono H13.out.bel.size)⟩
end Go.Proofs.Ytikajhfaoccicaa
