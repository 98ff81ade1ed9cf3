/- Armed, on, up: the disk's calls that pages alone do not need. Conditions: none. What a transaction sees, as a text. Conditions: none. -/
import Derived.Test.YtephmcbofcfpmaaGreatJ07
import Derived.Test.YtephmcbofcfpmaaGreatJ31
import Derived.Test.YtephmcbofcfpmaaGreatJ32
import Derived.Lib.Hide
set_option maxRecDepth 8000
set_option linter.unusedSimpArgs false
set_option linter.unusedVariables false
namespace Go.Proofs.YtephmcbofcfpmaaGreat
open Go.RowKit Go.Bs Go.Dk
set_option maxHeartbeats 1000000 in
theorem Up_any (w : World) (g : Nat) (s : S) (D : Nat → Prop) (h : DiskAt w g s D) : Calls Tryz.prog 41 #[.pointer (some ⟨g, 0, none⟩)] w fun e w' => e = .returned (.bool s.up) ∧ w = w' := by
  obtain ⟨m, cv, kv, M, E, h⟩ := h
  have H := Lib.hid (ready_any w g s m cv kv h.row)
  clear h
  go_enter Tryz.func41, Tryz.ntmps41
  go_wp2_with fail
  refine H.out.mono ?_
  rintro e w1 ⟨rfl, rfl⟩
  unfold rdy
  cases hu : s.up
  · go_wp2
    go_ret
    rw [hu]
    exact ⟨rfl, rfl⟩
  · go_wp2
    go_ret
    rw [hu]
    exact ⟨rfl, rfl⟩
theorem Up_nil (w : World) : Calls Tryz.prog 41 #[.pointer none] w fun e w' => e = .returned (.bool false) ∧ w = w' := by
  have H := Lib.hid (ready_nil w)
  go_enter Tryz.func41, Tryz.ntmps41
  go_wp2_with fail
  refine H.out.mono ?_
  rintro e w1 ⟨rfl, rfl⟩
  go_wp2
  go_ret
  exact ⟨rfl, rfl⟩
set_option maxHeartbeats 1000000 in
theorem CloneQ_any (A : Option Addr) (n c : Nat) (ks : List Bool) (w : World) (h : RdQ w A n c ks) (hn : n ≤ 17592186044416) :
    Calls Tryz.prog 79 #[.slice A n c] w fun e w' => ∃ A' c', e = .returned (.slice A' n c') ∧ RdQ w' A' n c' ks ∧ (∀ a, A' = some a → w.heap.size ≤ a.block ∧ a.block < w'.heap.size) ∧ Below w.heap.size w w' := by
  rcases A with _ | a
  · have hm : n = 0 := by
      rcases Nat.eq_zero_or_pos n with h0 | h0
      · exact h0
      · obtain ⟨_, _, h, _⟩ := h.cells h0
        cases h
    subst hm
    obtain rfl : ks = [] := List.eq_nil_of_length_eq_zero h.len
    clear h
    have he : ∀ w, (binOp .eql 40 (.slice none 0 c) (.slice none 0 0)).run Tryz.prog w = .ok (.bool true) w := fun _ => rfl
    go_enter Tryz.func79, Tryz.ntmps79
    go_wp2
    go_ret
    exact ⟨none, 0, rfl, RdQ.nil _ _ _, fun a e => (by cases e), Below.refl _ _⟩
  · have he := nil_neQ a n c
    have HR := Lib.hid h
    have HO := Lib.hid (OwnQ.empty w)
    have HL := Lib.hid h.len
    clear h
    go_enter Tryz.func79, Tryz.ntmps79
    go_wp2_with (first | (at_builtin; refine wpList_appQ _ rfl _ _ rfl w.heap.size _ [] rfl HO.out _ n c ks rfl (HR.out.alloc _) (by simp; omega) (by simp) ?_; intro v' w1 ho hb) | go_in)
    go_ret
    obtain ⟨A', c', rfl, hr, ha⟩ := ho.slice n HL.out
    exact ⟨A', c', rfl, hr, ha, ((Below.refl _ _).alloc (Nat.le_refl _) _).trans hb⟩

set_option maxHeartbeats 1000000 in
theorem Arm_any (w : World) (g : Nat) (s : S) (D : Nat → Prop) (h : DiskAt w g s D) (i : Int) (hi : i ≤ 9223372036854775807) (A : Option Addr) (n c : Nat) (ks : List Bool) (hr : RdQ w A n c ks) (hn : n ≤ 17592186044416) :
    Calls Tryz.prog 39 #[.pointer (some ⟨g, 0, none⟩), .int .i64 i, .slice A n c] w fun e w' => (∃ v, e = .returned v) ∧ Did D g (s.arm i ks) w w' := by
  obtain ⟨m, cv, kv, M, E, h⟩ := h
  have HC := Lib.hid (CloneQ_any A n c ks w hr hn)
  have HD := Lib.hid h
  have HL := Lib.hid hr.len
  clear h hr
  have hmax : ∀ W, (Builtin.max_ #[3, 3] 3 #[.int .i64 i, .int .i64 0]).run Tryz.prog W = .ok (.int .i64 ((i.toNat : Nat) : Int)) W := fun W => by
    rw [run_max_int2]
    congr 2
    split <;> omega
  obtain ⟨i', hi'⟩ : ∃ i' : Nat, i.toNat = i' := ⟨_, rfl⟩
  rw [hi'] at hmax
  have HI := Lib.hid hi'
  clear hi'
  go_enter Tryz.func39, Tryz.ntmps39
  go_wp2_with fail
  refine HC.out.mono ?_
  rintro e w1 ⟨A', c', rfl, hq, ha, hb⟩
  have hrow1 := (hb.block g (HD.out.lt g HD.out.gD)).trans HD.out.row
  obtain ⟨_, _, _, _, _, _, c6, c7, hf⟩ := dc_cells hrow1
  have hf6 := hf 6
  have hf7 := hf 7
  have HQ := Lib.hid hq
  have HA := Lib.hid ha
  have HB := Lib.hid hb
  have HR1 := Lib.hid hrow1
  clear hf hq ha hb hrow1
  go_wp2
  go_end0
  refine ⟨⟨_, rfl⟩, ?_⟩
  have hsz := HB.out.size
  have hrow2 := dc_set HR1.out 6 (.int .i64 (i' : Int)) { s with left := i' } m cv kv rfl
  have hrow3 := dc_set hrow2 7 (.slice A' n c') { s with left := i', keep := ks } m cv (.slice A' n c') rfl
  obtain ⟨W3, hW3⟩ : ∃ W3, (w1.setCell ⟨g, 6, none⟩ (.int .i64 (i' : Int))).setCell ⟨g, 7, none⟩ (.slice A' n c') = W3 := ⟨_, rfl⟩
  have hsz3 : W3.heap.size = w1.heap.size := by rw [← hW3, setCell_size, setCell_size]
  have hoth : ∀ k, k ≠ g → W3.heap[k]? = w1.heap[k]? := fun k hk => by rw [← hW3, setCell_other _ _ _ _ _ hk, setCell_other _ _ _ _ _ hk]
  rw [hW3] at hrow3
  have hs' : s.arm i ks = { s with left := i', keep := ks } := by unfold S.arm; rw [HI.out]
  show Did D g (s.arm i ks) w ((w1.setCell ⟨g, 6, none⟩ (.int .i64 (i' : Int))).setCell ⟨g, 7, none⟩ (.slice A' n c'))
  rw [hW3]
  have hD := HD.out
  refine ⟨fun k => D k ∨ (w.heap.size ≤ k ∧ k < w1.heap.size), ⟨m, cv, .slice A' n c', M, E, hD.own (hD.ok.arm i hi ks) rfl rfl rfl rfl (by rw [hs']; exact hrow3) (by omega) (fun k hd hn => (hoth k hn).trans (HB.out.block k (hD.lt k hd))) _ (fun k hd => .inl hd) (fun k hd => ?_) ⟨A', c', ?_, ?_, fun a e => ?_⟩⟩, fun k hd => hd.imp id (·.1), ?_⟩
  · rcases hd with hd | hd
    · have := hD.lt k hd; omega
    · omega
  · show _ = Value.slice A' ks.length c'
    rw [HL.out]
  · have := HQ.out.keepB (w' := W3) (by omega) fun a e => hoth _ (fun e2 => by have := (HA.out a e).1; have := hD.lt g hD.gD; omega)
    show RdQ W3 A' ks.length c' ks
    rw [HL.out]; exact this
  · have h1 := HA.out a e
    refine ⟨.inr h1, fun e2 => ?_, fun e2 => ?_, fun e2 => ?_⟩
    · have := hD.lt g hD.gD; omega
    · have := hD.lt m hD.mD; omega
    · have := hD.lt _ (hD.cD _ e2).1; omega
  · refine (Fr.of HB.out).step (D' := fun k => k = g) ⟨by rw [← hW3]; rfl, by rw [← hW3]; rfl, by rw [← hW3]; rfl, by omega, fun k _ hn => hoth k hn⟩ (fun k e => by subst e; exact .inl hD.gD)
theorem Arm_nil (w : World) (i : Int) (v : Value) : Calls Tryz.prog 39 #[.pointer none, .int .i64 i, v] w fun e w' => (∃ v, e = .returned v) ∧ w = w' := by
  go_enter Tryz.func39, Tryz.ntmps39
  go_wp2
  first | go_end0 | refine bodyPost_ret (results_none rfl _ _ _) rfl ?_
  exact ⟨⟨_, rfl⟩, rfl⟩
set_option maxHeartbeats 1000000 in
theorem On_any (w : World) (g : Nat) (s : S) (D : Nat → Prop) (h : DiskAt w g s D) :
    Calls Tryz.prog 38 #[.pointer (some ⟨g, 0, none⟩)] w fun e w' => (∃ v, e = .returned v) ∧ Did D g s.on w w' := by
  obtain ⟨m, cv, kv, M, E, h⟩ := h
  obtain ⟨_, _, _, _, c4, _, _, _, hf⟩ := dc_cells h.row
  have hf4 := hf 4
  have hrow2 := dc_set h.row 4 (.bool true) { s with up := true } m cv kv rfl
  have h2 : DB (w.setCell ⟨g, 4, none⟩ (.bool true)) g { s with up := true } D m cv kv M E :=
    h.own' ⟨h.ok.s0, h.ok.s1, h.ok.b0, h.ok.b1, h.ok.cd, h.ok.lf, h.ok.cs, h.ok.ls⟩ rfl rfl rfl rfl rfl hrow2 (setCell_size _ _ _).symm (fun k hk => setCell_other _ _ _ _ _ hk)
  have HA := Lib.hid (Arm_any _ g { s with up := true } D ⟨m, cv, kv, M, E, h2⟩ 0 (by omega) none 0 0 [] (RdQ.nil _ _ _) (by omega))
  have HF : Hid (Fr D w (w.setCell ⟨g, 4, none⟩ (.bool true))) := (Fr.refl _ _).setCell (.inl h.gD) _
  clear h h2 hrow2 hf
  go_enter Tryz.func38, Tryz.ntmps38
  go_wp2_with fail
  refine HA.out.mono ?_
  rintro e w2 ⟨⟨v, rfl⟩, hd⟩
  have HD := Lib.hid hd
  clear hd
  go_wp2
  go_end0
  exact ⟨⟨_, rfl⟩, Did.step (fun k h => .inl h) HF.out HD.out⟩
theorem On_nil (w : World) : Calls Tryz.prog 38 #[.pointer none] w fun e w' => (∃ v, e = .returned v) ∧ w = w' := by
  go_enter Tryz.func38, Tryz.ntmps38
  go_wp2
  first | go_end0 | refine bodyPost_ret (results_none rfl _ _ _) rfl ?_
  exact ⟨⟨_, rfl⟩, rfl⟩

/-! ### forget -/
end Go.Proofs.YtephmcbofcfpmaaGreat

set_option maxRecDepth 8000
set_option linter.unusedVariables false
set_option linter.unusedSimpArgs false
namespace Go.Proofs.YtephmcbofcfpmaaGreat
open Go.RowKit Go.Bs Go.Dk Rp

theorem app_strC (x y : List UInt8) : (⟨x.toArray⟩ : ByteArray) ++ ⟨y.toArray⟩ = ⟨(x ++ y).toArray⟩ := by
  apply ByteArray.ext
  simp
theorem add_strC (x y : List UInt8) (S T U : ByteArray) (hS : ⟨x.toArray⟩ = S) (hT : ⟨y.toArray⟩ = T) (hU : ⟨(x ++ y).toArray⟩ = U) (h : x.length + y.length ≤ 9223372036854775807) (W : World) : (Op.stringOp .add S T).run Tryz.prog W = .ok (.string U) W := by
  subst hS hT hU
  rw [run_string_add_sum (P := Tryz.prog) W _ _ (by show x.toArray.size + y.toArray.size ≤ _; simpa using h), app_strC]
def lkTo (N Bz M : Nat) (T : TX) : Nat → List UInt8
  | 0 => [UInt8.ofNat (Rp.le32 (T.L M) % 256), 0]
  | k + 1 => (lkTo N Bz M T k ++ [UInt8.ofNat (T.read N Bz M (k : Int)).2.toNat]) ++ (T.read N Bz M (k : Int)).1
theorem read_ans (N Bz M : Nat) (T : TX) (p : Int) : (T.read N Bz M p).2 = 0 ∨ (T.read N Bz M p).2 = 1 := by
  unfold TX.read; split
  · exact .inr rfl
  · exact .inl rfl
theorem read_lenT {N Bz M : Nat} {T : TX} (h : Dm N Bz M T.L) (p : Nat) (hp : p < N) : (T.read N Bz M (p : Int)).1.length ≤ Bz := by
  unfold TX.read; split
  · simp
  · show (T.L (p : Int).toNat).length ≤ Bz
    rw [show (p : Int).toNat = p by omega, h.len p hp]; exact Nat.le_refl _
theorem lkTo_len {N Bz M : Nat} {T : TX} (h : Dm N Bz M T.L) : ∀ k, k ≤ N → (lkTo N Bz M T k).length ≤ 2 + k * (Bz + 1)
  | 0, _ => by simp [lkTo]
  | k + 1, hk => by
    have h1 := lkTo_len h k (by omega)
    have h2 := read_lenT h k (by omega)
    simp only [lkTo, List.length_append, List.length_cons, List.length_nil]
    have : (k + 1) * (Bz + 1) = k * (Bz + 1) + (Bz + 1) := by rw [Nat.add_mul, Nat.one_mul]
    omega
theorem bRead (w0 a : World) (pp t q g : Nat) (s : S) (log N Bz M : Nat) (L : Nat → List UInt8) (T : TX) (h : SyB w0 a pp t q g s log N Bz M L T) (p : Int) : Calls Tryz.prog 23 #[.pointer (some ⟨t, 0, none⟩), .int .i64 p] a fun e b => ∃ v, e = .returned (.tuple #[v, .int .i64 (T.read N Bz M p).2]) ∧ RdW a b v (T.read N Bz M p).1 ∧ SyB w0 b pp t q g s log N Bz M L T := by
  obtain ⟨D, h1, h2, h3⟩ := h
  refine (sRead a pp t q g s log N Bz M L T D h1 p).mono ?_
  rintro e b ⟨v, rfl, hr, hp⟩
  exact ⟨v, rfl, hr, SyB.step h2 h3 hp⟩
theorem bRoot (w0 a : World) (pp t q g : Nat) (s : S) (log N Bz M : Nat) (L : Nat → List UInt8) (T : TX) (h : SyB w0 a pp t q g s log N Bz M L T) : Calls Tryz.prog 18 #[.pointer (some ⟨t, 0, none⟩)] a fun e b => e = .returned (.tuple #[.int .i64 (rootV M T).1, .int .i64 (rootV M T).2]) ∧ SyB w0 b pp t q g s log N Bz M L T := by
  obtain ⟨D, h1, h2, h3⟩ := h
  refine (sRoot a pp t q g s log N Bz M L T D h1).mono ?_
  rintro e b ⟨rfl, hp⟩
  exact ⟨rfl, SyB.step h2 h3 hp⟩
theorem SyB.grow {w0 a b : World} {pp t q g : Nat} {s : S} {log N Bz M : Nat} {L : Nat → List UInt8} {T : TX} (h : SyB w0 a pp t q g s log N Bz M L T) (hb : Below a.heap.size a b) : SyB w0 b pp t q g s log N Bz M L T := by
  obtain ⟨D, h1, h2, h3⟩ := h
  exact ⟨D, h1.below hb, h2, h3.trans (hb.mono h3.size)⟩
theorem SyB.dm {w0 a : World} {pp t q g : Nat} {s : S} {log N Bz M : Nat} {L : Nat → List UInt8} {T : TX} (h : SyB w0 a pp t q g s log N Bz M L T) : Dm N Bz M T.L := by
  obtain ⟨D, ⟨Dw, K, h1, _⟩, _⟩ := h
  exact h1.dT
theorem rem256 (n : Nat) (hn : n ≤ 1000000) (W : World) : (Op.intDiv .rem .i64 (n : Int) 256).run Tryz.prog W = .ok (.int .i64 ((n % 256 : Nat) : Int)) W := rem_run n 256 (by omega) (by omega) W
theorem le32_bound {w0 a : World} {pp t q g : Nat} {s : S} {log N Bz M : Nat} {L : Nat → List UInt8} {T : TX} (h : SyB w0 a pp t q g s log N Bz M L T) (hd : T.done = false) : Rp.le32 (T.L M) ≤ 100000 := by
  obtain ⟨D, ⟨Dw, K, h1, _⟩, _⟩ := h
  obtain ⟨KV, bv, mb, ro, F, ht⟩ := h1.tx hd
  obtain ⟨r, hr1, hr2, hr3, hr4⟩ := h1.le32 ht

  omega
end Go.Proofs.YtephmcbofcfpmaaGreat

