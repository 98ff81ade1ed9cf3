/- A disk and the document's, side by side. Conditions: none. -/
import Derived.Test.YtikajhfaoccicaaRf6
import Derived.Test.YtikajhfaoccicaaArg2
namespace Go.Proofs.Ytikajhfaoccicaa
open Go.RowKit Go.Bs Go.Dk

/-- a disk and the document's, both in new memory and apart; the blocks of K are others. -/
def Two (w a : World) (g r : Nat) (s t : S) (K : Nat → Prop) : Prop :=
  ∃ D D', DiskAt a g s D ∧ RefAt a r t D' ∧ (∀ k, D k → w.heap.size ≤ k) ∧ (∀ k, D' k → w.heap.size ≤ k) ∧ (∀ k, D k → ¬ D' k) ∧ Below w.heap.size w a ∧ ∀ k, K k → k < a.heap.size ∧ ¬ D k ∧ ¬ D' k
def Kp (K : Nat → Prop) (a b : World) : Prop := a.heap.size ≤ b.heap.size ∧ ∀ k, K k → b.heap[k]? = a.heap[k]?
theorem Kp.refl (K : Nat → Prop) (a : World) : Kp K a a := ⟨Nat.le_refl _, fun _ _ => rfl⟩
theorem Kp.trans {K : Nat → Prop} {a b c : World} (h : Kp K a b) (h' : Kp K b c) : Kp K a c := ⟨Nat.le_trans h.1 h'.1, fun k hk => (h'.2 k hk).trans (h.2 k hk)⟩
theorem Kp.mono {K K' : Nat → Prop} {a b : World} (h : Kp K a b) (hk : ∀ k, K' k → K k) : Kp K' a b := ⟨h.1, fun k h' => h.2 k (hk k h')⟩
theorem Two.bel {w a : World} {g r : Nat} {s t : S} {K : Nat → Prop} (h : Two w a g r s t K) : Below w.heap.size w a := by
  obtain ⟨D, D', _, _, _, _, _, h, _⟩ := h
  exact h
theorem Two.less {w a : World} {g r : Nat} {s t : S} {K K' : Nat → Prop} (h : Two w a g r s t K) (hk : ∀ k, K' k → K k) : Two w a g r s t K' := by
  obtain ⟨D, D', h1, h2, h3, h4, h5, h6, h7⟩ := h
  exact ⟨D, D', h1, h2, h3, h4, h5, h6, fun k h => h7 k (hk k h)⟩
theorem Two.ok {w a : World} {g r : Nat} {s t : S} {K : Nat → Prop} (h : Two w a g r s t K) : s.Ok := by
  obtain ⟨D, D', h1, _⟩ := h
  exact h1.ok
/-- memory grew. -/
theorem Two.grow {w a b : World} {g r : Nat} {s t : S} {K : Nat → Prop} (h : Two w a g r s t K) (hb : Below a.heap.size a b) : Two w b g r s t K ∧ Kp K a b := by
  obtain ⟨D, D', h1, h2, h3, h4, h5, h6, h7⟩ := h
  exact ⟨⟨D, D', h1.below hb, h2.below hb, h3, h4, h5, h6.trans (hb.mono h6.size), fun k hk => ⟨Nat.lt_of_lt_of_le (h7 k hk).1 hb.size, (h7 k hk).2⟩⟩, hb.size, fun k hk => hb.block k (h7 k hk).1⟩
/-- a new block is one of K. -/
theorem Two.more {w a b : World} {g r : Nat} {s t : S} {K : Nat → Prop} (h : Two w a g r s t K) (hb : Below a.heap.size a b) (z : Nat) (hz : a.heap.size ≤ z) (hz' : z < b.heap.size) : Two w b g r s t (fun k => K k ∨ k = z) := by
  obtain ⟨D, D', h1, h2, h3, h4, h5, h6, h7⟩ := h
  refine ⟨D, D', h1.below hb, h2.below hb, h3, h4, h5, h6.trans (hb.mono h6.size), fun k hk => ?_⟩
  rcases hk with hk | rfl
  · exact ⟨Nat.lt_of_lt_of_le (h7 k hk).1 hb.size, (h7 k hk).2⟩
  · exact ⟨hz', fun hd => (by have := h1.lt _ hd; omega), fun hd => (by have := h2.lt _ hd; omega)⟩
/-- blocks of K alone turned. -/
theorem Two.fr {w a b : World} {g r : Nat} {s t : S} {K : Nat → Prop} (h : Two w a g r s t K) (z : Nat) (hz : K z) (hw : w.heap.size ≤ z) (hf : Fr (fun k => k = z) a b) : Two w b g r s t K := by
  obtain ⟨D, D', h1, h2, h3, h4, h5, h6, h7⟩ := h
  exact ⟨D, D', h1.fr hf (fun k hd e => by subst e; exact (h7 k hz).2.1 hd), h2.fr hf (fun k hd e => by subst e; exact (h7 k hz).2.2 hd), h3, h4, h5, h6.trans (hf.below (fun k e => by subst e; exact hw) h6.size), fun k hk => ⟨Nat.lt_of_lt_of_le (h7 k hk).1 hf.size, (h7 k hk).2⟩⟩
theorem Two.did {w a b : World} {g r : Nat} {t s' : S} {K : Nat → Prop} {D D' : Nat → Prop} (h2 : RefAt a r t D') (h3 : ∀ k, D k → w.heap.size ≤ k) (h4 : ∀ k, D' k → w.heap.size ≤ k) (h5 : ∀ k, D k → ¬ D' k) (h6 : Below w.heap.size w a) (h7 : ∀ k, K k → k < a.heap.size ∧ ¬ D k ∧ ¬ D' k)
    (h : Did D g s' a b) : Two w b g r s' t K ∧ Kp K a b := by
  obtain ⟨D2, e1, e2, e3⟩ := h
  have hs := h6.size
  have hs2 := e3.size
  refine ⟨⟨D2, D', e1, h2.fr e3 (fun k hd hd' => h5 k hd' hd), fun k hd => ?_, h4, fun k hd hd' => ?_, h6.trans (e3.below h3 hs), fun k hk => ⟨Nat.lt_of_lt_of_le (h7 k hk).1 hs2, fun hd => ?_, (h7 k hk).2.2⟩⟩, hs2, fun k hk => e3.block k (h7 k hk).1 (h7 k hk).2.1⟩
  · rcases e2 k hd with h | h
    · exact h3 k h
    · omega
  · rcases e2 k hd with h | h
    · exact h5 k h hd'
    · have := h2.lt k hd'; omega
  · rcases e2 k hd with h | h
    · exact (h7 k hk).2.1 h
    · have := (h7 k hk).1; omega
theorem Two.rdid {w a b : World} {g r : Nat} {s t' : S} {K : Nat → Prop} {D D' : Nat → Prop} (h2 : DiskAt a g s D) (h3 : ∀ k, D k → w.heap.size ≤ k) (h4 : ∀ k, D' k → w.heap.size ≤ k) (h5 : ∀ k, D k → ¬ D' k) (h6 : Below w.heap.size w a) (h7 : ∀ k, K k → k < a.heap.size ∧ ¬ D k ∧ ¬ D' k)
    (h : RDid D' r t' a b) : Two w b g r s t' K ∧ Kp K a b := by
  obtain ⟨D2, e1, e2, e3⟩ := h
  have hs := h6.size
  have hs2 := e3.size
  refine ⟨⟨D, D2, h2.fr e3 h5, e1, h3, fun k hd => ?_, fun k hd hd' => ?_, h6.trans (e3.below h4 hs), fun k hk => ⟨Nat.lt_of_lt_of_le (h7 k hk).1 hs2, (h7 k hk).2.1, fun hd => ?_⟩⟩, hs2, fun k hk => e3.block k (h7 k hk).1 (h7 k hk).2.2⟩
  · rcases e2 k hd with h | h
    · exact h4 k h
    · omega
  · rcases e2 k hd' with h | h
    · exact h5 k hd h
    · have := h2.lt k hd; omega
  · rcases e2 k hd with h | h
    · exact (h7 k hk).2.2 h
    · have := (h7 k hk).1; omega

section
variable {w a : World} {g r : Nat} {s t : S} {K : Nat → Prop}
theorem Two.write (h : Two w a g r s t K) (hf : s.Fine) (hd : s.deeds < 900000) (i : Int) (A : Option Addr) (n c : Nat) (bs : List UInt8) (hr : Rd a A n c bs) (hn : n ≤ 17592186044416) :
    Calls Try.prog 13 #[.pointer (some ⟨g, 0, none⟩), .int .i64 i, .slice A n c] a fun e b => e = .returned (.int .i64 (s.write i bs).2) ∧ Two w b g r (s.write i bs).1 t K ∧ Kp K a b := by
  obtain ⟨D, D', h1, h2, h3, h4, h5, h6, h7⟩ := h
  exact (Write_any a g s D h1 hf hd i A n c bs hr hn).mono fun e b ⟨he, hb⟩ => ⟨he, Two.did h2 h3 h4 h5 h6 h7 hb⟩
theorem Two.rwrite (h : Two w a g r s t K) (hf : t.Fine) (hd : t.deeds < 800000) (i : Int) (A : Option Addr) (n c : Nat) (bs : List UInt8) (hr : Rd a A n c bs) :
    Calls Try.prog 14 #[.pointer (some ⟨r, 0, none⟩), .int .i64 i, .slice A n c] a fun e b => e = .returned (.int .i64 (t.write i bs).2) ∧ Two w b g r s (t.write i bs).1 K ∧ Kp K a b := by
  obtain ⟨D, D', h1, h2, h3, h4, h5, h6, h7⟩ := h
  exact (rWrite_any a r t D' h2 hf hd i A n c bs hr).mono fun e b ⟨he, hb⟩ => ⟨he, Two.rdid h1 h3 h4 h5 h6 h7 hb⟩
theorem Two.flush (h : Two w a g r s t K) (hd : s.deeds < 900000) :
    Calls Try.prog 15 #[.pointer (some ⟨g, 0, none⟩)] a fun e b => e = .returned (.int .i64 s.flush.2) ∧ Two w b g r s.flush.1 t K ∧ Kp K a b := by
  obtain ⟨D, D', h1, h2, h3, h4, h5, h6, h7⟩ := h
  exact (Flush_any a g s D h1 hd).mono fun e b ⟨he, hb⟩ => ⟨he, Two.did h2 h3 h4 h5 h6 h7 hb⟩
theorem Two.rflush (h : Two w a g r s t K) (hd : t.deeds < 800000) :
    Calls Try.prog 16 #[.pointer (some ⟨r, 0, none⟩)] a fun e b => e = .returned (.int .i64 t.flush.2) ∧ Two w b g r s t.flush.1 K ∧ Kp K a b := by
  obtain ⟨D, D', h1, h2, h3, h4, h5, h6, h7⟩ := h
  exact (rFlush_any a r t D' h2 hd).mono fun e b ⟨he, hb⟩ => ⟨he, Two.rdid h1 h3 h4 h5 h6 h7 hb⟩
theorem Two.arm (h : Two w a g r s t K) (i : Int) (hi : i ≤ 9223372036854775807) (A : Option Addr) (n c : Nat) (ks : List Bool) (hr : RdQ a A n c ks) (hn : n ≤ 17592186044416) :
    Calls Try.prog 17 #[.pointer (some ⟨g, 0, none⟩), .int .i64 i, .slice A n c] a fun e b => (∃ v, e = .returned v) ∧ Two w b g r (s.arm i ks) t K ∧ Kp K a b := by
  obtain ⟨D, D', h1, h2, h3, h4, h5, h6, h7⟩ := h
  exact (Arm_any a g s D h1 i hi A n c ks hr hn).mono fun e b ⟨he, hb⟩ => ⟨he, Two.did h2 h3 h4 h5 h6 h7 hb⟩
theorem Two.rarm (h : Two w a g r s t K) (i : Int) (hi : i ≤ 9223372036854775807) (A : Option Addr) (n c : Nat) (ks : List Bool) (hr : RdQ w A n c ks) (hn : n ≤ 17592186044416) :
    Calls Try.prog 18 #[.pointer (some ⟨r, 0, none⟩), .int .i64 i, .slice A n c] a fun e b => (∃ v, e = .returned v) ∧ Two w b g r s (t.arm i ks) K ∧ Kp K a b := by
  obtain ⟨D, D', h1, h2, h3, h4, h5, h6, h7⟩ := h
  exact (rArm_any a r t D' h2 i hi A n c ks (hr.keep h6) hn (fun h0 x ex hd => by
    obtain ⟨g, o, e, hg, _⟩ := hr.cells h0
    rw [ex] at e
    cases e
    have : w.heap.size ≤ g := h4 _ hd
    omega)).mono fun e b ⟨he, hb⟩ => ⟨he, Two.rdid h1 h3 h4 h5 h6 h7 hb⟩
theorem Two.crash (h : Two w a g r s t K) (hd : s.deeds < 900000) (A : Option Addr) (n c : Nat) (ks : List Bool) (hr : RdQ w A n c ks) :
    Calls Try.prog 19 #[.pointer (some ⟨g, 0, none⟩), .slice A n c] a fun e b => (∃ v, e = .returned v) ∧ Two w b g r (s.crash ks) t K ∧ Kp K a b := by
  obtain ⟨D, D', h1, h2, h3, h4, h5, h6, h7⟩ := h
  exact (Crash_any a g s D h1 (by omega) A n c ks (hr.keep h6)).mono fun e b ⟨he, hb⟩ => ⟨he, Two.did h2 h3 h4 h5 h6 h7 hb⟩
theorem Two.rcrash (h : Two w a g r s t K) (hd : t.deeds < 900000) (A : Option Addr) (n c : Nat) (ks : List Bool) (hr : RdQ w A n c ks) :
    Calls Try.prog 20 #[.pointer (some ⟨r, 0, none⟩), .slice A n c] a fun e b => (∃ v, e = .returned v) ∧ Two w b g r s (t.crash ks) K ∧ Kp K a b := by
  obtain ⟨D, D', h1, h2, h3, h4, h5, h6, h7⟩ := h
  exact (rCrash_any a r t D' h2 hd A n c ks (hr.keep h6) (fun h0 x ex Lv cv kv kl E hB e1 => by
    obtain ⟨g, o, e, hg, _⟩ := hr.cells h0
    rw [ex] at e
    cases e
    have : w.heap.size ≤ g := h4 _ (hB.lD _ e1).1
    omega)).mono fun e b ⟨he, hb⟩ => ⟨he, Two.rdid h1 h3 h4 h5 h6 h7 hb⟩
theorem Two.on (h : Two w a g r s t K) : Calls Try.prog 21 #[.pointer (some ⟨g, 0, none⟩)] a fun e b => (∃ v, e = .returned v) ∧ Two w b g r s.on t K ∧ Kp K a b := by
  obtain ⟨D, D', h1, h2, h3, h4, h5, h6, h7⟩ := h
  exact (On_any a g s D h1).mono fun e b ⟨he, hb⟩ => ⟨he, Two.did h2 h3 h4 h5 h6 h7 hb⟩
theorem Two.ron (h : Two w a g r s t K) : Calls Try.prog 22 #[.pointer (some ⟨r, 0, none⟩)] a fun e b => (∃ v, e = .returned v) ∧ Two w b g r s t.on K ∧ Kp K a b := by
  obtain ⟨D, D', h1, h2, h3, h4, h5, h6, h7⟩ := h
  exact (rOn_any a r t D' h2).mono fun e b ⟨he, hb⟩ => ⟨he, Two.rdid h1 h3 h4 h5 h6 h7 hb⟩
theorem Two.read (h : Two w a g r s t K) (i : Int) :
    Calls Try.prog 23 #[.pointer (some ⟨g, 0, none⟩), .int .i64 i] a fun e b => ∃ v, e = .returned (.tuple #[v, .int .i64 (s.read i).2]) ∧ ReadV a b v (s.read i).1 ∧ Below a.heap.size a b := by
  obtain ⟨D, D', h1, h2, h3, h4, h5, h6, h7⟩ := h
  exact Read_any a g s D h1 i
theorem Two.rread (h : Two w a g r s t K) (hd : t.deeds < 900000) (i : Int) :
    Calls Try.prog 24 #[.pointer (some ⟨r, 0, none⟩), .int .i64 i] a fun e b => e = .returned (.tuple #[.string ⟨(t.read i).1.toArray⟩, .int .i64 (t.read i).2]) ∧ a = b := by
  obtain ⟨D, D', h1, h2, h3, h4, h5, h6, h7⟩ := h
  exact rRead_any a r t D' h2 hd i
theorem Two.size (h : Two w a g r s t K) : Calls Try.prog 25 #[.pointer (some ⟨g, 0, none⟩)] a fun e b => e = .returned (.tuple #[.int .i64 (s.sectors : Int), .int .i64 (s.bytes : Int)]) ∧ ∃ k, b = a.drewN k := by
  obtain ⟨D, D', h1, h2, h3, h4, h5, h6, h7⟩ := h
  exact Size_any a g s D h1
theorem Two.up (h : Two w a g r s t K) : Calls Try.prog 26 #[.pointer (some ⟨g, 0, none⟩)] a fun e b => e = .returned (.bool s.up) ∧ a = b := by
  obtain ⟨D, D', h1, _⟩ := h
  exact Up_any a g s D h1
theorem Two.deeds (h : Two w a g r s t K) : Calls Try.prog 27 #[.pointer (some ⟨g, 0, none⟩)] a fun e b => e = .returned (.int .i64 (s.deeds : Int)) ∧ a = b := by
  obtain ⟨D, D', h1, _⟩ := h
  exact Deeds_any a g s D h1
theorem Two.cells (h : Two w a g r s t K) : a.cell? ⟨r, 3, none⟩ = some (.bool t.up) ∧ a.cell? ⟨r, 6, none⟩ = some (.int .i64 (t.deeds : Int)) := by
  obtain ⟨D, D', h1, ⟨_, _, _, _, _, hB⟩, _⟩ := h
  obtain ⟨_, _, _, c3, _, _, c6, _⟩ := rc_cells hB.row
  exact ⟨c3, c6⟩
end

/-- few calls, with few bytes. -/
def few (w : World) (a : Option Addr) (len : Nat) : Prop := len ≤ 100 ∧ ∀ i, i < len → ∀ g o c, a = some ⟨g, o, none⟩ → ClAt w g (o + i * 5) c → c.bl ≤ 200 ∧ c.kl ≤ 100
set_option maxHeartbeats 2000000 in
theorem few_any (w : World) (a : Option Addr) (len cap : Nat) (h : IsO w a len cap) : Calls Try.prog 8 #[.slice a len cap] w fun e w' => (e = .returned (.bool false) ∨ (e = .returned (.bool true) ∧ few w a len)) ∧ w = w' := by
  have HO := Lib.hid h
  have hm := h.m
  unfold maxLen at hm
  have hle := h.le
  clear h
  by_cases h1 : len ≤ 100
  · go_enter Try.func8, Try.ntmps8
    go_wp2
    go_loop [3] (fun i => ∃ k : Nat, k ≤ len ∧ i = .int .i64 k ∧ ∀ j, j < k → ∀ g o c, a = some ⟨g, o, none⟩ → ClAt w g (o + j * 5) c → c.bl ≤ 200 ∧ c.kl ≤ 100) (fun i => len - (intOf i).toNat)
    case atStart => exact ⟨0, Nat.zero_le _, rfl, fun j hj => absurd hj (by omega)⟩
    case round =>
      obtain ⟨k, hk, rfl, hrel⟩ := hrel
      have HP := Lib.hid hrel
      clear hrel
      by_cases hlt : k < len
      · obtain ⟨g, o, c, rfl, hg, hc⟩ := HO.out.at_ k hlt
        have c3 := hc.c3
        have c4 := hc.c4
        have m3 := hc.m3
        have m4 := hc.m4
        unfold maxLen at m3 m4
        have HC := Lib.hid hc
        clear hc
        by_cases hb : c.bl ≤ 200
        · by_cases hq : c.kl ≤ 100
          · go_wp2
            go_round
            case rel =>
              refine ⟨k + 1, by omega, by go_num, fun j hj g' o' c' e hc' => ?_⟩
              by_cases hjk : j < k
              · exact HP.out j hjk g' o' c' e hc'
              · obtain rfl : j = k := by omega
                cases e
                have e3 := hc'.c3.symm.trans HC.out.c3
                have e4 := hc'.c4.symm.trans HC.out.c4
                simp at e3 e4
                omega
            case measure => simp [intOf]; omega
          · go_wp2
            go_ret
            exact ⟨.inl rfl, rfl⟩
        · go_wp2
          go_ret
          exact ⟨.inl rfl, rfl⟩
      · obtain rfl : k = len := by omega
        go_wp2
        go_ret
        exact ⟨.inr ⟨rfl, h1, HP.out⟩, rfl⟩
  · go_enter Try.func8, Try.ntmps8
    go_wp2
    go_ret
    exact ⟨.inl rfl, rfl⟩
end Go.Proofs.Ytikajhfaoccicaa
