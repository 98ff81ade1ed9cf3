/- A field is taken out of a key, a field is read into it. Conditions: none. -/
import Derived.Test.YtlnghdldecnmgaaK9
set_option maxRecDepth 8000
set_option linter.unusedSimpArgs false
set_option linter.unusedVariables false
namespace Go.Kx
open Go.RowKit Go.Bs
structure Bd (k : Ky) : Prop where
  a : k.a.length ≤ 1000
  b : k.b.length ≤ 1000
  n : -9223372036854775808 ≤ k.n ∧ k.n ≤ 9223372036854775807
  m : -9223372036854775808 ≤ k.m ∧ k.m ≤ 9223372036854775807
theorem Bd.num {k : Ky} (h : Bd k) (ism : Bool) : -9223372036854775808 ≤ k.num ism ∧ k.num ism ≤ 9223372036854775807 := by
  cases ism
  · exact h.n
  · exact h.m
theorem Bd.txt {k : Ky} (h : Bd k) (isb : Bool) : (k.txt isb).length ≤ 1000 := by
  cases isb
  · exact h.a
  · exact h.b
theorem Bd.clear {k : Ky} (h : Bd k) (f : Fld) : Bd (clearF k f) := by
  cases f with
  | num ism _ _ _ => cases ism <;> exact ⟨h.a, h.b, by simp [clearF, Ky.setN] <;> first | exact h.n | omega, by simp [clearF, Ky.setN] <;> first | exact h.m | omega⟩
  | nam isb => cases isb <;> exact ⟨by simp [clearF, Ky.setT] <;> exact h.a, by simp [clearF, Ky.setT] <;> exact h.b, h.n, h.m⟩
  | end_ => exact ⟨by simp [clearF, Ky.setT], h.b, h.n, h.m⟩
def OkF : Fld → Prop
  | .num _ _ _ size => 1 ≤ size ∧ size ≤ 3
  | _ => True
theorem takeF_len {k : Ky} {f : Fld} {p : List UInt8} (hf : OkF f) (h : takeF k f = some p) : p.length ≤ 65 := by
  cases f with
  | num ism least most size =>
    simp only [takeF] at h
    split at h
    · cases h; rw [be_length]; have := hf.2; omega
    · cases h
  | nam isb =>
    simp only [takeF] at h
    split at h
    · rename_i hn
      cases h; have := (nameL_no hn).2.2.2; omega
    · cases h
  | end_ =>
    simp only [takeF] at h
    split at h
    · rename_i hn
      cases h; have := (nameL_no hn).2.2.2; simp; omega
    · cases h
/-- what a field's taking leaves. -/
def TakeE (w : World) (z : Nat) (k : Ky) (f : Fld) (e : Ending) (w' : World) : Prop :=
  ∃ s ok, e = .returned (.tuple #[st s, .bool ok]) ∧ (ok = true → takeF k f = some s) ∧ (ok = false → takeF k f = none) ∧ KyAt w' z (clearF k f) ∧ Fr (· = z) w w'
end Go.Kx
namespace Go.Proofs.Ytlnghdldecnmgaa
open Go.RowKit Go.Bs Go.Kx

theorem ent38 (args : Array Value) (W : World) : (callFunc 38 args).run Try.prog W = .ok (.enter 38 args) W := by go_simp
theorem ent39 (args : Array Value) (W : World) : (callFunc 39 args).run Try.prog W = .ok (.enter 39 args) W := by go_simp
theorem ent40 (args : Array Value) (W : World) : (callFunc 40 args).run Try.prog W = .ok (.enter 40 args) W := by go_simp
theorem ent42 (args : Array Value) (W : World) : (callFunc 42 args).run Try.prog W = .ok (.enter 42 args) W := by go_simp
theorem ent43 (args : Array Value) (W : World) : (callFunc 43 args).run Try.prog W = .ok (.enter 43 args) W := by go_simp
theorem ent44 (args : Array Value) (W : World) : (callFunc 44 args).run Try.prog W = .ok (.enter 44 args) W := by go_simp
theorem take_any (w : World) (z base : Nat) (k : Ky) (f : Fld) (v1 v2 : Value) (hk : KyAt w z k) (hz : z < base) (hb : Bd k) (ho : OkF f) (hf : FAt w base v1 v2 f) :
    ∃ F cap, v1 = .func (.func F) #[] cap ∧ (∀ args W, (callFunc F args).run Try.prog W = .ok (.enter F args) W) ∧ Calls Try.prog F (#[.pointer (some ⟨z, 0, none⟩)] ++ cap) w (TakeE w z k f) := by
  cases f with
  | num ism least most size =>
    obtain ⟨q, hq, rfl, rfl, c0, c1, c2, c3⟩ := hf
    refine ⟨38, _, rfl, ent38, ?_⟩
    refine (numTake_any w z q k ism least most size hk c0 c1 c2 c3 (by omega) ho (hb.num ism)).mono ?_
    rintro e w' ⟨rfl, h1, h2⟩
    refine ⟨_, _, rfl, ?_, ?_, h1, h2⟩
    · intro h
      simp only [Bool.and_eq_true, decide_eq_true_eq] at h
      obtain ⟨x, hx⟩ := nat_of (show 0 ≤ k.num ism by omega)
      simp only [takeF]
      rw [if_pos h, hx, bzs_nat]
      rfl
    · intro h
      simp only [takeF]
      rw [if_neg (by intro h'; simp [h'.1, h'.2] at h)]
  | nam isb =>
    obtain ⟨q, hq, rfl, rfl, c0⟩ := hf
    refine ⟨40, _, rfl, ent40, ?_⟩
    refine (nameTake_any w z q k isb hk c0 (Nat.le_trans (hb.txt isb) (by omega))).mono ?_
    rintro e w' ⟨rfl, h1, h2⟩
    refine ⟨_, _, rfl, ?_, ?_, h1, h2⟩
    · intro h
      simp only [takeF]
      rw [if_pos h]
    · intro h
      simp only [takeF]
      rw [if_neg (by rw [h]; simp)]
  | end_ =>
    obtain ⟨q, q', hq, hq', rfl, rfl, c0, c1, c2⟩ := hf
    refine ⟨43, _, rfl, ent43, ?_⟩
    refine (endTake_any w z q q' k hk c0 c2 (Nat.le_trans hb.a (by omega))).mono ?_
    rintro e w' ⟨rfl, h1, h2⟩
    by_cases hn : nameL k.a = true
    · rw [hn]
      simp only [if_true]
      refine ⟨_, _, rfl, ?_, ?_, h1, h2⟩
      · intro _
        simp only [takeF]
        rw [if_pos hn]
      · intro h; cases h
    · have hn' : nameL k.a = false := by simpa using hn
      rw [hn']
      simp only [Bool.false_eq_true, if_false]
      refine ⟨_, _, rfl, ?_, ?_, h1, h2⟩
      · intro h; cases h
      · intro _
        simp only [takeF]
        rw [if_neg hn]

set_option maxHeartbeats 1000000 in
theorem endRead_any (w : World) (z q q' : Nat) (k : Ky) (l : List UInt8) (hk : KyAt w z k) (h1 : w.cell? ⟨q', 1, none⟩ = some (.func (.func 42) #[] #[ptr q])) (hq : w.cell? ⟨q, 0, none⟩ = some (fnT false)) (hl : l.length ≤ 1000000) :
    Calls Try.prog 44 #[.pointer (some ⟨z, 0, none⟩), st l, .pointer (some ⟨q', 0, none⟩)] w fun e w' => e = .returned (st ((l.dropWhile (· != 0)).drop 1)) ∧ KyAt w' z (k.setT false (l.takeWhile (· != 0))) ∧ Fr (· = z) w w' := by
  have HC := Lib.hid (Cut_any l w hl)
  have HK := Lib.hid hk
  have HQ := Lib.hid hq
  have hz := hk.lt
  obtain ⟨p, hp⟩ : ∃ p, l.takeWhile (· != 0) = p := ⟨_, rfl⟩
  obtain ⟨r, hr⟩ : ∃ r, (l.dropWhile (· != 0)).drop 1 = r := ⟨_, rfl⟩
  rw [hp, hr] at HC
  rw [hp, hr]
  unfold ptr at h1
  clear hp hr hk hq
  have hq1 : q' < w.heap.size := blt_of_cell h1
  go_enter Try.func44, Try.ntmps44
  go_wp2_with fail
  refine HC.out.mono ?_
  rintro e w1 ⟨⟨b, rfl⟩, hb⟩
  have x1 : w1.cell? ⟨q', 1, none⟩ = _ := (hb.cell (p := ⟨q', 1, none⟩) hq1).trans h1
  have HN := Lib.hid (nameRead_any w1 z q k false p (HK.out.keep hb) ((hb.cell (p := ⟨q, 0, none⟩) (blt_of_cell HQ.out)).trans HQ.out))
  have HB := Lib.hid hb
  clear hb
  go_wp2_with fail
  refine HN.out.mono ?_
  rintro e w2 ⟨rfl, h3, h4⟩
  have HE := Lib.hid (And.intro h3 h4)
  clear h3 h4
  go_wp2
  go_ret
  exact ⟨rfl, HE.out.1, (Fr.of HB.out).trans HE.out.2⟩
/-- what a field's reading leaves. -/
def ReadE (w : World) (z : Nat) (k : Ky) (f : Fld) (l : List UInt8) (e : Ending) (w' : World) : Prop :=
  e = .returned (st (readK k l f).2) ∧ KyAt w' z (readK k l f).1 ∧ Fr (· = z) w w'
theorem read_any (w : World) (z base : Nat) (k : Ky) (f : Fld) (v1 v2 : Value) (l : List UInt8) (hk : KyAt w z k) (hz : z < base) (ho : OkF f) (hf : FAt w base v1 v2 f) (hl : l.length ≤ 1000000) (hn : ∀ ism a b c, f = .num ism a b c → k.num ism = 0) :
    ∃ F cap, v2 = .func (.func F) #[] cap ∧ (∀ args W, (callFunc F args).run Try.prog W = .ok (.enter F args) W) ∧ Calls Try.prog F (#[.pointer (some ⟨z, 0, none⟩), st l] ++ cap) w (ReadE w z k f l) := by
  cases f with
  | num ism least most size =>
    obtain ⟨q, hq, rfl, rfl, c0, c1, c2, c3⟩ := hf
    refine ⟨39, _, rfl, ent39, ?_⟩
    refine (numRead_any w z q k ism size l hk c0 c3 (by omega) ho (by omega) (hn _ _ _ _ rfl)).mono ?_
    rintro e w' ⟨rfl, h1, h2⟩
    exact ⟨rfl, h1, h2⟩
  | nam isb =>
    obtain ⟨q, hq, rfl, rfl, c0⟩ := hf
    refine ⟨42, _, rfl, ent42, ?_⟩
    refine (nameRead_any w z q k isb l hk c0).mono ?_
    rintro e w' ⟨rfl, h1, h2⟩
    exact ⟨rfl, h1, h2⟩
  | end_ =>
    obtain ⟨q, q', hq, hq', rfl, rfl, c0, c1, c2⟩ := hf
    refine ⟨44, _, rfl, ent44, ?_⟩
    refine (endRead_any w z q q' k l hk c1 c2 hl).mono ?_
    rintro e w' ⟨rfl, h1, h2⟩
    exact ⟨rfl, h1, h2⟩
end Go.Proofs.Ytlnghdldecnmgaa
