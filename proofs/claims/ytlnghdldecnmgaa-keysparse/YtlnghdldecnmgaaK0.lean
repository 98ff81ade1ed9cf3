/- Keys in plain words. Conditions: none. -/
import Derived.Test.YtlnghdldecnmgaaB2
import Derived.Lib.Bytealg
set_option maxRecDepth 8000
set_option linter.unusedSimpArgs false
set_option linter.unusedVariables false
namespace Go.Kx
open Go.RowKit Go.Bs

structure Ky where
  kind : Int
  a : List UInt8
  b : List UInt8
  n : Int
  m : Int
deriving DecidableEq

def be (size n : Nat) : List UInt8 := (List.range size).map fun j => byteAt n (size - 1 - j)
def beN (l : List UInt8) : Nat := l.foldl (fun v x => v * 256 + x.toNat) 0
theorem be_length (size n : Nat) : (be size n).length = size := by simp [be]
theorem be_eq (size n : Nat) : be size n = ((List.range size).map (byteAt n)).reverse := by
  apply List.ext_getElem
  · simp [be]
  · intro i h1 h2
    simp [be] at h1 ⊢
theorem beN_snoc (l : List UInt8) (x : UInt8) : beN (l ++ [x]) = beN l * 256 + x.toNat := by simp [beN]
theorem beN_rev : ∀ l : List UInt8, beN l.reverse = leN l
  | [] => rfl
  | x :: l => by rw [List.reverse_cons, beN_snoc, beN_rev l, leN]; omega
theorem beN_be (size n : Nat) : beN (be size n) = n % 256 ^ size := by rw [be_eq, beN_rev, leN_bytes]
theorem be_beN (l : List UInt8) : be l.length (beN l) = l := by
  have h := bytes_leN l.reverse
  rw [be_eq, ← beN_rev, List.reverse_reverse] at *
  have h2 := congrArg List.reverse h
  simpa using h2
theorem beN_lt (l : List UInt8) : beN l < 256 ^ l.length := by
  have := leN_lt l.reverse
  rw [← beN_rev] at this
  simpa using this

/-- names. -/
def nameL (l : List UInt8) : Bool := decide (1 ≤ l.length) && decide (l.length ≤ 64) && !l.contains 0 && !l.contains 47

/-- the fields of a kind: a number (N or M), a name (A or B), a name A with 00 behind. -/
inductive Fld where
  | num (ism : Bool) (least most size : Nat)
  | nam (isb : Bool)
  | end_
deriving DecidableEq
def fin : Fld := .num false 1 16777215 3
def fields : Int → List Fld
  | 2 => [fin]
  | 3 => [fin, .num true 0 65535 2]
  | 4 => [fin, .nam false]
  | 5 => [.nam false]
  | 8 => [.nam false]
  | 10 => [.nam false]
  | 6 => [.end_, .nam true]
  | 7 => [.end_, .nam true]
  | 9 => [.end_, .num false 0 16777215 3]
  | _ => []

def Ky.num (k : Ky) (ism : Bool) : Int := if ism then k.m else k.n
def Ky.txt (k : Ky) (isb : Bool) : List UInt8 := if isb then k.b else k.a
def Ky.setN (k : Ky) (ism : Bool) (v : Int) : Ky := if ism then { k with m := v } else { k with n := v }
def Ky.setT (k : Ky) (isb : Bool) (v : List UInt8) : Ky := if isb then { k with b := v } else { k with a := v }

def takeF (k : Ky) : Fld → Option (List UInt8)
  | .num ism least most size => if (least : Int) ≤ k.num ism ∧ k.num ism ≤ most then some (be size (k.num ism).toNat) else none
  | .nam isb => if nameL (k.txt isb) = true then some (k.txt isb) else none
  | .end_ => if nameL k.a = true then some (k.a ++ [0]) else none
def clearF (k : Ky) : Fld → Ky
  | .num ism _ _ _ => k.setN ism 0
  | .nam isb => k.setT isb []
  | .end_ => k.setT false []
def layF : List Fld → Ky → List UInt8 → Option (Ky × List UInt8)
  | [], k, b => some (k, b)
  | f :: fs, k, b => match takeF k f with
    | none => none
    | some p => layF fs (clearF k f) (b ++ p)
def letters : List UInt8 := [110, 105, 99, 100, 112, 114, 117, 102, 103, 116]
def letterOf (kind : Int) : UInt8 := letters.getD (kind - 1).toNat 0
def lay (fs : List Fld) (k : Ky) : Option (Ky × List UInt8) := if 1 ≤ k.kind ∧ k.kind ≤ 10 then layF fs k [letterOf k.kind] else none
def noneK (kind : Int) : Ky := ⟨kind, [], [], 0, 0⟩
def bytesF (k : Ky) : Option (List UInt8) :=
  match lay (fields k.kind) k with
  | none => none
  | some (left, s) => if left = noneK k.kind then some s else none
def prefixF (k : Ky) : Option (List UInt8) := (lay ((fields k.kind).take ((fields k.kind).length - 1)) k).map (·.2)

/-- where a byte stands first, or -1. -/
def ix (l : List UInt8) (c : UInt8) : Int := Lib.indexByte l c
def readK (k : Ky) (s : List UInt8) : Fld → Ky × List UInt8
  | .num ism _ _ size => (k.setN ism (beN (s.take size)), s.drop size)
  | .nam isb => (k.setT isb s, [])
  | .end_ => (k.setT false (s.takeWhile (· != 0)), (s.dropWhile (· != 0)).drop 1)
def readsK : List Fld → Ky → List UInt8 → Ky
  | [], k, _ => k
  | f :: fs, k, s => readsK fs (readK k s f).1 (readK k s f).2
def readF : List UInt8 → Ky
  | [] => noneK 0
  | x :: s => readsK (fields (ix letters x + 1)) (noneK (ix letters x + 1)) s
def parseF (s : List UInt8) : Option Ky := if bytesF (readF s) = some s then some (readF s) else none

theorem ix_letter : ∀ k : Fin 10, ix letters (letters.getD k.val 0) = (k.val : Int) := by decide +kernel
theorem ix_letterOf (kind : Int) (h : 1 ≤ kind ∧ kind ≤ 10) : ix letters (letterOf kind) + 1 = kind := by
  have := ix_letter ⟨(kind - 1).toNat, by omega⟩
  unfold letterOf
  rw [this]
  simp only
  omega
theorem kinds {kind : Int} (h : 1 ≤ kind ∧ kind ≤ 10) : kind = 1 ∨ kind = 2 ∨ kind = 3 ∨ kind = 4 ∨ kind = 5 ∨ kind = 6 ∨ kind = 7 ∨ kind = 8 ∨ kind = 9 ∨ kind = 10 := by omega
theorem nameL_no {l : List UInt8} (h : nameL l = true) : l.contains 0 = false ∧ l.contains 47 = false ∧ 1 ≤ l.length ∧ l.length ≤ 64 := by
  simp only [nameL, Bool.and_eq_true, decide_eq_true_eq, Bool.not_eq_true'] at h
  exact ⟨h.1.2, h.2, h.1.1.1, h.1.1.2⟩
theorem take_cut {l r : List UInt8} (h : l.contains 0 = false) : (l ++ 0 :: r).takeWhile (· != 0) = l ∧ ((l ++ 0 :: r).dropWhile (· != 0)).drop 1 = r := by
  induction l with
  | nil => simp
  | cons x l ih =>
    simp only [List.contains_cons, Bool.or_eq_false_iff] at h
    have hx : (x != 0) = true := by
      have := h.1
      simp at this ⊢
      exact fun e => this e.symm
    obtain ⟨i1, i2⟩ := ih h.2
    simp [List.takeWhile_cons, List.dropWhile_cons, hx, i1, i2]
theorem ix_cases (c : UInt8) : ∀ l : List UInt8, (ix l c = -1 ∧ l.contains c = false ∧ l.takeWhile (· != c) = l ∧ l.dropWhile (· != c) = []) ∨
    ∃ k : Nat, k < l.length ∧ ix l c = k ∧ l.contains c = true ∧ l.takeWhile (· != c) = l.take k ∧ l.dropWhile (· != c) = l.drop k
  | [] => .inl ⟨rfl, rfl, rfl, rfl⟩
  | x :: l => by
    by_cases hx : x = c
    · subst hx
      exact .inr ⟨0, by simp, by simp [ix, Lib.indexByte], by simp, by simp, by simp⟩
    · have h1 : (x == c) = false := by simpa using hx
      have h2 : (c == x) = false := by simpa using fun e => hx e.symm
      have h3 : (x != c) = true := by simp [bne, h1]
      rcases ix_cases c l with ⟨a, b, d, e⟩ | ⟨k, hk, a, b, d, e⟩
      · refine .inl ⟨?_, ?_, ?_, ?_⟩
        · have a' : Lib.indexByte l c = -1 := a
          simp [ix, Lib.indexByte, h1, a']
        · rw [List.contains_cons, h2, b]; rfl
        · rw [List.takeWhile_cons, if_pos h3, d]
        · rw [List.dropWhile_cons, if_pos h3, e]
      · have a' : Lib.indexByte l c = (k : Int) := a
        have hne : ((k : Int) == -1) = false := by simp
        refine .inr ⟨k + 1, by simpa using hk, ?_, ?_, ?_, ?_⟩
        · simp only [ix, Lib.indexByte, h1, a', hne]
          simp
        · rw [List.contains_cons, b, Bool.or_true]
        · rw [List.takeWhile_cons, if_pos h3, d, List.take_succ_cons]
        · rw [List.dropWhile_cons, if_pos h3, e, List.drop_succ_cons]
end Go.Kx
