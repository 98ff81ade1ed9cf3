/- Where a key stands. Conditions: none. -/
import Derived.Test.YtedhcohpcdkgnaaN4
namespace Go.Bs
open Go.RowKit
/-- the first pair whose key is not below. -/
structure FstP (ps : List Pr) (key : ByteArray) (k : Nat) : Prop where
  le : k ≤ ps.length
  lo : ∀ j, j < k → slt (pAt ps j).1 key = true
  hi : k < ps.length → slt (pAt ps k).1 key = false
def isP (ps : List Pr) (key : ByteArray) (k : Nat) : Bool := decide (k < ps.length) && (pAt ps k).1.toList == key.toList
theorem FstP.eq {ps : List Pr} {key : ByteArray} {a b : Nat} (h : FstP ps key a) (h' : FstP ps key b) : a = b := by
  rcases Nat.lt_trichotomy a b with hl | he | hl
  · have h1 := h'.lo a hl
    rw [h.hi (Nat.lt_of_lt_of_le hl h'.le)] at h1
    cases h1
  · exact he
  · have h1 := h.lo b hl
    rw [h'.hi (Nat.lt_of_lt_of_le hl h.le)] at h1
    cases h1
def cntS (ks : List ByteArray) (key : ByteArray) (k : Nat) : Nat := (List.range k).countP fun j => sle (sAt ks j) key
def isS (ks : List ByteArray) (key : ByteArray) (k : Nat) : Bool := (List.range k).any fun j => (sAt ks j).toList == key.toList
theorem cntS_le (ks : List ByteArray) (key : ByteArray) (k : Nat) : cntS ks key k ≤ k := by
  have := List.countP_le_length (p := fun j => sle (sAt ks j) key) (l := List.range k)
  simpa [cntS] using this
theorem cntS_yes (ks : List ByteArray) (key : ByteArray) (k : Nat) (h : sle (sAt ks k) key = true) : cntS ks key (k + 1) = cntS ks key k + 1 := by
  simp only [cntS, List.range_succ, List.countP_append, List.countP_singleton]
  rw [if_pos h]
theorem cntS_no (ks : List ByteArray) (key : ByteArray) (k : Nat) (h : sle (sAt ks k) key = false) : cntS ks key (k + 1) = cntS ks key k := by
  simp only [cntS, List.range_succ, List.countP_append, List.countP_singleton]
  rw [if_neg (by rw [h]; simp)]
  rfl
theorem isS_succ (ks : List ByteArray) (key : ByteArray) (k : Nat) : isS ks key (k + 1) = (isS ks key k || (sAt ks k).toList == key.toList) := by
  simp [isS, List.range_succ, List.any_append]
theorem eq_of_sle {a b : ByteArray} (h : sle a b = false) : (a.toList == b.toList) = false := by
  simp only [sle, Bool.or_eq_false_iff] at h
  exact h.2
structure FstS (ks : List ByteArray) (key : ByteArray) (k : Nat) : Prop where
  le : k ≤ ks.length
  lo : ∀ j, j < k → sle (sAt ks j) key = true
  hi : k < ks.length → sle (sAt ks k) key = false
/-! the order of texts -/
theorem less_lt : ∀ (x y : List UInt8), Op.bytesLess x y = decide (x < y)
  | [], [] => by simp [Op.bytesLess]
  | _ :: _, [] => by simp [Op.bytesLess]
  | [], _ :: _ => by simp [Op.bytesLess]
  | a :: x, b :: y => by
    rw [Op.bytesLess, less_lt x y]
    simp only [List.cons_lt_cons_iff]
    by_cases h1 : a < b <;> by_cases h2 : a = b <;> by_cases h3 : x < y <;> simp [h1, h2, h3]
theorem sle_iff (a b : ByteArray) : sle a b = true ↔ (a.toList < b.toList ∨ a.toList = b.toList) := by
  simp only [sle, less_lt, Bool.or_eq_true, decide_eq_true_eq, beq_iff_eq]
theorem not_sle_iff (a b : ByteArray) : sle a b = false ↔ b.toList < a.toList := by
  rw [← Bool.not_eq_true, sle_iff]
  constructor
  · intro h
    by_cases h1 : a.toList < b.toList
    · exact absurd (.inl h1) h
    · by_cases h2 : b.toList < a.toList
      · exact h2
      · exact absurd (.inr (List.le_antisymm (List.not_lt.1 h2) (List.not_lt.1 h1))) h
  · intro h h'
    rcases h' with h1 | h1
    · exact List.lt_irrefl _ (List.lt_trans h h1)
    · rw [h1] at h; exact List.lt_irrefl _ h
/-- keys that rise. -/
def RiseS (ks : List ByteArray) : Prop := ∀ i, 1 ≤ i → i < ks.length → sle (sAt ks i) (sAt ks (i - 1)) = false
theorem RiseS.lt {ks : List ByteArray} (h : RiseS ks) (i : Nat) : ∀ d, i + d + 1 < ks.length → (sAt ks i).toList < (sAt ks (i + d + 1)).toList
  | 0, hd => (not_sle_iff _ _).1 (h (i + 1) (by omega) hd)
  | d + 1, hd => List.lt_trans (RiseS.lt h i d (by omega)) ((not_sle_iff _ _).1 (h (i + (d + 1) + 1) (by omega) hd))
theorem RiseS.lt' {ks : List ByteArray} (h : RiseS ks) {i j : Nat} (hij : i < j) (hj : j < ks.length) : (sAt ks i).toList < (sAt ks j).toList := by
  have := h.lt i (j - i - 1) (by omega)
  rwa [show i + (j - i - 1) + 1 = j by omega] at this
theorem FstS.cnt {ks : List ByteArray} {key : ByteArray} {k : Nat} (h : FstS ks key k) (hr : RiseS ks) : cntS ks key ks.length = k ∧ isS ks key ks.length = (decide (0 < k) && (sAt ks (k - 1)).toList == key.toList) := by
  have hno : ∀ j, k ≤ j → j < ks.length → sle (sAt ks j) key = false := by
    intro j hj hl
    rw [not_sle_iff]
    have h1 := (not_sle_iff _ _).1 (h.hi (by omega))
    rcases Nat.lt_or_ge k j with h2 | h2
    · exact List.lt_trans h1 (hr.lt' h2 hl)
    · obtain rfl : j = k := by omega
      exact h1
  have hlow : ∀ j, j ≤ k → cntS ks key j = j := by
    intro j
    induction j with
    | zero => intro _; rfl
    | succ j ih => intro hj; rw [cntS_yes ks key j (h.lo j (by omega)), ih (by omega)]
  have hup : ∀ d, k + d ≤ ks.length → cntS ks key (k + d) = k := by
    intro d
    induction d with
    | zero => intro _; exact hlow k (Nat.le_refl _)
    | succ d ih => intro hd; rw [← Nat.add_assoc, cntS_no ks key (k + d) (hno _ (by omega) (by omega)), ih (by omega)]
  have hk := h.le
  refine ⟨by have := hup (ks.length - k) (by omega); rwa [show k + (ks.length - k) = ks.length by omega] at this, ?_⟩
  rw [Bool.eq_iff_iff]
  simp only [isS, List.any_eq_true, List.mem_range, beq_iff_eq, Bool.and_eq_true, decide_eq_true_eq]
  constructor
  · rintro ⟨j, hj, he⟩
    have hjk : j < k := by
      rcases Nat.lt_or_ge j k with h1 | h1
      · exact h1
      · have := (not_sle_iff _ _).1 (hno j h1 hj)
        rw [he] at this
        exact absurd this (List.lt_irrefl _)
    refine ⟨by omega, ?_⟩
    rcases Nat.lt_or_ge j (k - 1) with h1 | h1
    · have h2 := hr.lt' h1 (by omega)
      rw [he] at h2
      rcases (sle_iff _ _).1 (h.lo (k - 1) (by omega)) with h3 | h3
      · exact absurd (List.lt_trans h2 h3) (List.lt_irrefl _)
      · exact h3
    · obtain rfl : j = k - 1 := by omega
      exact he
  · rintro ⟨h1, h2⟩
    exact ⟨k - 1, by omega, h2⟩
end Go.Bs
namespace Go.Proofs.Ytedhcohpcdkgnaa
open Go.RowKit Go.Bs

set_option maxHeartbeats 4000000 in
theorem placeOfPair_any (w : World) (A : Option Addr) (n c : Nat) (ps : List Pr) (H : RdP w A n c ps) (hn : n ≤ 7000) (key : ByteArray) :
    Calls Try.prog 34 #[.slice A n c, .string key] w fun e w' => (∃ k, FstP ps key k ∧ e = .returned (.tuple #[.int .i64 (k : Int), .bool (isP ps key k)])) ∧ Below w.heap.size w w' := by
  have HH := Lib.hid H
  have HPL := Lib.hid H.len
  have hcap := H.cap
  obtain ⟨g, hg⟩ : ∃ g, w.heap.size = g := ⟨_, rfl⟩
  have HG := Lib.hid hg
  rw [hg]
  clear H
  go_enter Try.func34, Try.ntmps34
  go_wp2
  go_loopw [10] (fun i wr => ∃ k : Nat, k ≤ n ∧ i = .int .i64 k ∧ (∀ j, j < k → slt (pAt ps j).1 key = true) ∧ Below g w wr) (fun i _ => n - (intOf i).toNat)
  case atStart => exact ⟨0, Nat.zero_le _, rfl, fun j hj => absurd hj (by omega), by rw [← HG.out]; exact Below.refl _ _⟩
  case round =>
    obtain ⟨k, hk1, rfl, hpr, hbl⟩ := hrel
    have hgs := hbl.size
    rw [HG.out] at hgs
    have HPR := Lib.hid hpr
    have HBL := Lib.hid hbl
    clear hbl hpr
    by_cases hlt : k < n
    · have hRP : RdP wr A n c ps := HH.out.keep (by rw [HG.out]; exact HBL.out)
      obtain ⟨q, o, rfl, hq, hcell⟩ := hRP.cells (by omega)
      obtain ⟨e0, e1⟩ := hcell k hlt
      obtain ⟨x, hx⟩ : ∃ x, (pAt ps k).1 = x := ⟨_, rfl⟩
      obtain ⟨y, hy⟩ : ∃ y, (pAt ps k).2 = y := ⟨_, rfl⟩
      rw [hx] at e0
      rw [hy] at e1
      have HX := Lib.hid hx
      obtain ⟨z, hz⟩ : ∃ z, wr.heap.size = z := ⟨_, rfl⟩
      obtain ⟨X, hX⟩ : ∃ X, wr.alloc (.cells #[.string x, .string y] 49) = X := ⟨_, rfl⟩
      have hbX : Below wr.heap.size wr X := by rw [← hX]; exact (Below.refl _ _).alloc (Nat.le_refl _) _
      have hzX : X.heap[z]? = some (.cells #[.string x, .string y] 49 (0, 0)) := by rw [← hX, ← hz]; exact heap_alloc_new wr _
      have z0 : X.cell? ⟨z, 0, none⟩ = some (.string x) := by rw [cell_of_row X z _ _ 49 (0, 0) hzX]; rfl
      have HBL3 := Lib.hid (HBL.out.trans (hbX.mono hgs))
      clear hx hy hbX hzX hcell hRP
      cases h1 : slt x key with
      | true =>
        go_wp2
        go_roundw
        case rel =>
          refine ⟨k + 1, by omega, by go_num, fun j hj => ?_, HBL3.out⟩
          rcases Nat.lt_or_ge j k with h | h
          · exact HPR.out j h
          · obtain rfl : j = k := by omega
            rw [HX.out]; exact h1
        case measure => simp [intOf]; omega
      | false =>
        have HF : Hid (FstP ps key k) := ⟨by rw [HPL.out]; omega, HPR.out, fun _ => by rw [HX.out]; exact h1⟩
        have hisp : isP ps key k = (x.toList == key.toList) := by
          unfold isP
          rw [decide_eq_true (by rw [HPL.out]; exact hlt), HX.out]; rfl
        have HIS := Lib.hid hisp
        clear hisp
        go_wp2_with fail
        go_quiet (fail)
        go_wp2
        go_ret2
        exact ⟨⟨k, HF.out, by rw [HIS.out]; rfl⟩, below_drewN HBL3.out _⟩
    · obtain rfl : k = n := by omega
      have HF : Hid (FstP ps key k) := ⟨by rw [HPL.out]; omega, HPR.out, fun h => by rw [HPL.out] at h; omega⟩
      have hisp : isP ps key k = false := by
        unfold isP
        rw [decide_eq_false (by rw [HPL.out]; omega)]; rfl
      have HIS := Lib.hid hisp
      clear hisp
      go_wp2
      go_ret2
      exact ⟨⟨k, HF.out, by rw [HIS.out]; rfl⟩, HBL.out⟩

set_option maxHeartbeats 4000000 in
theorem placeOfChild_any (w : World) (A : Option Addr) (n c : Nat) (ks : List ByteArray) (H : RdS w A n c ks) (hn : n ≤ 7000) (key : ByteArray) :
    Calls Try.prog 35 #[.slice A n c, .string key] w fun e w' => e = .returned (.tuple #[.int .i64 (cntS ks key n : Int), .bool (isS ks key n)]) ∧ w = w' := by
  have HH := Lib.hid H
  have HPL := Lib.hid H.len
  have hcap := H.cap
  clear H
  go_enter Try.func35, Try.ntmps35
  go_wp2
  go_loop [6, 7, 12] (fun a b i => ∃ k : Nat, k ≤ n ∧ i = .int .i64 k ∧ a = .int .i64 (cntS ks key k : Int) ∧ b = .bool (isS ks key k)) (fun _ _ i => n - (intOf i).toNat)
  case atStart => exact ⟨0, Nat.zero_le _, rfl, rfl, rfl⟩
  case round =>
    obtain ⟨k, hk1, rfl, rfl, rfl⟩ := hrel
    by_cases hlt : k < n
    · obtain ⟨q, o, rfl, hq, hcell⟩ := HH.out.cells (by omega)
      have e0 := hcell k hlt
      obtain ⟨x, hx⟩ : ∃ x, sAt ks k = x := ⟨_, rfl⟩
      rw [show ks.getD k ByteArray.empty = x from hx] at e0
      have hc := cntS_le ks key k
      have hs := isS_succ ks key k
      have hy := cntS_yes ks key k
      have hno := cntS_no ks key k
      rw [hx] at hs hy hno
      have HS := Lib.hid hs
      have HY := Lib.hid hy
      have HNO := Lib.hid hno
      obtain ⟨m, hm⟩ : ∃ m, cntS ks key k = m := ⟨_, rfl⟩
      obtain ⟨b, hb⟩ : ∃ b, isS ks key k = b := ⟨_, rfl⟩
      rw [hm] at hc HY HNO
      rw [hb] at HS
      rw [hm, hb]
      clear hx hcell hs hy hno hm hb
      cases h1 : sle x key with
      | true =>
        cases b
        · go_wp2
          go_round
          case rel => exact ⟨k + 1, by omega, by go_num, by rw [HY.out h1]; rfl, by rw [HS.out]; simp⟩
          case measure => simp [intOf]; omega
        · go_wp2
          go_round
          case rel => exact ⟨k + 1, by omega, by go_num, by rw [HY.out h1]; rfl, by rw [HS.out]; simp⟩
          case measure => simp [intOf]; omega
      | false =>
        have HE := Lib.hid (eq_of_sle h1)
        go_wp2
        go_round
        case rel => exact ⟨k + 1, by omega, by go_num, by rw [HNO.out h1], by rw [HS.out, HE.out, Bool.or_false]⟩
        case measure => simp [intOf]; omega
    · obtain rfl : k = n := by omega
      go_wp2
      go_ret2
      exact ⟨rfl, rfl⟩

/-- what Place tells. -/
def PlaceR (N : Nd) (key : ByteArray) (v : Value) : Prop :=
  if N.leaf then ∃ k, FstP N.ps key k ∧ v = .tuple #[.int .i64 (k : Int), .bool (isP N.ps key k)]
  else v = .tuple #[.int .i64 (cntS N.ks key N.ks.length : Int), .bool (isS N.ks key N.ks.length)]
set_option maxHeartbeats 4000000 in
theorem Place_any (w : World) (h : Hd) (N : Nd) (H : NdAt w h N) (hF : N.Few 7000) (key : ByteArray) :
    Calls Try.prog 22 #[nv h N.leaf, .string key] w fun e w' => (∃ v, e = .returned v ∧ PlaceR N key v) ∧ Below w.heap.size w w' := by
  have HH := Lib.hid H
  have HF := Lib.hid hF
  obtain ⟨leaf, ps, ks, cs⟩ := N
  obtain ⟨pA, pl, pc, kA, kl, kc, cA, cl, cc⟩ := h
  have hpl : ps.length = pl := H.p.len
  have hkl : ks.length = kl := H.k.len
  have hcl : cs.length = cl := H.c.len
  have hpc : pl ≤ pc := H.p.cap
  have hkc : kl ≤ kc := H.k.cap
  have hcc : cl ≤ cc := H.c.cap
  have hp := hF.p
  have hk := hF.k
  have hc := hF.c
  simp only at hp hk hc
  rw [hpl] at hp
  rw [hkl] at hk
  rw [hcl] at hc
  clear hF
  have HPL := Lib.hid hpl
  have HKL := Lib.hid hkl
  have HCL := Lib.hid hcl
  clear H hpl hkl hcl
  obtain ⟨g, hg⟩ : ∃ g, w.heap.size = g := ⟨_, rfl⟩
  have HG := Lib.hid hg
  obtain ⟨W, hW⟩ : ∃ W, w.alloc (.cells (ncs ⟨pA, pl, pc, kA, kl, kc, cA, cl, cc⟩ leaf) 26) = W := ⟨_, rfl⟩
  have hbx : Bx W g ⟨pA, pl, pc, kA, kl, kc, cA, cl, cc⟩ leaf := by rw [← hW, ← hg]; exact Bx.new _ _ _
  have hbw : Below g w W := by rw [← hW, ← hg]; exact (Below.refl _ _).alloc (Nat.le_refl _) _
  obtain ⟨c0, c1, c2, c3⟩ := hbx.cells
  have HBX := Lib.hid hbx
  have HBW := Lib.hid hbw
  clear hbx hbw
  simp only [nv]
  rw [hg]
  have hbw2 : Below w.heap.size w W := by rw [HG.out]; exact HBW.out
  have hWg : g ≤ W.heap.size := by have := HBW.out.size; rw [HG.out] at this; exact this
  have HP := Lib.hid (placeOfPair_any W pA pl pc ps (HH.out.p.keep hbw2) hp key)
  have HK := Lib.hid (placeOfChild_any W kA kl kc ks (HH.out.k.keep hbw2) hk key)
  clear hbw2
  cases leaf with
  | true =>
    go_enter Try.func22, Try.ntmps22
    go_wp2_with fail
    refine HP.out.mono ?_
    rintro e w1 ⟨⟨k, hk1, rfl⟩, hb1⟩
    have HB := Lib.hid (HBW.out.trans (hb1.mono hWg))
    have HK1 := Lib.hid hk1
    clear hb1 hk1 HP HK
    go_wp2
    go_ret2
    exact ⟨⟨_, rfl, k, HK1.out, rfl⟩, HB.out⟩
  | false =>
    go_enter Try.func22, Try.ntmps22
    go_wp2_with fail
    refine HK.out.mono ?_
    rintro e w1 ⟨rfl, rfl⟩
    clear HP HK
    go_wp2
    go_ret2
    refine ⟨⟨_, rfl, ?_⟩, HBW.out⟩
    show _ = Value.tuple #[.int .i64 (cntS ks key ks.length : Int), .bool (isS ks key ks.length)]
    rw [HKL.out]
    rfl
end Go.Proofs.Ytedhcohpcdkgnaa
