/- The map's blocks one behind the other; a bit of a byte. Conditions: none. A map of slices, keyed by sectors. Conditions: none. -/
import Derived.Test.YtephmcbofcfpmaaGreatJ02
import Derived.Test.YtephmcbofcfpmaaGreatProg
import Derived.Maps.Own
import Derived.Maps.OwnIn
import Derived.Maps.Views
set_option maxRecDepth 8000
set_option linter.unusedSimpArgs false
set_option linter.unusedVariables false
namespace Go.Proofs.YtephmcbofcfpmaaGreat.Rp
open Go.RowKit Go.Bs Go.Dk

/-- the map's blocks one behind the other. -/
def cat (M : Nat) (L : Nat → List UInt8) : List UInt8 := (List.range M).flatMap L
theorem cat_zero (L : Nat → List UInt8) : cat 0 L = [] := rfl
theorem cat_succ (M : Nat) (L : Nat → List UInt8) : cat (M + 1) L = cat M L ++ L M := by
  unfold cat
  rw [List.range_succ, List.flatMap_append]
  simp
theorem cat_len {M B : Nat} {L : Nat → List UInt8} (h : ∀ k, k < M → (L k).length = B) : (cat M L).length = M * B := by
  induction M with
  | zero => simp [cat_zero]
  | succ M ih => rw [cat_succ, List.length_append, ih (fun k hk => h k (by omega)), h M (by omega), Nat.succ_mul]
theorem cat_congr {M : Nat} {L L' : Nat → List UInt8} (h : ∀ k, k < M → L k = L' k) : cat M L = cat M L' := by
  induction M with
  | zero => rfl
  | succ M ih => rw [cat_succ, cat_succ, ih (fun k hk => h k (by omega)), h M (by omega)]
theorem cat_part {M B : Nat} {L : Nat → List UInt8} (h : ∀ k, k < M → (L k).length = B) (k : Nat) (hk : k < M) : ((cat M L).drop (k * B)).take B = L k := by
  induction M with
  | zero => omega
  | succ M ih =>
    have hl := cat_len (L := L) (M := M) (B := B) (fun k hk => h k (by omega))
    rw [cat_succ]
    by_cases e : k = M
    · subst e
      rw [List.drop_left' hl, ← h k (by omega), List.take_length]
    · have hk' : k < M := by omega
      have h1 : (k + 1) * B ≤ M * B := Nat.mul_le_mul_right _ hk'
      rw [Nat.succ_mul] at h1
      rw [List.drop_append_of_le_length (by rw [hl]; omega), List.take_append_of_le_length (by rw [List.length_drop, hl]; omega)]
      exact ih (fun k hk => h k (by omega)) hk'
theorem cat_get {M B : Nat} {L : Nat → List UInt8} (h : ∀ k, k < M → (L k).length = B) (i : Nat) (hi : i < M * B) : (cat M L).getD i 0 = (L (i / B)).getD (i % B) 0 := by
  have hB : 0 < B := by
    rcases Nat.eq_zero_or_pos B with e | e
    · subst e; omega
    · exact e
  have hq : i / B < M := Nat.div_lt_of_lt_mul (by rw [Nat.mul_comm]; exact hi)
  rw [← cat_part h (i / B) hq, getD_part _ _ _ _ (Nat.mod_lt _ hB)]
  congr 1
  rw [Nat.mul_comm]
  exact (Nat.div_add_mod i B).symm
theorem cat_set {M B : Nat} {L : Nat → List UInt8} (h : ∀ k, k < M → (L k).length = B) (i : Nat) (hi : i < M * B) (x : UInt8) : (cat M L).set i x = cat M (upd L (i / B) ((L (i / B)).set (i % B) x)) := by
  have hB : 0 < B := by
    rcases Nat.eq_zero_or_pos B with e | e
    · subst e; omega
    · exact e
  have hq : i / B < M := Nat.div_lt_of_lt_mul (by rw [Nat.mul_comm]; exact hi)
  have h' : ∀ k, k < M → ((upd L (i / B) ((L (i / B)).set (i % B) x)) k).length = B := fun k hk => by
    by_cases e : k = i / B
    · subst e; rw [upd_same, List.length_set]; exact h _ hk
    · rw [upd_other _ _ _ _ e]; exact h k hk
  have hl := cat_len h
  have hl' := cat_len h'
  apply List.ext_getElem
  · rw [List.length_set, hl, hl']
  · intro j h1 h2
    have hj : j < M * B := by rw [hl'] at h2; exact h2
    have hlq := h (i / B) hq
    have hm := Nat.mod_lt i hB
    have e1 := cat_get h' j hj
    rw [getD_get _ _ h2] at e1
    rw [e1]
    by_cases e : j = i
    · subst e
      rw [List.getElem_set_self, upd_same, getD_get _ _ (by rw [List.length_set]; omega), List.getElem_set_self]
    · rw [List.getElem_set_ne (Ne.symm e)]
      have e2 := cat_get h j hj
      rw [getD_get _ _ (by rw [hl]; exact hj)] at e2
      rw [e2]
      by_cases e3 : j / B = i / B
      · rw [e3, upd_same]
        have e4 : j % B ≠ i % B := fun e4 => e (by rw [← Nat.div_add_mod j B, ← Nat.div_add_mod i B, e3, e4])
        have hjm := Nat.mod_lt j hB
        rw [getD_get _ _ (by omega), getD_get _ _ (by rw [List.length_set]; omega), List.getElem_set_ne (Ne.symm e4)]
      · rw [upd_other _ _ _ _ e3]
/-! ### a bit of a byte -/
def wgt (p : Nat) : UInt8 := UInt8.ofNat (2 ^ (p % 8))
theorem wgt_toNat (p : Nat) : (wgt p).toNat = 2 ^ (p % 8) := by
  have h : p % 8 < 8 := Nat.mod_lt _ (by omega)
  have : 2 ^ (p % 8) ≤ 2 ^ 7 := Nat.pow_le_pow_right (by omega) (by omega)
  unfold wgt
  simp
  omega
set_option maxRecDepth 100000 in
theorem and_all : ∀ x : Fin 256, ∀ k : Fin 8, (x.val &&& 2 ^ k.val ≠ 0) ↔ (x.val / 2 ^ k.val % 2 == 1) = true := by decide
theorem and_bit (x : UInt8) (p : Nat) : (x.toNat &&& (wgt p).toNat ≠ 0) ↔ (x.toNat / 2 ^ (p % 8) % 2 == 1) = true := by
  rw [wgt_toNat]
  exact and_all ⟨x.toNat, x.toNat_lt⟩ ⟨p % 8, Nat.mod_lt _ (by omega)⟩
set_option maxRecDepth 100000 in
theorem xor_all : ∀ x : Fin 256, ∀ k : Fin 8, (if x.val / 2 ^ k.val % 2 = 1 then x.val - 2 ^ k.val else x.val + 2 ^ k.val) = x.val ^^^ 2 ^ k.val := by decide
theorem xor_bit (x : UInt8) (p : Nat) : x ^^^ wgt p = flip8 x (p % 8) := by
  have h := xor_all ⟨x.toNat, x.toNat_lt⟩ ⟨p % 8, Nat.mod_lt _ (by omega)⟩
  apply UInt8.toNat_inj.1
  have hx : x.toNat ^^^ 2 ^ (p % 8) < 256 := by
    have h2 := (x ^^^ wgt p).toNat_lt
    rw [UInt8.toNat_xor, wgt_toNat] at h2
    exact h2
  rw [UInt8.toNat_xor, wgt_toNat]
  unfold flip8
  rw [show (if x.toNat / 2 ^ (p % 8) % 2 = 1 then x.toNat - 2 ^ (p % 8) else x.toNat + 2 ^ (p % 8)) = x.toNat ^^^ 2 ^ (p % 8) from h]
  show _ = (UInt8.ofNat _).toNat
  rw [UInt8.toNat_ofNat']
  exact (Nat.mod_eq_of_lt hx).symm
theorem bit_cat {N B M : Nat} {L : Nat → List UInt8} (h : Dm N B M L) (p : Nat) (hp : p / 8 < M * B) : (((cat M L).getD (p / 8) 0).toNat / 2 ^ (p % 8) % 2 == 1) = bitP B L p := by
  rw [cat_get (fun k hk => h.len k (by have := h.mn; omega)) _ hp]
  rfl
theorem turn_cat {N B M : Nat} {L : Nat → List UInt8} (h : Dm N B M L) (p : Nat) (hp : p / 8 < M * B) : (cat M L).set (p / 8) (flip8 ((cat M L).getD (p / 8) 0) (p % 8)) = cat M (turnP B L p) := by
  have hl : ∀ k, k < M → (L k).length = B := fun k hk => h.len k (by have := h.mn; omega)
  rw [cat_set hl _ hp, cat_get hl _ hp]
  rfl
theorem page_lt {N B M : Nat} {L : Nat → List UInt8} (h : Dm N B M L) (p : Nat) (hp : p < N) : p / 8 < M * B := by
  have h1 := h.m
  have h2 : 8 * B * M = 8 * (M * B) := by rw [Nat.mul_assoc, Nat.mul_comm B M]
  rw [h2] at h1
  omega
end Go.Proofs.YtephmcbofcfpmaaGreat.Rp

set_option maxRecDepth 8000
set_option linter.unusedSimpArgs false
set_option linter.unusedVariables false
namespace Go.Proofs.YtephmcbofcfpmaaGreat
open Go.RowKit Go.Bs Go.Dk
open Go.WideElems (Fit rd rg pl rd_key)
open Go.MapKept Go.ChangeMaps

theorem nodup_erase_len : ∀ (l : List Nat) (a : Nat), l.Pairwise (· ≠ ·) → l.length ≤ (l.filter (· != a)).length + 1
  | [], _, _ => by simp
  | x :: l, a, h => by
    obtain ⟨h1, h2⟩ := List.pairwise_cons.1 h
    by_cases hx : x = a
    · subst hx
      have : l.filter (· != x) = l := List.filter_eq_self.2 fun y hy => by simpa using (h1 y hy).symm
      simp [this]
    · have := nodup_erase_len l a h2
      simp [hx]
      exact this
theorem pigeon : ∀ (N : Nat) (l : List Nat), l.Pairwise (· ≠ ·) → (∀ x ∈ l, x < N) → l.length ≤ N
  | 0, l, _, h => by
    cases l with
    | nil => simp
    | cons x l => exact absurd (h x (by simp)) (by omega)
  | N + 1, l, hp, h => by
    have h1 := nodup_erase_len l N hp
    have h2 := pigeon N (l.filter (· != N)) (hp.filter _) fun x hx => by
      obtain ⟨h3, h4⟩ := List.mem_filter.1 hx
      have := h x h3
      have : x ≠ N := by simpa using h4
      omega
    omega

/-- every element reads as itself. -/
def RT (v : Value) : Option (DataW Value × List MemPlace) := some (.held v, [])
def mapD (P : Program) (es : Array MapEntry) : DataW Value := .map ((es.toList.map (rg P 3 RT)).foldr DataW.insert [])

/-- block b is a map: at each number below N the value M. -/
def MapIs (w : World) (b N : Nat) (M : Nat → Value) : Prop :=
  ∃ es clock, w.heap[b]? = some (.map es clock) ∧ Fit Tryz.prog 3 RT es clock ∧ (∀ e ∈ es.toList, ∃ k : Nat, k < N ∧ e.key = .int .i64 (k : Int)) ∧
    ∀ k : Nat, k < N → (mapD Tryz.prog es).atKey (.int .i64 (k : Int)) (.held (.slice none 0 0)) = .held (M k)
theorem MapIs.lt {w : World} {b N : Nat} {M : Nat → Value} (h : MapIs w b N M) : b < w.heap.size := by
  obtain ⟨es, clock, hb, _⟩ := h
  exact (Array.getElem?_eq_some_iff.1 hb).1
theorem MapIs.keep {w w' : World} {b N : Nat} {M : Nat → Value} (h : MapIs w b N M) (e : w'.heap[b]? = w.heap[b]?) : MapIs w' b N M := by
  obtain ⟨es, clock, hb, hr⟩ := h
  exact ⟨es, clock, e.trans hb, hr⟩
theorem MapIs.made (w : World) (N : Nat) : MapIs (w.alloc (.map #[] 0)) w.heap.size N (fun _ => .slice none 0 0) :=
  ⟨#[], 0, (MapKept.heap_alloc w _).1, ⟨by simp, stamped_empty 0, by simp⟩, by simp, fun _ _ => rfl⟩
theorem wf_nat (k N : Nat) (h : k < N) (hN : N ≤ 65536) : (Lit.int .i64 (k : Int)).wf = true := WalkArith.wf_i64 (by omega)
theorem zero32 (w : World) : (zeroValue 39).run Tryz.prog w = .ok (.slice none 0 0) w := by kernel_rfl
theorem intKeyed : Maps.Keyed Tryz.prog 3 := Maps.int_keyed Tryz.underlying3

set_option maxRecDepth 4000 in
theorem MapIs.look {w : World} {b N : Nat} {M : Nat → Value} (h : MapIs w b N M) (k : Nat) (hk : k < N) (hN : N ≤ 65536) :
    (Instr.lookup 97 (.map (some b)) (.int .i64 (k : Int)) false).run Tryz.prog w = .ok (M k) w := by
  obtain ⟨es, clock, hb, F, hks, hM⟩ := h
  have hkey := Maps.keyOf_int_mk (P := Tryz.prog) (k := 3) Tryz.underlying3 (wf_nat k N hk hN)
  have hm := hM k hk
  rcases Maps.fit_look false intKeyed Tryz.underlying97 (zero32 w) hb F hkey with ⟨hrun, _, hat⟩ | ⟨e0, y, _, _, hrun, hRv, hat, _⟩
  · have := hat (.held (.slice none 0 0))
    rw [show (DataW.map _ : DataW Value) = mapD Tryz.prog es from rfl, hm] at this
    injection this with e
    rw [e]; exact hrun
  · have := hat (.held (.slice none 0 0))
    rw [show (DataW.map _ : DataW Value) = mapD Tryz.prog es from rfl, hm] at this
    injection hRv with e1
    rw [← e1] at this
    injection this with e
    rw [e]; exact hrun

set_option maxRecDepth 4000 in
theorem MapIs.put {w : World} {b N : Nat} {M : Nat → Value} (h : MapIs w b N M) (k : Nat) (hk : k < N) (hN : N ≤ 65536) (v : Value) :
    ∃ w', (Instr.mapUpdate 97 (.map (some b)) (.int .i64 (k : Int)) v).run Tryz.prog w = .ok () w' ∧ MapIs w' b N (upd M k v) ∧ w.grownBy w' (some b) := by
  obtain ⟨es, clock, hb, F, hks, hM⟩ := h
  have hkey := Maps.keyOf_int_mk (P := Tryz.prog) (k := 3) Tryz.underlying3 (wf_nat k N hk hN)
  have hroom : es.size < maxLen := by
    have hst := ((stamped_iff es clock).1 F.stamped).2.2
    have hf : ∀ e : MapEntry, ∃ n : Nat, e ∈ es.toList → n < N ∧ e.key = .int .i64 (n : Int) := fun e => by
      by_cases he : e ∈ es.toList
      · obtain ⟨n, h1, h2⟩ := hks e he
        exact ⟨n, fun _ => ⟨h1, h2⟩⟩
      · exact ⟨0, fun h => absurd h he⟩
    obtain ⟨f, hf⟩ := Classical.axiomOfChoice hf
    have := pigeon N (es.toList.map f) (by
      rw [List.pairwise_map]
      refine List.Pairwise.imp_of_mem ?_ hst
      intro a c ha hc hne e
      apply hne
      rw [(hf a ha).2, (hf c hc).2, e]) (fun x hx => by
        obtain ⟨e, he, rfl⟩ := List.mem_map.1 hx
        exact (hf e he).1)
    simp at this
    unfold maxLen
    omega
  obtain ⟨es', clock', hrun, F', hput, _, _, hwho⟩ := Maps.fit_store (R' := RT) (e := 39) (t := 97) (w := w) (b := b) intKeyed Tryz.underlying97 hb F hroom (fun _ _ _ _ hz => hz) hkey (val := v) (yv := (.held v, [])) rfl
  have hD : mapD Tryz.prog es' = (mapD Tryz.prog es).put (.int .i64 (k : Int)) (.held v) := by
    unfold mapD
    rw [hput, DataW.put_eq]
  refine ⟨_, hrun, ⟨es', clock', heap_setBlock_same hb _, F', fun e he => ?_, fun j hj => ?_⟩, ⟨rfl, rfl, rfl, by simp [setBlock], fun i _ hi => heap_setBlock_other hb _ (fun e => hi (by rw [e]))⟩⟩
  · rcases hwho e he with ⟨h1, _⟩ | ⟨h1, _⟩
    · exact hks e h1
    · exact ⟨k, hk, h1⟩
  · rw [hD]
    by_cases hjk : j = k
    · subst hjk
      rw [upd_same]
      exact Maps.atKey_put_same ⟨_, rfl⟩ (intKeyed.key hkey) _ _
    · rw [upd_other _ _ _ _ hjk, ← hM j hj]
      exact Maps.atKey_put_other (fun e => hjk (by injection e with _ e; omega)) _ _

theorem wpList_mapPut (w : World) {ops : Array Oper} {rest : List Oper} {o : Oper} {a : Act} {Q : Exit → Act → World → Prop}
    (hg : o.guard = none) (m x v : Operand) (hop : o.op = Op.mapUpdate 97 m x v) (b N : Nat) (M : Nat → Value) (hm : a.eval m = .map (some b)) (h : MapIs w b N M) (k : Nat) (hk : k < N) (hN : N ≤ 65536) (val : Value)
    (hx : a.eval x = .int .i64 (k : Int)) (hv : a.eval v = val)
    (hK : ∀ w', MapIs w' b N (upd M k val) → w.grownBy w' (some b) → wpList Tryz.prog ops Q rest (a.put o.dst undef) w') : wpList Tryz.prog ops Q (o :: rest) a w := by
  refine wpList_plain hg fun K' hK' => ?_
  obtain ⟨w', hrun, r1, r2⟩ := h.put k hk hN val
  unfold Oper.wp
  simp [execOp, hop, hm, hx, hv, hrun, Result.andThen]
  exact hK' _ _ (hK w' r1 r2)
end Go.Proofs.YtephmcbofcfpmaaGreat

