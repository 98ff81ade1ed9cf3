/- The document's disk in memory. Conditions: none. -/
import Derived.Test.YtikajhfaoccicaaCr
import Derived.Deep.RegionLaw
namespace Go.Proofs.Ytikajhfaoccicaa
open Go.RowKit Go.Bs Go.Dk

def RdN (w : World) (K : Nat → Prop) (v : Value) (n : Nat) (bs : List UInt8) : Prop := ∃ g c, v = .slice (some ⟨g, 0, none⟩) n c ∧ K g ∧ Rd w (some ⟨g, 0, none⟩) n c bs
theorem RdN.keep {w w' : World} {D D' : Nat → Prop} {v : Value} {n : Nat} {bs : List UInt8} (h : RdN w D v n bs) (hs : w.heap.size ≤ w'.heap.size) (hk : ∀ k, D k → w'.heap[k]? = w.heap[k]?) (hD : ∀ k, D k → D' k) : RdN w' D' v n bs := by
  obtain ⟨g, c, e, hg, hr⟩ := h
  exact ⟨g, c, e, hD g hg, Rd.keepB hr hs fun a ha => by injection ha with ha; subst ha; exact hk g hg⟩
abbrev En2 := Nat × Sl
def ent2 (e : En2) : List Value := [.int .i64 (e.1 : Int), sv e.2]
def eAt2 (E : List En2) (i : Nat) : En2 := E.getD i (0, (none, 0, 0))
def rc (s : S) (Lv cv kv : Value) : Array Value := #[.int .i64 (s.bytes : Int), Lv, cv, .bool s.up, .int .i64 (s.left : Int), kv, .int .i64 (s.deeds : Int)]
/-- a row of n texts. -/
def lS (w : World) (Lv : Value) (n : Nat) (L : Nat → List UInt8) : Prop := w.ownsRow 0 9 1 Lv n ((List.range n).map fun k => .string ⟨(L k).toArray⟩)
def De (D : Nat → Prop) (r : Nat) (Lv cv : Value) : Nat → Prop := fun k => D k ∧ k ≠ r ∧ Lv.ownBlock ≠ some k ∧ cv.ownBlock ≠ some k

structure RB (w : World) (r : Nat) (s : S) (D : Nat → Prop) (Lv cv kv : Value) (kl : List Bool) (E : List En2) : Prop where
  ok : s.Ok
  row : w.heap[r]? = some (.cells (rc s Lv cv kv) 49 (0, 0))
  lrow : lS w Lv s.sectors s.L
  lD : ∀ k, Lv.ownBlock = some k → D k ∧ k ≠ r
  cache : w.ownsRow 0 68 2 cv E.length (E.flatMap ent2)
  cD : ∀ k, cv.ownBlock = some k → D k ∧ k ≠ r ∧ Lv.ownBlock ≠ some k
  elen : E.length = s.c.length
  ents : ∀ i, i < s.c.length → (eAt2 E i).1 = (wAt s.c i).1 ∧ RdN w (De D r Lv cv) (sv (eAt2 E i).2) s.bytes (wAt s.c i).2
  keep : KeepAt w (De D r Lv cv) kv kl
  kk : s.left = 0 ∨ kl = s.keep
  rD : D r
  lt : ∀ k, D k → k < w.heap.size
def RefAt (w : World) (r : Nat) (s : S) (D : Nat → Prop) : Prop := ∃ Lv cv kv kl E, RB w r s D Lv cv kv kl E
theorem RB.keepW {w w' : World} {r : Nat} {s : S} {D : Nat → Prop} {Lv cv kv : Value} {kl : List Bool} {E : List En2} (h : RB w r s D Lv cv kv kl E) (hs : w.heap.size ≤ w'.heap.size) (hk : ∀ k, D k → w'.heap[k]? = w.heap[k]?) : RB w' r s D Lv cv kv kl E :=
  ⟨h.ok, (hk r h.rD).trans h.row, ownsRow_keepB h.lrow fun k e => hk k (h.lD k e).1, h.lD, ownsRow_keepB h.cache fun k e => hk k (h.cD k e).1, h.cD, h.elen, fun i hi => ⟨(h.ents i hi).1, (h.ents i hi).2.keep hs (fun k hd => hk k hd.1) (fun _ h => h)⟩, h.keep.keep hs (fun k hd => hk k hd.1) (fun _ h => h), h.kk, h.rD, fun k hd => Nat.lt_of_lt_of_le (h.lt k hd) hs⟩
theorem RefAt.keep {w w' : World} {r : Nat} {s : S} {D : Nat → Prop} (h : RefAt w r s D) (hs : w.heap.size ≤ w'.heap.size) (hk : ∀ k, D k → w'.heap[k]? = w.heap[k]?) : RefAt w' r s D := by
  obtain ⟨Lv, cv, kv, kl, E, h⟩ := h
  exact ⟨Lv, cv, kv, kl, E, h.keepW hs hk⟩
theorem RefAt.lt {w : World} {r : Nat} {s : S} {D : Nat → Prop} (h : RefAt w r s D) : ∀ k, D k → k < w.heap.size := by obtain ⟨Lv, cv, kv, kl, E, h⟩ := h; exact h.lt
theorem RefAt.ok {w : World} {r : Nat} {s : S} {D : Nat → Prop} (h : RefAt w r s D) : s.Ok := by obtain ⟨Lv, cv, kv, kl, E, h⟩ := h; exact h.ok
theorem RefAt.below {w w' : World} {r : Nat} {s : S} {D : Nat → Prop} (h : RefAt w r s D) (hb : Below w.heap.size w w') : RefAt w' r s D := h.keep hb.size fun k hd => hb.block k (h.lt k hd)
theorem RefAt.fr {w w' : World} {g : Nat} {s : S} {D D' : Nat → Prop} (h : RefAt w g s D) (hb : Fr D' w w') (hD : ∀ k, D k → ¬ D' k) : RefAt w' g s D := h.keep hb.size fun k hd => hb.block k (h.lt k hd) (hD k hd)
def RDid (D : Nat → Prop) (r : Nat) (s : S) (w w' : World) : Prop := ∃ D', RefAt w' r s D' ∧ (∀ k, D' k → D k ∨ w.heap.size ≤ k) ∧ Fr D w w'
theorem RDid.refl {w : World} {g : Nat} {s : S} {D : Nat → Prop} (h : RefAt w g s D) : RDid D g s w w := ⟨D, h, fun _ h => .inl h, Fr.refl _ _⟩
theorem RDid.step {D D' : Nat → Prop} {g : Nat} {s : S} {a b c : World} (hD : ∀ k, D' k → D k ∨ a.heap.size ≤ k) (hf : Fr D a b) (h : RDid D' g s b c) : RDid D g s a c := by
  obtain ⟨D2, h1, h2, h3⟩ := h
  refine ⟨D2, h1, fun k hk => ?_, hf.step h3 hD⟩
  rcases h2 k hk with h | h
  · exact hD k h
  · exact .inr (by have := hf.size; omega)

theorem rc_cells {w : World} {r : Nat} {s : S} {Lv cv kv : Value} (h : w.heap[r]? = some (.cells (rc s Lv cv kv) 49 (0, 0))) :
    w.cell? ⟨r, 0, none⟩ = some (.int .i64 (s.bytes : Int)) ∧ w.cell? ⟨r, 1, none⟩ = some Lv ∧ w.cell? ⟨r, 2, none⟩ = some cv ∧ w.cell? ⟨r, 3, none⟩ = some (.bool s.up) ∧
    w.cell? ⟨r, 4, none⟩ = some (.int .i64 (s.left : Int)) ∧ w.cell? ⟨r, 5, none⟩ = some kv ∧ w.cell? ⟨r, 6, none⟩ = some (.int .i64 (s.deeds : Int)) ∧ ∀ i, w.frozen? ⟨r, i, none⟩ = false := by
  refine ⟨?_, ?_, ?_, ?_, ?_, ?_, ?_, fun i => by simp [World.frozen?, h]⟩ <;> (rw [cell_of_row w r _ _ 49 (0, 0) h]; rfl)
theorem rc_set {w : World} {r : Nat} {s : S} {Lv cv kv : Value} (h : w.heap[r]? = some (.cells (rc s Lv cv kv) 49 (0, 0))) (i : Nat) (v : Value) (s' : S) (Lv' cv' kv' : Value) (e : (rc s Lv cv kv).setIfInBounds i v = rc s' Lv' cv' kv') :
    (w.setCell ⟨r, i, none⟩ v).heap[r]? = some (.cells (rc s' Lv' cv' kv') 49 (0, 0)) := by
  rw [setCell_eq_setRow w r i _ 49 (0, 0) v h, setRow_heap w r _ _ 49 _ h, e]

/-- the disk's own block alone turned, and not in its texts and its cache. -/
theorem RB.own {w w' : World} {r : Nat} {s s' : S} {D : Nat → Prop} {Lv cv kv kv' : Value} {kl kl' : List Bool} {E : List En2} (h : RB w r s D Lv cv kv kl E) (hok : s'.Ok)
    (e1 : s'.sectors = s.sectors) (e2 : s'.bytes = s.bytes) (e3 : s'.L = s.L) (e4 : s'.c = s.c) (hrow : w'.heap[r]? = some (.cells (rc s' Lv cv kv') 49 (0, 0))) (hs : w.heap.size ≤ w'.heap.size)
    (hk : ∀ k, D k → k ≠ r → w'.heap[k]? = w.heap[k]?) (D' : Nat → Prop) (hD : ∀ k, D k → D' k) (hlt : ∀ k, D' k → k < w'.heap.size) (hkeep : KeepAt w' (De D' r Lv cv) kv' kl') (hkk : s'.left = 0 ∨ kl' = s'.keep) : RB w' r s' D' Lv cv kv' kl' E := by
  have hdd : ∀ k, De D r Lv cv k → De D' r Lv cv k := fun k hd => ⟨hD k hd.1, hd.2⟩
  refine ⟨hok, hrow, by rw [e1, e3]; exact ownsRow_keepB h.lrow fun k e => hk k (h.lD k e).1 (h.lD k e).2, fun k e => ⟨hD k (h.lD k e).1, (h.lD k e).2⟩, ownsRow_keepB h.cache fun k e => hk k (h.cD k e).1 (h.cD k e).2.1, fun k e => ⟨hD k (h.cD k e).1, (h.cD k e).2⟩, by rw [e4]; exact h.elen, fun i hi => ?_, hkeep, hkk, hD r h.rD, hlt⟩
  rw [e4] at hi
  rw [e2, e4]
  exact ⟨(h.ents i hi).1, (h.ents i hi).2.keep hs (fun k hd => hk k hd.1 hd.2.1) hdd⟩
theorem RB.own' {w w' : World} {r : Nat} {s s' : S} {D : Nat → Prop} {Lv cv kv : Value} {kl : List Bool} {E : List En2} (h : RB w r s D Lv cv kv kl E) (hok : s'.Ok)
    (e1 : s'.sectors = s.sectors) (e2 : s'.bytes = s.bytes) (e3 : s'.L = s.L) (e4 : s'.c = s.c) (hkk : s'.left = 0 ∨ kl = s'.keep) (hrow : w'.heap[r]? = some (.cells (rc s' Lv cv kv) 49 (0, 0))) (hs : w.heap.size = w'.heap.size)
    (hk : ∀ k, k ≠ r → w'.heap[k]? = w.heap[k]?) : RB w' r s' D Lv cv kv kl E :=
  h.own hok e1 e2 e3 e4 hrow (by omega) (fun k _ hn => hk k hn) D (fun _ h => h) (fun k hd => by rw [← hs]; exact h.lt k hd) (h.keep.keep (by omega) (fun k hd => hk k hd.2.1) (fun _ h => h)) hkk

set_option maxHeartbeats 1000000 in
theorem rOn_any (w : World) (r : Nat) (s : S) (D : Nat → Prop) (h : RefAt w r s D) :
    Calls Try.prog 22 #[.pointer (some ⟨r, 0, none⟩)] w fun e w' => (∃ v, e = .returned v) ∧ RDid D r s.on w w' := by
  obtain ⟨Lv, cv, kv, kl, E, h⟩ := h
  obtain ⟨_, _, _, c3, c4, _, _, hf⟩ := rc_cells h.row
  have hf3 := hf 3
  have hf4 := hf 4
  have hrow1 := rc_set h.row 3 (.bool true) { s with up := true } Lv cv kv rfl
  have hrow2 := rc_set hrow1 4 (.int .i64 0) s.on Lv cv kv rfl
  have HB : Hid (RB ((w.setCell ⟨r, 3, none⟩ (.bool true)).setCell ⟨r, 4, none⟩ (.int .i64 0)) r s.on D Lv cv kv kl E) :=
    h.own' h.ok.on rfl rfl rfl rfl (.inl rfl) hrow2 (by rw [setCell_size, setCell_size]) (fun k hk => by rw [setCell_other _ _ _ _ _ hk, setCell_other _ _ _ _ _ hk])
  have HF : Hid (Fr D w ((w.setCell ⟨r, 3, none⟩ (.bool true)).setCell ⟨r, 4, none⟩ (.int .i64 0))) := ((Fr.refl _ _).setCell (.inl h.rD) _).setCell (.inl h.rD) _
  clear h hrow1 hrow2 hf
  go_enter Try.func22, Try.ntmps22
  go_wp2
  go_end0
  exact ⟨⟨_, rfl⟩, D, ⟨Lv, cv, kv, kl, E, HB.out⟩, fun _ h => .inl h, HF.out⟩

theorem wpList_run_app {P : Program} (w : World) {ops : Array Oper} {rest : List Oper} {o : Oper} {a : Act} {Q : Exit → Act → World → Prop} (hgd : o.guard = none) (s x : Operand) (t : TypeId)
    (ho : o.op = .call { callee := .builtin .append, args := #[s, x], argTypes := #[t, t] }) (v1 v2 v' : Value) (w' : World) (hs : a.eval s = v1) (hx : a.eval x = v2) (hrun : ∀ ty, (Builtin.append_ #[t, t] ty #[v1, v2]).run P w = .ok v' w') (h : wpList P ops Q rest (a.put o.dst v') w') :
    wpList P ops Q (o :: rest) a w := by
  refine wpList_plain hgd fun K hK => ?_
  unfold Oper.wp execOp
  simp only [ho, resolve, invoke, builtin, Sem.run_bind, Sem.run_pure, Result.andThen_ok, List.map_toArray, List.map_cons, List.map_nil, hs, hx, hrun]
  exact hK _ _ h

theorem RdQ.keepC {w w' : World} {A : Option Addr} {n c : Nat} {ks : List Bool} (h : RdQ w A n c ks) (hs : w.heap.size ≤ w'.heap.size) (hk : 0 < n → ∀ a, A = some a → w'.heap[a.block]? = w.heap[a.block]?) : RdQ w' A n c ks :=
  ⟨h.len, h.cap, fun hn => by
    obtain ⟨g, o, e, hg, hc⟩ := h.cells hn
    exact ⟨g, o, e, by omega, fun j hj => (World.cell?_of_block (a := ⟨g, o + j, none⟩) (hk hn ⟨g, o, none⟩ e)).trans (hc j hj)⟩⟩
set_option maxHeartbeats 1000000 in
theorem rArm_any (w : World) (r : Nat) (s : S) (D : Nat → Prop) (h : RefAt w r s D) (i : Int) (hi : i ≤ 9223372036854775807) (A : Option Addr) (n c : Nat) (ks : List Bool) (hr : RdQ w A n c ks) (hn : n ≤ 17592186044416) (hA : 0 < n → ∀ a, A = some a → ¬ D a.block) :
    Calls Try.prog 18 #[.pointer (some ⟨r, 0, none⟩), .int .i64 i, .slice A n c] w fun e w' => (∃ v, e = .returned v) ∧ RDid D r (s.arm i ks) w w' := by
  obtain ⟨Lv, cv, kv, kl, E, h⟩ := h
  have hmax : ∀ W, (Builtin.max_ #[3, 3] 3 #[.int .i64 i, .int .i64 0]).run Try.prog W = .ok (.int .i64 ((i.toNat : Nat) : Int)) W := fun W => by
    rw [run_max_int2]
    congr 2
    split <;> omega
  obtain ⟨i', hi'⟩ : ∃ i' : Nat, i.toNat = i' := ⟨_, rfl⟩
  rw [hi'] at hmax
  obtain ⟨_, _, _, _, c4, c5, _, hf⟩ := rc_cells h.row
  have hf4 := hf 4
  have hf5 := hf 5
  have hrow1 := rc_set h.row 4 (.int .i64 (i' : Int)) { s with left := i' } Lv cv kv rfl
  have hrow2 := rc_set hrow1 5 (.slice none 0 0) { s with left := i' } Lv cv (.slice none 0 0) rfl
  obtain ⟨W2, hW2⟩ : ∃ W2, (w.setCell ⟨r, 4, none⟩ (.int .i64 (i' : Int))).setCell ⟨r, 5, none⟩ (.slice none 0 0) = W2 := ⟨_, rfl⟩
  have ho2 : ∀ k, k ≠ r → W2.heap[k]? = w.heap[k]? := fun k hk => by rw [← hW2, setCell_other _ _ _ _ _ hk, setCell_other _ _ _ _ _ hk]
  have hs2 : W2.heap.size = w.heap.size := by rw [← hW2, setCell_size, setCell_size]
  have hr2 : RdQ W2 A n c ks := hr.keepC (by omega) (fun h0 a e => ho2 _ (fun e2 => hA h0 a e (by rw [e2]; exact h.rD)))
  obtain ⟨v', w3, hrun, hown3, hb3⟩ := run_appQ W2 W2.heap.size 33 (.slice none 0 0) [] ⟨rfl, .inl ⟨rfl, rfl⟩⟩ A n c ks hr2 (by simp; omega) (Nat.le_refl _)
  rw [List.nil_append] at hown3
  obtain ⟨A3, c3', rfl, hq3, ha3⟩ := hown3.slice n hr.len
  have hrow3 : w3.heap[r]? = some (.cells (rc { s with left := i' } Lv cv (.slice none 0 0)) 49 (0, 0)) := (hb3.block r (by rw [hs2]; exact h.lt r h.rD)).trans (by rw [← hW2]; exact hrow2)
  obtain ⟨_, _, _, _, _, d5, _, df⟩ := rc_cells hrow3
  have df5 := df 5
  obtain ⟨_, _, _, _, _, b5, _, bf⟩ := rc_cells (w := W2) (by rw [← hW2]; exact hrow2)
  have hrow4 := rc_set hrow3 5 (.slice A3 n c3') (s.arm i ks) Lv cv (.slice A3 n c3') (by unfold S.arm; rw [hi']; rfl)
  obtain ⟨W4, hW4⟩ : ∃ W4, w3.setCell ⟨r, 5, none⟩ (.slice A3 n c3') = W4 := ⟨_, rfl⟩
  have hs4 : W4.heap.size = w3.heap.size := by rw [← hW4, setCell_size]
  have ho4 : ∀ k, k ≠ r → W4.heap[k]? = w3.heap[k]? := fun k hk => by rw [← hW4, setCell_other _ _ _ _ _ hk]
  rw [hW4] at hrow4
  have hs3 := hb3.size
  have HE : Hid (RDid D r (s.arm i ks) w W4) := by
    refine ⟨fun k => D k ∨ (w.heap.size ≤ k ∧ k < w3.heap.size), ⟨Lv, cv, .slice A3 n c3', ks, E, h.own (h.ok.arm i hi ks) rfl rfl rfl rfl hrow4 (by omega) (fun k hd hn => (ho4 k hn).trans ((hb3.block k (by rw [hs2]; exact h.lt k hd)).trans (ho2 k hn))) _ (fun k hd => .inl hd) (fun k hd => ?_) ⟨A3, c3', by rw [hr.len], ?_, fun a e => ?_⟩ (.inr rfl)⟩, fun k hd => hd.imp id (·.1), ?_⟩
    · rcases hd with hd | hd
      · have := h.lt k hd; omega
      · omega
    · rw [hr.len]
      exact hq3.keepB (by omega) fun a e => ho4 _ (fun e2 => by have := (ha3 a e).1; have := h.lt r h.rD; omega)
    · have h1 := ha3 a e
      refine ⟨.inr (by omega), fun e2 => ?_, fun e2 => ?_, fun e2 => ?_⟩
      · have := h.lt r h.rD; omega
      · have := h.lt _ (h.lD _ e2).1; omega
      · have := h.lt _ (h.cD _ e2).1; omega
    · have f2 : Fr D w W2 := by rw [← hW2]; exact ((Fr.refl _ _).setCell (.inl h.rD) _).setCell (.inl h.rD) _
      have f3 := f2.trans (Fr.of hb3)
      rw [← hW4]
      exact f3.setCell (.inl h.rD) _
  have hrun' : ∀ ty, (Builtin.append_ #[33, 33] ty #[.slice none 0 0, .slice A n c]).run Try.prog W2 = .ok (.slice A3 n c3') w3 := fun _ => hrun
  have HRUN := Lib.hid hrun'
  clear h hrow1 hrow2 hrow3 hrow4 hf df bf hr hr2 hrun hrun' hown3 hb3 hq3 ha3 ho2 ho4 hs2 hs3 hs4 hA
  go_enter Try.func18, Try.ntmps18
  go_wp2_with (first | (at_builtin; refine wpList_run_app _ rfl _ _ 33 rfl _ _ _ _ rfl rfl HRUN.out ?_) | go_in)
  go_end0
  exact ⟨⟨_, rfl⟩, HE.out⟩
end Go.Proofs.Ytikajhfaoccicaa
