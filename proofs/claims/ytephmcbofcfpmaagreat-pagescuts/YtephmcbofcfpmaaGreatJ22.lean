/- A transaction in memory. Conditions: none. A transaction's bits are loaded; a page is found. Conditions: none. -/
import Derived.Test.YtephmcbofcfpmaaGreatJ17
import Derived.Test.YtephmcbofcfpmaaGreatJ18
import Derived.Test.YtephmcbofcfpmaaGreatJ21
import Derived.LaidEqlPtr
set_option maxRecDepth 8000
set_option linter.unusedSimpArgs false
set_option linter.unusedVariables false
namespace Go.Proofs.YtephmcbofcfpmaaGreat
open Go.RowKit Go.Bs Go.Dk Rp

def txr (pp : Nat) (bv : Value) (mb : Nat) (root : Bool) (ro : Nat) : Array Value := #[.pointer (some ⟨pp, 0, none⟩), bv, .map (some mb), .bool root, .int .i64 (ro : Int)]
theorem txr_cells {w : World} {t pp mb ro : Nat} {bv : Value} {root : Bool} (h : w.heap[t]? = some (.cells (txr pp bv mb root ro) 104 (0, 0))) :
    w.cell? ⟨t, 0, none⟩ = some (.pointer (some ⟨pp, 0, none⟩)) ∧ w.cell? ⟨t, 1, none⟩ = some bv ∧ w.cell? ⟨t, 2, none⟩ = some (.map (some mb)) ∧ w.cell? ⟨t, 3, none⟩ = some (.bool root) ∧ w.cell? ⟨t, 4, none⟩ = some (.int .i64 (ro : Int)) ∧ ∀ i, w.frozen? ⟨t, i, none⟩ = false := by
  refine ⟨?_, ?_, ?_, ?_, ?_, fun i => by simp [World.frozen?, h]⟩ <;> (rw [cell_of_row w t _ _ 104 (0, 0) h]; rfl)
theorem txr_set {w : World} {t pp mb ro : Nat} {bv : Value} {root : Bool} (h : w.heap[t]? = some (.cells (txr pp bv mb root ro) 104 (0, 0))) (i : Nat) (v bv' : Value) (root' : Bool) (ro' : Nat) (e : (txr pp bv mb root ro).setIfInBounds i v = txr pp bv' mb root' ro') :
    (w.setCell ⟨t, i, none⟩ v).heap[t]? = some (.cells (txr pp bv' mb root' ro') 104 (0, 0)) := by
  rw [setCell_eq_setRow w t i _ 104 (0, 0) v h, setRow_heap w t _ _ 104 _ h, e]
/-- the block of a root. -/
def encR (Bz r : Nat) : List UInt8 := putK (zeros Bz) r 4
structure TxD (w : World) (pp t N Bz M : Nat) (L : Nat → List UInt8) (T : TX) (K KV : Nat → Prop) (ld : Bool) (bv : Value) (mb ro : Nat) (F : Nat → Option Value) : Prop where
  row : w.heap[t]? = some (.cells (txr pp bv mb T.root ro) 104 (0, 0))
  map : PMap w mb N F
  mK : K mb
  kv : ∀ k, KV k → K k
  kvn : ∀ k, KV k → k ≠ t ∧ k ≠ pp ∧ k ≠ mb
  mt : mb ≠ t ∧ mb ≠ pp ∧ t ≠ pp
  bits : (ld = false ∧ bv = .pointer none ∧ ∀ k, k < M → T.L k = L k) ∨ ∃ bb wb wcap nb ncap, bv = .pointer (some ⟨bb, 0, none⟩) ∧ BitsAt w bb (M * Bz) (cat M L) (cat M T.L) K wb wcap nb ncap 0 ∧ ¬ KV nb ∧ ∀ k, (k = bb ∨ k = wb ∨ k = nb) → k ≠ t ∧ k ≠ pp ∧ k ≠ mb
  vals : ∀ k v, F k = some v → ∃ A c, v = .slice (some ⟨A, 0, none⟩) Bz c ∧ Rd w (some ⟨A, 0, none⟩) Bz c (T.L k) ∧ KV A
  keys : ∀ k, k < N → ((F k).isSome = (usedP N Bz M T.L (k : Int) && T.W k))
  same : ∀ k, k < N → usedP N Bz M T.L (k : Int) = true → T.W k = false → T.L k = L k
  ro1 : ro ≤ 100000
  root : (T.root = true ∧ T.L M = encR Bz ro) ∨ (T.root = false ∧ T.L M = L M)
def nowV (T : TX) (t : Nat) : Value := if T.done then .pointer none else .pointer (some ⟨t, 0, none⟩)
structure Pg (w : World) (pp t q g : Nat) (s : S) (log N Bz M : Nat) (L : Nat → List UInt8) (T : TX) (Dw K : Nat → Prop) (ld : Bool) : Prop where
  wal : WalAt w q g s log false Dw
  up : s.up = true
  cc : s.c = []
  un : unset s.L
  hN : nbl s log = N
  hB : s.bytes = Bz
  hM : mapN N Bz = M
  hL : ∀ k, k < N → L k = wl s log k
  rowP : w.heap[pp]? = some (.cells (pgr q (nowV T t)) 106 (0, 0))
  KD : ∀ k, K k → ¬ Dw k ∧ k ≠ q ∧ k < w.heap.size
  inK : K pp ∧ K t
  dL : Dm N Bz M L
  dT : Dm N Bz M T.L
  rootL : ∃ r, r ≤ 100000 ∧ L M = encR Bz r
  own : w.cell? ⟨t, 0, none⟩ = some (.pointer (some ⟨pp, 0, none⟩))
  rowT : ∃ ca, w.heap[t]? = some (.cells ca 104 (0, 0))
  tx : T.done = false → ∃ KV bv mb ro F, TxD w pp t N Bz M L T K KV ld bv mb ro F
theorem BitsAt.keep {w w' : World} {bb n : Nat} {was now : List UInt8} {K K' : Nat → Prop} {wb wcap nb ncap base : Nat} (h : BitsAt w bb n was now K wb wcap nb ncap base) (hk : ∀ k, K k → w'.heap[k]? = w.heap[k]?) (hK : ∀ k, K k → K' k) : BitsAt w' bb n was now K' wb wcap nb ncap base :=
  ⟨(hk bb h.inK.1).trans h.row, ownsRow_keepB h.wasR fun k e => by
      have : wb = k := by simpa [Value.ownBlock] using e
      subst this; exact hk _ h.inK.2.1, ownsRow_keepB h.nowR fun k e => by
      have : nb = k := by simpa [Value.ownBlock] using e
      subst this; exact hk _ h.inK.2.2, h.ne, h.len, h.n0, ⟨hK _ h.inK.1, hK _ h.inK.2.1, hK _ h.inK.2.2⟩⟩
theorem TxD.keep {w w' : World} {pp t N Bz M : Nat} {L : Nat → List UInt8} {T : TX} {K K' KV : Nat → Prop} {ld : Bool} {bv : Value} {mb ro : Nat} {F : Nat → Option Value} (h : TxD w pp t N Bz M L T K KV ld bv mb ro F) (ht : K t) (hs : w.heap.size ≤ w'.heap.size) (hk : ∀ k, K k → w'.heap[k]? = w.heap[k]?) (hK : ∀ k, K k → K' k) : TxD w' pp t N Bz M L T K' KV ld bv mb ro F :=
  ⟨(hk t ht).trans h.row, h.map.keep (hk mb h.mK), hK _ h.mK, fun k hv => hK _ (h.kv k hv), h.kvn, h.mt, h.bits.imp (fun x => x) (fun ⟨bb, wb, wcap, nb, ncap, e, hb, hn⟩ => ⟨bb, wb, wcap, nb, ncap, e, hb.keep hk hK, hn⟩),
    fun k v hv => by
      obtain ⟨A, c, e, hr, hA⟩ := h.vals k v hv
      exact ⟨A, c, e, Rd.keepB hr hs (fun a ha => by injection ha with ha; subst ha; exact hk A (h.kv A hA)), hA⟩, h.keys, h.same, h.ro1, h.root⟩
theorem Pg.keep {w w' : World} {pp t q g : Nat} {s : S} {log N Bz M : Nat} {L : Nat → List UInt8} {T : TX} {Dw K : Nat → Prop} {ld : Bool} (h : Pg w pp t q g s log N Bz M L T Dw K ld) (hw : WalAt w' q g s log false Dw) (hs : w.heap.size ≤ w'.heap.size) (hk : ∀ k, K k → w'.heap[k]? = w.heap[k]?) : Pg w' pp t q g s log N Bz M L T Dw K ld :=
  ⟨hw, h.up, h.cc, h.un, h.hN, h.hB, h.hM, h.hL, (hk pp h.inK.1).trans h.rowP, fun k hK => ⟨(h.KD k hK).1, (h.KD k hK).2.1, Nat.lt_of_lt_of_le (h.KD k hK).2.2 hs⟩, h.inK, h.dL, h.dT, h.rootL, (World.cell?_of_block (a := ⟨t, 0, none⟩) (hk t h.inK.2)).trans h.own, (by obtain ⟨ca, hc⟩ := h.rowT; exact ⟨ca, (hk t h.inK.2).trans hc⟩), fun hd => by
    obtain ⟨KV, bv, mb, ro, F, ht⟩ := h.tx hd
    exact ⟨KV, bv, mb, ro, F, ht.keep h.inK.2 hs hk (fun _ x => x)⟩⟩
theorem Pg.below {w w' : World} {pp t q g : Nat} {s : S} {log N Bz M : Nat} {L : Nat → List UInt8} {T : TX} {Dw K : Nat → Prop} {ld : Bool} (h : Pg w pp t q g s log N Bz M L T Dw K ld) (hb : Below w.heap.size w w') : Pg w' pp t q g s log N Bz M L T Dw K ld :=
  h.keep (h.wal.below hb) hb.size fun k hK => hb.block k (h.KD k hK).2.2
theorem Pg.frq {w w' : World} {pp t q g : Nat} {s : S} {log N Bz M : Nat} {L : Nat → List UInt8} {T : TX} {Dw K : Nat → Prop} {ld : Bool} (h : Pg w pp t q g s log N Bz M L T Dw K ld) (hw : WalAt w' q g s log false Dw) (hf : Fr (fun k => k = q) w w') : Pg w' pp t q g s log N Bz M L T Dw K ld :=
  h.keep hw hf.size fun k hK => hf.block k (h.KD k hK).2.2 (h.KD k hK).2.1
/-- what a call leaves. -/
def PgD (pp t q g : Nat) (s : S) (log N Bz M : Nat) (L : Nat → List UInt8) (T : TX) (Dw K : Nat → Prop) (ld : Bool) (w w' : World) : Prop :=
  ∃ K', Pg w' pp t q g s log N Bz M L T Dw K' ld ∧ (∀ k, K' k → K k ∨ w.heap.size ≤ k) ∧ Fr (fun k => K k ∨ k = q) w w'
theorem PgD.refl {w : World} {pp t q g : Nat} {s : S} {log N Bz M : Nat} {L : Nat → List UInt8} {T : TX} {Dw K : Nat → Prop} {ld : Bool} (h : Pg w pp t q g s log N Bz M L T Dw K ld) : PgD pp t q g s log N Bz M L T Dw K ld w w := ⟨K, h, fun _ x => .inl x, Fr.refl _ _⟩
theorem PgD.still {w w' : World} {pp t q g : Nat} {s : S} {log N Bz M : Nat} {L : Nat → List UInt8} {T : TX} {Dw K : Nat → Prop} {ld : Bool} (h : Pg w pp t q g s log N Bz M L T Dw K ld) (hb : Below w.heap.size w w') : PgD pp t q g s log N Bz M L T Dw K ld w w' := ⟨K, h.below hb, fun _ x => .inl x, Fr.of hb⟩
theorem PgD.step {w w1 w2 : World} {pp t q g : Nat} {s : S} {log N Bz M : Nat} {L' : Nat → List UInt8} {T' : TX} {Dw K K1 : Nat → Prop} {ld : Bool} (hK : ∀ k, K1 k → K k ∨ w.heap.size ≤ k) (hf : Fr (fun k => K k ∨ k = q) w w1) (h : PgD pp t q g s log N Bz M L' T' Dw K1 ld w1 w2) : PgD pp t q g s log N Bz M L' T' Dw K ld w w2 := by
  obtain ⟨K2, h1, h2, h3⟩ := h
  refine ⟨K2, h1, fun k hk => ?_, hf.step h3 fun k hk => ?_⟩
  · rcases h2 k hk with h | h
    · exact hK k h
    · exact .inr (Nat.le_trans hf.size h)
  · rcases hk with h | h
    · rcases hK k h with h' | h'
      · exact .inl (.inl h')
      · exact .inr h'
    · exact .inl (.inr h)
theorem Pg.weak {w : World} {pp t q g : Nat} {s : S} {log N Bz M : Nat} {L : Nat → List UInt8} {T : TX} {Dw K : Nat → Prop} {ld : Bool} (h : Pg w pp t q g s log N Bz M L T Dw K ld) : Pg w pp t q g s log N Bz M L T Dw K false :=
  ⟨h.wal, h.up, h.cc, h.un, h.hN, h.hB, h.hM, h.hL, h.rowP, h.KD, h.inK, h.dL, h.dT, h.rootL, h.own, h.rowT, fun hd => by
    obtain ⟨KV, bv, mb, ro, F, ht⟩ := h.tx hd
    exact ⟨KV, bv, mb, ro, F, ht.row, ht.map, ht.mK, ht.kv, ht.kvn, ht.mt, ht.bits.imp (fun x => ⟨rfl, x.2⟩) (fun x => x), ht.vals, ht.keys, ht.same, ht.ro1, ht.root⟩⟩
theorem PgD.weak {w w' : World} {pp t q g : Nat} {s : S} {log N Bz M : Nat} {L : Nat → List UInt8} {T : TX} {Dw K : Nat → Prop} {ld : Bool} (h : PgD pp t q g s log N Bz M L T Dw K ld w w') : PgD pp t q g s log N Bz M L T Dw K false w w' := by
  obtain ⟨K', h1, h2, h3⟩ := h
  exact ⟨K', h1.weak, h2, h3⟩
/-! ### what keeps a call from doing anything -/
theorem tready_nil (w : World) : Calls Tryz.prog 56 #[.pointer none] w fun e w' => e = .returned (.int .i64 3) ∧ w = w' := by
  go_enter Tryz.func56, Tryz.ntmps56
  go_wp2
  go_ret
  exact ⟨rfl, rfl⟩
theorem info64 : ∃ j, Tryz.prog.info? 104 = some j ∧ j.size ≠ 0 := by
  have h : ((Tryz.prog.info? 104).map fun j => decide (j.size ≠ 0)) = some true := by kernel_rfl
  cases hj : Tryz.prog.info? 104 with
  | none => rw [hj] at h; cases h
  | some j => exact ⟨j, rfl, by rw [hj] at h; simpa using h⟩
theorem tx_neq_same (a : Addr) (w : World) : (binOp .neq 35 (.pointer (some a)) (.pointer (some a))).run Tryz.prog w = .ok (.bool false) w := by
  obtain ⟨j, hj, _⟩ := info64
  have h : ∀ d : Nat, (Op.equalIn (d + 1) 35 (.pointer (some a)) (.pointer (some a))).run Tryz.prog w = .ok true w := fun d => by
    simp [Op.equalIn, run_underlying Tryz.underlying35, sizeOf, typeInfo, hj, run_sameAddr_same]
  simp only [binOp]
  simp [Op.equal, Op.maxDepth, h 9999]
theorem tx_neq_nil (a : Addr) (w : World) : (binOp .neq 35 (.pointer none) (.pointer (some a))).run Tryz.prog w = .ok (.bool true) w := by
  have h : ∀ d : Nat, (Op.equalIn (d + 1) 35 (.pointer none) (.pointer (some a))).run Tryz.prog w = .ok false w := fun d => by
    simp [Op.equalIn, run_underlying Tryz.underlying35]
  simp only [binOp]
  simp [Op.equal, Op.maxDepth, h 9999]
theorem tx_neq_other {a b : Addr} {ca cb : Array Value} {ta tb : TypeId} (w : World) (hne : a ≠ b) (ha : w.heap[a.block]? = some (.cells ca ta (0, 0))) (hb : w.heap[b.block]? = some (.cells cb tb (0, 0))) : (binOp .neq 35 (.pointer (some a)) (.pointer (some b))).run Tryz.prog w = .ok (.bool true) w := by
  obtain ⟨j, hj, hsz⟩ := info64
  have h : ∀ d : Nat, (Op.equalIn (d + 1) 35 (.pointer (some a)) (.pointer (some b))).run Tryz.prog w = .ok false w := fun d => by
    simp [Op.equalIn, run_underlying Tryz.underlying35, sizeOf, typeInfo, hj, hsz, run_sameAddr_other w hne ha hb]
  simp only [binOp]
  simp [Op.equal, Op.maxDepth, h 9999]
theorem tready_run (w : World) (t pp : Nat) (now : Option Addr) (r : Bool) (h0 : w.cell? ⟨t, 0, none⟩ = some (.pointer (some ⟨pp, 0, none⟩))) (h1 : w.cell? ⟨pp, 1, none⟩ = some (.pointer now)) (hn : (binOp .neq 35 (.pointer now) (.pointer (some ⟨t, 0, none⟩))).run Tryz.prog w = .ok (.bool r) w) :
    Calls Tryz.prog 56 #[.pointer (some ⟨t, 0, none⟩)] w fun e w' => e = .returned (.int .i64 (if r then 1 else 0)) ∧ w = w' := by
  cases r
  · go_enter Tryz.func56, Tryz.ntmps56
    go_wp2
    go_ret
    exact ⟨rfl, rfl⟩
  · go_enter Tryz.func56, Tryz.ntmps56
    go_wp2
    go_ret
    exact ⟨rfl, rfl⟩
theorem tready_any (w : World) (pp t q g : Nat) (s : S) (log N Bz M : Nat) (L : Nat → List UInt8) (T : TX) (Dw K : Nat → Prop) (ld : Bool) (h : Pg w pp t q g s log N Bz M L T Dw K ld) :
    Calls Tryz.prog 56 #[.pointer (some ⟨t, 0, none⟩)] w fun e w' => e = .returned (.int .i64 (if T.done then 1 else 0)) ∧ w = w' := by
  have h1 := (pgr_cells h.rowP).2.1
  unfold nowV at h1
  cases hd : T.done
  · rw [hd] at h1
    exact tready_run w t pp _ false h.own h1 (tx_neq_same _ _)
  · rw [hd] at h1
    exact tready_run w t pp _ true h.own h1 (tx_neq_nil _ _)
/-- one that is not the later one is done. -/
theorem tready_old (w : World) (t u pp : Nat) (ca cb : Array Value) (h0 : w.cell? ⟨t, 0, none⟩ = some (.pointer (some ⟨pp, 0, none⟩))) (h1 : w.cell? ⟨pp, 1, none⟩ = some (.pointer (some ⟨u, 0, none⟩))) (hne : u ≠ t) (ht : w.heap[t]? = some (.cells ca 104 (0, 0))) (hu : w.heap[u]? = some (.cells cb 104 (0, 0))) :
    Calls Tryz.prog 56 #[.pointer (some ⟨t, 0, none⟩)] w fun e w' => e = .returned (.int .i64 1) ∧ w = w' :=
  tready_run w t pp _ true h0 h1 (tx_neq_other w (fun e => hne (congrArg Addr.block e)) hu ht)
theorem tend_at (w : World) (t pp q : Nat) (now : Value) (h0 : w.cell? ⟨t, 0, none⟩ = some (.pointer (some ⟨pp, 0, none⟩))) (h1 : w.heap[pp]? = some (.cells (pgr q now) 106 (0, 0))) :
    Calls Tryz.prog 70 #[.pointer (some ⟨t, 0, none⟩)] w fun e w' => (∃ v, e = .returned v) ∧ w' = w.setCell ⟨pp, 1, none⟩ (.pointer none) := by
  obtain ⟨_, c1, hf⟩ := pgr_cells h1
  have hf1 := hf 1
  clear h1 hf
  go_enter Tryz.func70, Tryz.ntmps70
  go_wp2
  go_end0
  exact ⟨⟨_, rfl⟩, rfl⟩
theorem theed_ok (w : World) (t : Nat) : Calls Tryz.prog 59 #[.pointer (some ⟨t, 0, none⟩), .int .i64 0] w fun e w' => e = .returned (.int .i64 0) ∧ w = w' := by
  go_enter Tryz.func59, Tryz.ntmps59
  go_wp2
  go_ret
  exact ⟨rfl, rfl⟩
theorem tBytes_nil (w : World) : Calls Tryz.prog 35 #[.pointer none] w fun e w' => e = .returned (.int .i64 0) ∧ w = w' := by
  go_enter Tryz.func35, Tryz.ntmps35
  go_wp2
  go_ret
  exact ⟨rfl, rfl⟩
set_option maxHeartbeats 1000000 in
theorem tBytes_at (w : World) (pp t q g : Nat) (now : Value) (s : S) (log Bz : Nat) (Dw : Nat → Prop) (h0 : w.cell? ⟨t, 0, none⟩ = some (.pointer (some ⟨pp, 0, none⟩))) (hp : w.heap[pp]? = some (.cells (pgr q now) 106 (0, 0))) (hw : WalAt w q g s log false Dw) (hB : s.bytes = Bz) :
    Calls Tryz.prog 35 #[.pointer (some ⟨t, 0, none⟩)] w fun e w' => e = .returned (.int .i64 (Bz : Int)) ∧ ∃ k, w' = w.drewN k := by
  have HS := Lib.hid (pSize_any w pp q g _ s log false Dw hp hw)
  rw [hB] at HS
  obtain ⟨x, hx⟩ : ∃ x : Int, (nbl s log : Int) - (mapN (nbl s log) Bz + 1 : Nat) = x := ⟨_, rfl⟩
  rw [hx] at HS
  clear hp hw hB hx
  go_enter Tryz.func35, Tryz.ntmps35
  go_wp2_with fail
  refine HS.out.mono ?_
  rintro e w1 ⟨rfl, k, rfl⟩
  go_wp2
  go_ret
  exact ⟨rfl, k, rfl⟩
theorem tBytes_any (w : World) (pp t q g : Nat) (s : S) (log N Bz M : Nat) (L : Nat → List UInt8) (T : TX) (Dw K : Nat → Prop) (ld : Bool) (h : Pg w pp t q g s log N Bz M L T Dw K ld) :
    Calls Tryz.prog 35 #[.pointer (some ⟨t, 0, none⟩)] w fun e w' => e = .returned (.int .i64 (Bz : Int)) ∧ ∃ k, w' = w.drewN k :=
  tBytes_at w pp t q g _ s log Bz Dw h.own h.rowP h.wal h.hB
end Go.Proofs.YtephmcbofcfpmaaGreat

set_option maxRecDepth 8000
set_option linter.unusedSimpArgs false
set_option linter.unusedVariables false
namespace Go.Proofs.YtephmcbofcfpmaaGreat
open Go.RowKit Go.Bs Go.Dk Rp

theorem WalAt.keepF {w w' : World} {p g : Nat} {s : S} {log : Nat} {down : Bool} {D : Nat → Prop} (h : WalAt w p g s log down D) (hs : w.heap.size ≤ w'.heap.size) (hk : ∀ k, D k ∨ k = p → w'.heap[k]? = w.heap[k]?) : WalAt w' p g s log down D :=
  ⟨(hk p (.inr rfl)).trans h.row, h.disk.keep hs fun k hd => hk k (.inl hd), h.pD, h.l0, h.l1, h.l2⟩
theorem sc_other (w : World) (g i k : Nat) (v : Value) (h : k ≠ g) : (w.setCell ⟨g, i, none⟩ v).heap[k]? = w.heap[k]? := Below.heap_setCell w ⟨g, i, none⟩ v k h
theorem sc_size (w : World) (a : Addr) (v : Value) : (w.setCell a v).heap.size = w.heap.size := by simp [World.setCell]
theorem own_zero {w : World} {base e : Nat} {v : Value} {bs : List UInt8} (h : Bs.Own w base e v bs) : Bs.Own w 0 e v bs := by
  refine ⟨h.1, ?_⟩
  rcases h.2 with x | ⟨g', cap', cur', y1, y2, y3⟩
  · exact .inl x
  · exact .inr ⟨g', cap', cur', y1, Nat.zero_le _, y3⟩
theorem Pg.sizes {w : World} {pp t q g : Nat} {s : S} {log N Bz M : Nat} {L : Nat → List UInt8} {T : TX} {Dw K : Nat → Prop} {ld : Bool} (h : Pg w pp t q g s log N Bz M L T Dw K ld) : 16 ≤ Bz ∧ Bz ≤ 4096 ∧ N ≤ 65536 ∧ M + 2 ≤ N ∧ 1 ≤ M := by
  have h1 := h.wal.disk.ok
  have h2 := h.hN
  have h3 := h.dL.mn
  have h4 := h.dL.m
  have hb := h.hB
  have hs := h1.s1
  unfold nbl at h2
  refine ⟨by rw [← hb]; exact h1.b0, by rw [← hb]; exact h1.b1, by omega, h3, ?_⟩
  rcases Nat.eq_zero_or_pos M with e | e
  · subst e; omega
  · exact e
theorem Pg.catL {w : World} {pp t q g : Nat} {s : S} {log N Bz M : Nat} {L : Nat → List UInt8} {T : TX} {Dw K : Nat → Prop} {ld : Bool} (h : Pg w pp t q g s log N Bz M L T Dw K ld) : cat M (wl s log) = cat M L :=
  cat_congr fun k hk => (h.hL k (by have := h.dL.mn; omega)).symm
/-- the bits are there, in new memory. -/
theorem Pg.loaded {w w1 : World} {pp t q g : Nat} {s : S} {log N Bz M : Nat} {L : Nat → List UInt8} {T : TX} {Dw K KV : Nat → Prop} {mb ro bb : Nat} {F : Nat → Option Value} (h : Pg w pp t q g s log N Bz M L T Dw K false) (hd : T.done = false) (ht : TxD w pp t N Bz M L T K KV false (.pointer none) mb ro F)
    (hn : BitsNew w w1 bb (M * Bz) (cat M L)) (hw : WalAt w1 q g s log false Dw) (hf : Fr (fun k => k = q) w w1) (hTL : ∀ k, k < M → T.L k = L k) : PgD pp t q g s log N Bz M L T Dw K true w (w1.setCell ⟨t, 1, none⟩ (.pointer (some ⟨bb, 0, none⟩))) := by
  obtain ⟨wb, wcap, nb, ncap, hb⟩ := hn
  have h1 := h.frq hw hf
  have ht1 : TxD w1 pp t N Bz M L T K KV false (.pointer none) mb ro F := ht.keep h.inK.2 hf.size (fun k hK => hf.block k (h.KD k hK).2.2 (h.KD k hK).2.1) (fun _ x => x)
  obtain ⟨W2, hW2⟩ : ∃ W2, w1.setCell ⟨t, 1, none⟩ (.pointer (some ⟨bb, 0, none⟩)) = W2 := ⟨_, rfl⟩
  have hsz : W2.heap.size = w1.heap.size := by rw [← hW2]; exact sc_size _ _ _
  have hoth : ∀ k, k ≠ t → W2.heap[k]? = w1.heap[k]? := fun k hk => by rw [← hW2]; exact sc_other _ _ _ _ _ hk
  have htl := (h.KD t h.inK.2).2.2
  have hpl := (h.KD pp h.inK.1).2.2
  have hml := (h.KD mb ht.mK).2.2
  rw [hW2]
  obtain ⟨i1, i2, i3⟩ := hb.inK
  have hcat : cat M T.L = cat M L := cat_congr hTL
  refine ⟨fun k => K k ∨ (w.heap.size ≤ k ∧ k < w1.heap.size), ⟨?_, h.up, h.cc, h.un, h.hN, h.hB, h.hM, h.hL, ?_, fun k hk => ?_, ⟨.inl h.inK.1, .inl h.inK.2⟩, h.dL, h.dT, h.rootL, ?_, ?_, fun _ => ⟨KV, .pointer (some ⟨bb, 0, none⟩), mb, ro, F, ?_⟩⟩, fun k hk => ?_, ?_⟩
  · refine hw.keepF (by omega) fun k hk => hoth k fun e => ?_
    subst e
    rcases hk with hk | hk
    · exact (h.KD k h.inK.2).1 hk
    · exact (h.KD k h.inK.2).2.1 hk
  · rw [hoth pp (fun e => ht.mt.2.2 e.symm)]; exact h1.rowP
  · rcases hk with hk | hk
    · have := h1.KD k hk
      exact ⟨this.1, this.2.1, by omega⟩
    · refine ⟨fun hd => ?_, fun e => ?_, by omega⟩
      · have := h.wal.disk.lt k hd; omega
      · subst e
        have := (Array.getElem?_eq_some_iff.1 h.wal.row).1
        omega
  · have hr := txr_set (w := w1) ht1.row 1 (.pointer (some ⟨bb, 0, none⟩)) (.pointer (some ⟨bb, 0, none⟩)) T.root ro rfl
    rw [hW2] at hr
    exact (txr_cells hr).1
  · have hr := txr_set (w := w1) ht1.row 1 (.pointer (some ⟨bb, 0, none⟩)) (.pointer (some ⟨bb, 0, none⟩)) T.root ro rfl
    rw [hW2] at hr
    exact ⟨_, hr⟩
  · have hr := txr_set (w := w1) ht1.row 1 (.pointer (some ⟨bb, 0, none⟩)) (.pointer (some ⟨bb, 0, none⟩)) T.root ro rfl
    rw [hW2] at hr
    have hbk : ∀ k, (w.heap.size ≤ k ∧ k < w1.heap.size) → W2.heap[k]? = w1.heap[k]? := fun k hk => hoth k (by omega)
    have hb2 := hb.keep (K' := fun k => K k ∨ (w.heap.size ≤ k ∧ k < w1.heap.size)) hbk (fun _ x => .inr x)
    refine ⟨hr, ht1.map.keep (hoth mb ht.mt.1), .inl ht.mK, fun k hk => .inl (ht.kv k hk), ht.kvn, ht.mt, .inr ⟨bb, wb, wcap, nb, ncap, rfl, ?_, fun hk => ?_, fun k hk => ?_⟩, fun k v hv => ?_, ht.keys, ht.same, ht.ro1, ht.root⟩
    · rw [hcat]
      exact ⟨hb2.row, own_zero hb2.wasR, own_zero hb2.nowR, hb2.ne, hb2.len, hb2.n0, hb2.inK⟩
    · have := (h.KD nb (ht.kv nb hk)).2.2; omega
    · rcases hk with rfl | rfl | rfl <;> exact ⟨by omega, by omega, by omega⟩
    · obtain ⟨A, c, e, hr, hA⟩ := ht1.vals k v hv
      exact ⟨A, c, e, Rd.keepB hr (by omega) (fun a ha => by injection ha with ha; subst ha; exact hoth A (ht.kvn A hA).1), hA⟩
  · rcases hk with hk | hk
    · exact .inl hk
    · exact .inr hk.1
  · rw [← hW2]
    exact (hf.mono fun _ x => .inr x).setCell (.inl (.inl h.inK.2)) _
set_option maxHeartbeats 2000000 in
theorem load_any (w : World) (pp t q g : Nat) (s : S) (log N Bz M : Nat) (L : Nat → List UInt8) (T : TX) (Dw K : Nat → Prop) (ld : Bool) (h : Pg w pp t q g s log N Bz M L T Dw K ld) (hd : T.done = false) :
    Calls Tryz.prog 60 #[.pointer (some ⟨t, 0, none⟩)] w fun e w' => e = .returned (.int .i64 0) ∧ PgD pp t q g s log N Bz M L T Dw K true w w' := by
  obtain ⟨KV, bv, mb, ro, F, ht⟩ := h.tx hd
  obtain ⟨c0, c1, _, _, _, hfz⟩ := txr_cells ht.row
  have hfz1 := hfz 1
  rcases ht.bits with ⟨rfl, rfl, hTL⟩ | ⟨bb, wb, wcap, nb, ncap, rfl, hba, hkv, hne⟩
  · have hsz := h.sizes
    have HR := Lib.hid (readBits_any w pp q g _ s log Dw h.rowP h.wal h.up (by rw [h.hN]; omega) M (by rw [h.hN, h.hB]; exact h.hM))
    rw [h.hB, h.catL] at HR
    have HP := Lib.hid (fun w1 bb hn hw hf => h.loaded (w1 := w1) (bb := bb) hd ht hn hw hf hTL)
    have HT := Lib.hid ht
    have HPg := Lib.hid h
    clear h ht hTL hfz
    go_enter Tryz.func60, Tryz.ntmps60
    go_wp2_with fail
    refine HR.out.mono ?_
    rintro e w1 ⟨bb, rfl, hn, hw, hf⟩
    have hrow : w1.heap[t]? = some (.cells (txr pp (.pointer none) mb T.root ro) 104 (0, 0)) := fr_row hf HT.out.row (HPg.out.KD t HPg.out.inK.2).2.1
    obtain ⟨_, d1, _, _, _, dfz⟩ := txr_cells hrow
    have dfz1 := dfz 1
    have HN := Lib.hid hn
    have HW := Lib.hid hw
    have HF := Lib.hid hf
    clear hn hw hf hrow dfz
    go_wp2
    go_ret
    exact ⟨rfl, HP.out _ _ HN.out HW.out HF.out⟩
  · have HP := Lib.hid h
    have HT := Lib.hid (show TxD w pp t N Bz M L T K KV true (.pointer (some ⟨bb, 0, none⟩)) mb ro F from ⟨ht.row, ht.map, ht.mK, ht.kv, ht.kvn, ht.mt, .inr ⟨bb, wb, wcap, nb, ncap, rfl, hba, hkv, hne⟩, ht.vals, ht.keys, ht.same, ht.ro1, ht.root⟩)
    clear h ht hba hkv hne hfz
    go_enter Tryz.func60, Tryz.ntmps60
    go_wp2
    go_ret
    refine ⟨rfl, PgD.refl ?_⟩
    have h := HP.out
    exact ⟨h.wal, h.up, h.cc, h.un, h.hN, h.hB, h.hM, h.hL, h.rowP, h.KD, h.inK, h.dL, h.dT, h.rootL, h.own, h.rowT, fun _ => ⟨KV, _, mb, ro, F, HT.out⟩⟩
/-- a transaction whose bits are there. -/
theorem Pg.bits {w : World} {pp t q g : Nat} {s : S} {log N Bz M : Nat} {L : Nat → List UInt8} {T : TX} {Dw K : Nat → Prop} (h : Pg w pp t q g s log N Bz M L T Dw K true) (hd : T.done = false) :
    ∃ KV mb ro F bb wb wcap nb ncap, TxD w pp t N Bz M L T K KV true (.pointer (some ⟨bb, 0, none⟩)) mb ro F ∧ BitsAt w bb (M * Bz) (cat M L) (cat M T.L) K wb wcap nb ncap 0 ∧ ¬ KV nb ∧ (∀ k, (k = bb ∨ k = wb ∨ k = nb) → k ≠ t ∧ k ≠ pp ∧ k ≠ mb) := by
  obtain ⟨KV, bv, mb, ro, F, ht⟩ := h.tx hd
  rcases ht.bits with ⟨h0, _⟩ | ⟨bb, wb, wcap, nb, ncap, rfl, hba, hkv, hne⟩
  · cases h0
  · exact ⟨KV, mb, ro, F, bb, wb, wcap, nb, ncap, ht, hba, hkv, hne⟩
theorem BitsAt.rd {w : World} {bb n : Nat} {was now : List UInt8} {K : Nat → Prop} {wb wcap nb ncap base : Nat} (h : BitsAt w bb n was now K wb wcap nb ncap base) : Rd w (some ⟨nb, 0, none⟩) n ncap now := by
  obtain ⟨A, c, e, hr⟩ := h.nowR.slice n h.len.2
  cases e
  exact hr
theorem BitsAt.rdw {w : World} {bb n : Nat} {was now : List UInt8} {K : Nat → Prop} {wb wcap nb ncap base : Nat} (h : BitsAt w bb n was now K wb wcap nb ncap base) : Rd w (some ⟨wb, 0, none⟩) n wcap was := by
  obtain ⟨A, c, e, hr⟩ := h.wasR.slice n h.len.1
  cases e
  exact hr
set_option maxHeartbeats 4000000 in
theorem find_any (w : World) (pp t q g : Nat) (s : S) (log N Bz M : Nat) (L : Nat → List UInt8) (T : TX) (Dw K : Nat → Prop) (ld : Bool) (h : Pg w pp t q g s log N Bz M L T Dw K ld) (hd : T.done = false) (p : Int) :
    Calls Tryz.prog 68 #[.pointer (some ⟨t, 0, none⟩), .int .i64 p] w fun e w' => e = .returned (.int .i64 (if usedP N Bz M T.L p then 0 else 1)) ∧ PgD pp t q g s log N Bz M L T Dw K (usedP N Bz M T.L p) w w' := by
  have hsz := h.sizes
  have h0 := h.own
  have HH := Lib.hid (phas_any w pp q g _ s log false Dw h.rowP h.wal p)
  rw [h.hN, h.hB, h.hM] at HH
  have HLD := Lib.hid (fun k => load_any (w.drewN k) pp t q g s log N Bz M L T Dw K ld (h.below (below_drewN (Below.refl _ _) k)) hd)
  have HP := Lib.hid h
  by_cases hin : (M : Int) < p ∧ p < (N : Int)
  · have hib : (decide ((M : Int) < p) && decide (p < (N : Int))) = true := by simp; exact hin
    rw [hib] at HH
    obtain ⟨n, rfl⟩ : ∃ n : Nat, p = n := ⟨p.toNat, by omega⟩
    have HB := Lib.hid (fun (w2 : World) (K2 : Nat → Prop) (h2 : Pg w2 pp t q g s log N Bz M L T Dw K2 true) => h2.bits hd)
    have HU := Lib.hid (bit_used h.dT n (by omega) (by omega))
    have HPL := Lib.hid (page_lt h.dT n (by omega))
    have HIN : Hid ((M : Int) < (n : Int) ∧ (n : Int) < (N : Int)) := Lib.hid hin
    obtain ⟨u, hu⟩ : ∃ u, usedP N Bz M T.L (n : Int) = u := ⟨_, rfl⟩
    rw [hu] at HU ⊢
    clear h hib hin hu
    cases u
    all_goals
      go_enter Tryz.func68, Tryz.ntmps68
      go_wp2_with fail
      refine HH.out.mono ?_
      rintro e w1 ⟨rfl, k1, rfl⟩
      go_wp2_with fail
      refine (HLD.out k1).mono ?_
      rintro e w2 ⟨rfl, K2, hp2, hk2, hf2⟩
      obtain ⟨KV, mb, ro, F, bb, wb, wcap, nb, ncap, ht, hba, hkv, hne⟩ := HB.out w2 K2 hp2
      have HUS := Lib.hid (used_any w2 bb nb (M * Bz) ncap _ _ hba.row hba.rd n HPL.out (by have := HIN.out; omega))
      rw [← HU.out] at HUS
      obtain ⟨_, c1, _⟩ := txr_cells ht.row
      have HP2 := Lib.hid hp2
      have HK2 := Lib.hid hk2
      have HF2 := Lib.hid hf2
      clear hp2 hk2 hf2 ht hba hkv hne HU
      go_wp2_with fail
      refine HUS.out.mono ?_
      rintro e w3 ⟨rfl, k3, rfl⟩
      go_wp2
      go_ret
      exact ⟨rfl, K2, (by first | exact HP2.out.below (below_drewN (Below.refl _ _) k3) | exact HP2.out.weak.below (below_drewN (Below.refl _ _) k3)), HK2.out, Fr.trans (Fr.of (below_drewN (Below.refl _ _) k1)) (Fr.trans HF2.out (Fr.of (below_drewN (Below.refl _ _) k3)))⟩
  · have hib : (decide ((M : Int) < p) && decide (p < (N : Int))) = false := by simp; omega
    rw [hib] at HH
    have hu : usedP N Bz M T.L p = false := by unfold usedP; rw [hib]; rfl
    rw [hu]
    clear h hib hu hin
    go_enter Tryz.func68, Tryz.ntmps68
    go_wp2_with fail
    refine HH.out.mono ?_
    rintro e w1 ⟨rfl, k1, rfl⟩
    go_wp2
    go_ret
    exact ⟨rfl, PgD.still HP.out.weak (below_drewN (Below.refl _ _) k1)⟩
end Go.Proofs.YtephmcbofcfpmaaGreat

