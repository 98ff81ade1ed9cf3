/- A transaction is begun; pages are opened; the root. Conditions: none. The root's page is told, is set. Conditions: none. -/
import Derived.Test.YtephmcbofcfpmaaGreatJ22
import Derived.Test.YtephmcbofcfpmaaGreatJ19
set_option maxRecDepth 8000
set_option linter.unusedSimpArgs false
set_option linter.unusedVariables false
namespace Go.Proofs.YtephmcbofcfpmaaGreat
open Go.RowKit Go.Bs Go.Dk Rp

/-- the pages by themselves. -/
structure Pp (w : World) (pp q g : Nat) (s : S) (log N Bz M : Nat) (L : Nat → List UInt8) (Dw : Nat → Prop) : Prop where
  wal : WalAt w q g s log false Dw
  up : s.up = true
  cc : s.c = []
  un : unset s.L
  hN : nbl s log = N
  hB : s.bytes = Bz
  hM : mapN N Bz = M
  hL : ∀ k, k < N → L k = wl s log k
  rowP : ∃ now, w.heap[pp]? = some (.cells (pgr q now) 106 (0, 0))
  pD : ¬ Dw pp ∧ pp ≠ q
  dL : Dm N Bz M L
  rootL : ∃ r, r ≤ 100000 ∧ L M = encR Bz r
theorem Pg.pp {w : World} {pp t q g : Nat} {s : S} {log N Bz M : Nat} {L : Nat → List UInt8} {T : TX} {Dw K : Nat → Prop} {ld : Bool} (h : Pg w pp t q g s log N Bz M L T Dw K ld) : Pp w pp q g s log N Bz M L Dw :=
  ⟨h.wal, h.up, h.cc, h.un, h.hN, h.hB, h.hM, h.hL, ⟨_, h.rowP⟩, ⟨(h.KD pp h.inK.1).1, (h.KD pp h.inK.1).2.1⟩, h.dL, h.rootL⟩
theorem Pp.below {w w' : World} {pp q g : Nat} {s : S} {log N Bz M : Nat} {L : Nat → List UInt8} {Dw : Nat → Prop} (h : Pp w pp q g s log N Bz M L Dw) (hb : Below w.heap.size w w') : Pp w' pp q g s log N Bz M L Dw := by
  obtain ⟨now, hp⟩ := h.rowP
  exact ⟨h.wal.below hb, h.up, h.cc, h.un, h.hN, h.hB, h.hM, h.hL, ⟨now, (hb.block pp (Array.getElem?_eq_some_iff.1 hp).1).trans hp⟩, h.pD, h.dL, h.rootL⟩
theorem Pp.lt {w : World} {pp q g : Nat} {s : S} {log N Bz M : Nat} {L : Nat → List UInt8} {Dw : Nat → Prop} (h : Pp w pp q g s log N Bz M L Dw) : pp < w.heap.size ∧ q < w.heap.size ∧ ∀ k, Dw k → k < w.heap.size := by
  obtain ⟨now, hp⟩ := h.rowP
  exact ⟨(Array.getElem?_eq_some_iff.1 hp).1, (Array.getElem?_eq_some_iff.1 h.wal.row).1, h.wal.disk.lt⟩
theorem zero64 (w : World) : (zeroValue 104).run Tryz.prog w = .ok (.agg #[.pointer none, .pointer none, .map none, .bool false, .int .i64 0]) w := by kernel_rfl
theorem Begin_nil (w : World) : Calls Tryz.prog 16 #[.pointer none] w fun e w' => e = .returned (.pointer none) ∧ w = w' := by
  go_enter Tryz.func16, Tryz.ntmps16
  go_wp2
  go_ret
  exact ⟨rfl, rfl⟩
set_option maxHeartbeats 2000000 in
theorem Begin_any (w : World) (pp q g : Nat) (s : S) (log N Bz M : Nat) (L : Nat → List UInt8) (Dw : Nat → Prop) (h : Pp w pp q g s log N Bz M L Dw) :
    Calls Tryz.prog 16 #[.pointer (some ⟨pp, 0, none⟩)] w fun e w' => ∃ t K', e = .returned (.pointer (some ⟨t, 0, none⟩)) ∧ Pg w' pp t q g s log N Bz M L (TX.new L) Dw K' false ∧ w.heap.size ≤ t ∧ (∀ k, K' k → k = pp ∨ w.heap.size ≤ k) ∧ Fr (fun k => k = pp) w w' := by
  obtain ⟨now, hp⟩ := h.rowP
  obtain ⟨c0, c1, hfz⟩ := pgr_cells hp
  obtain ⟨hlp, hlq, hlD⟩ := h.lt
  obtain ⟨z, hz⟩ : ∃ z, w.heap.size = z := ⟨_, rfl⟩
  obtain ⟨W1, hW1⟩ : ∃ W1, w.alloc (.map #[] 0) = W1 := ⟨_, rfl⟩
  have hs1 : W1.heap.size = z + 1 := by rw [← hW1, ← hz]; simp
  have hb1 : Below z w W1 := by rw [← hW1, ← hz]; exact (Below.refl _ _).alloc (Nat.le_refl _) _
  have hm1 : PMap W1 z N (fun _ => none) := by rw [← hW1, ← hz]; exact PMap.made w N
  obtain ⟨W2, hW2⟩ : ∃ W2, W1.alloc (.cells #[.pointer (some ⟨pp, 0, none⟩), .pointer none, .map (some z), .bool false, .int .i64 0] 104) = W2 := ⟨_, rfl⟩
  have hb2 : Below W1.heap.size W1 W2 := by rw [← hW2]; exact (Below.refl _ _).alloc (Nat.le_refl _) _
  have hs2 : W2.heap.size = z + 2 := by rw [← hW2]; simp [hs1]
  have hrow2 : W2.heap[z + 1]? = some (.cells (txr pp (.pointer none) z false 0) 104 (0, 0)) := by rw [← hW2, ← hs1]; exact heap_alloc_new W1 _
  have hB : Below w.heap.size w W2 := by rw [hz]; exact hb1.trans (hb2.mono (by omega))
  have hp2 : W2.heap[pp]? = some (.cells (pgr q now) 106 (0, 0)) := (hB.block pp hlp).trans hp
  obtain ⟨d0, d1, dfz⟩ := pgr_cells hp2
  have dfz1 := dfz 1
  have HZ := Lib.hid hz
  have HS1 := Lib.hid hs1
  have hset := pgr_set hp2 (.pointer (some ⟨z + 1, 0, none⟩))
  obtain ⟨W3, hW3⟩ : ∃ W3, W2.setCell ⟨pp, 1, none⟩ (.pointer (some ⟨z + 1, 0, none⟩)) = W3 := ⟨_, rfl⟩
  rw [hW3] at hset
  have hoth : ∀ k, k ≠ pp → W3.heap[k]? = W2.heap[k]? := fun k hk => by rw [← hW3]; exact sc_other _ _ _ _ _ hk
  have hs3 : W3.heap.size = z + 2 := by rw [← hW3, sc_size]; exact hs2
  have e1 : (pgr_cells hset).2.1 = (pgr_cells hset).2.1 := rfl
  have f1 := (pgr_cells hset).2.1
  have HPG : Hid (Pg W3 pp (z + 1) q g s log N Bz M L (TX.new L) Dw (fun k => k = pp ∨ k = z ∨ k = z + 1) false) := by
    show Pg W3 pp (z + 1) q g s log N Bz M L (TX.new L) Dw (fun k => k = pp ∨ k = z ∨ k = z + 1) false
    have hrow3 : W3.heap[z + 1]? = some (.cells (txr pp (.pointer none) z false 0) 104 (0, 0)) := (hoth (z + 1) (by omega)).trans hrow2
    refine ⟨(h.wal.below hB).keepF (by omega) (fun k hk => hoth k fun e => ?_), h.up, h.cc, h.un, h.hN, h.hB, h.hM, h.hL, hset, fun k hk => ?_, ⟨.inl rfl, .inr (.inr rfl)⟩, h.dL, h.dL, h.rootL, (txr_cells hrow3).1, ⟨_, hrow3⟩, fun _ => ⟨fun _ => False, .pointer none, z, 0, fun _ => none, hrow3, ?_, .inr (.inl rfl), fun _ x => x.elim, fun _ x => x.elim, ⟨by omega, by omega, by omega⟩, .inl ⟨rfl, rfl, fun _ _ => rfl⟩, (fun k v hv => nomatch hv), fun k _ => (Bool.and_false _).symm, (fun k _ _ _ => rfl), Nat.zero_le _, Or.inr ⟨rfl, rfl⟩⟩⟩
    · subst e
      rcases hk with hk | hk
      · exact h.pD.1 hk
      · exact h.pD.2 hk
    · rcases hk with rfl | rfl | rfl
      · exact ⟨h.pD.1, h.pD.2, by omega⟩
      · exact ⟨fun hd => by have := hlD k hd; omega, by omega, by omega⟩
      · exact ⟨fun hd => by have := hlD _ hd; omega, by omega, by omega⟩
    · refine (hm1.keep ?_ : PMap W3 z N _)
      rw [hoth z (by omega)]
      exact hb2.block z (by omega)
  have HFR : Hid (Fr (fun k => k = pp) w W3) := by
    show Fr (fun k => k = pp) w W3
    rw [← hW3]
    exact Fr.setCell (D := fun k => k = pp) (Fr.of hB) (.inl rfl) _
  have hmk : (Instr.makeMap 97 none).run Tryz.prog w = .ok (.map (some z)) W1 := by rw [← hW1, ← hz]; rfl
  clear h hp hfz hlp hlq hlD hb1 hm1 hb2 hs2 hrow2 hB hp2 dfz hset hoth hs3 e1
  go_enter Tryz.func16, Tryz.ntmps16
  go_wp2
  go_ret
  exact ⟨z + 1, _, rfl, HPG.out, by rw [HZ.out]; omega, fun k hk => by rw [HZ.out]; omega, HFR.out⟩
end Go.Proofs.YtephmcbofcfpmaaGreat

set_option maxRecDepth 8000
set_option linter.unusedSimpArgs false
set_option linter.unusedVariables false
namespace Go.Proofs.YtephmcbofcfpmaaGreat
open Go.RowKit Go.Bs Go.Dk Rp

theorem putK_get (b : List UInt8) (p k : Nat) (hk : k ≤ b.length) : ∀ j, j < k → (putK b p k).getD j 0 = byteAt p j := by
  induction k with
  | zero => intro j hj; omega
  | succ k ih =>
    intro j hj
    show ((putK b p k).set k (byteAt p k)).getD j 0 = _
    have hl := putK_len b p k
    by_cases e : j = k
    · subst e
      rw [getD_get _ _ (by rw [List.length_set, hl]; omega), List.getElem_set_self]
    · have := ih (by omega) j (by omega)
      rw [getD_get _ _ (by rw [hl]; omega)] at this
      rw [getD_get _ _ (by rw [List.length_set, hl]; omega), List.getElem_set_ne (Ne.symm e)]
      exact this
theorem le32_enc (Bz r : Nat) (hB : 4 ≤ Bz) (hr : r ≤ 100000) : le32 (encR Bz r) = r := by
  have h := putK_get (zeros Bz) r 4 (by rw [zeros_length]; exact hB)
  unfold le32 encR
  rw [h 0 (by omega), h 1 (by omega), h 2 (by omega), h 3 (by omega)]
  simp only [byteAt_toNat]
  simp
  omega
theorem or_lo (i a b : Nat) (hb : b < 2 ^ i) (hb' : b < 9223372036854775808) (ha : 2 ^ i * a < 9223372036854775808) : bits .or .i64 (b : Int) ((2 ^ i * a : Nat) : Int) = ((2 ^ i * a + b : Nat) : Int) := by
  rw [i64_or_nat _ _ hb' ha, Nat.or_comm, ← Nat.two_pow_add_eq_or_of_lt hb]
theorem w64 (n : Int) (h : -9223372036854775808 ≤ n ∧ n ≤ 9223372036854775807) : wrap64 n = n := by unfold wrap64; omega
theorem or_four (x0 x1 x2 x3 : Nat) (h0 : x0 < 256) (h1 : x1 < 256) (h2 : x2 < 256) (h3 : x3 < 256) : bits .or .i64 (bits .or .i64 (bits .or .i64 (wrap64 (x0 : Int)) (wrap64 (wrap64 (x1 : Int) * 256))) (wrap64 (wrap64 (x2 : Int) * 65536))) (wrap64 (wrap64 (x3 : Int) * 16777216)) = ((x0 + 256 * x1 + 65536 * x2 + 16777216 * x3 : Nat) : Int) := by
  rw [w64 (x0 : Int) (by omega), w64 (x1 : Int) (by omega), w64 (x2 : Int) (by omega), w64 (x3 : Int) (by omega), w64 ((x1 : Int) * 256) (by omega), w64 ((x2 : Int) * 65536) (by omega), w64 ((x3 : Int) * 16777216) (by omega)]
  rw [show (x1 : Int) * 256 = ((2 ^ 8 * x1 : Nat) : Int) by omega, show (x2 : Int) * 65536 = ((2 ^ 16 * x2 : Nat) : Int) by omega, show (x3 : Int) * 16777216 = ((2 ^ 24 * x3 : Nat) : Int) by omega]
  rw [or_lo 8 x1 x0 (by omega) (by omega) (by omega), or_lo 16 x2 _ (by omega) (by omega) (by omega), or_lo 24 x3 _ (by omega) (by omega) (by omega)]
  congr 1
  omega
theorem root_or (r : Nat) (hr : r ≤ 100000) : bits .or .i64 (bits .or .i64 (bits .or .i64 (wrap64 ((byteAt r 0).toNat : Int)) (wrap64 (wrap64 ((byteAt r 1).toNat : Int) * 256))) (wrap64 (wrap64 ((byteAt r 2).toNat : Int) * 65536))) (wrap64 (wrap64 ((byteAt r 3).toNat : Int) * 16777216)) = (r : Int) := by
  rw [or_four _ _ _ _ (byteAt r 0).toNat_lt (byteAt r 1).toNat_lt (byteAt r 2).toNat_lt (byteAt r 3).toNat_lt]
  simp only [byteAt_toNat]
  congr 1
  simp
  omega
theorem encR_len (Bz r : Nat) : (encR Bz r).length = Bz := by unfold encR; rw [putK_len, zeros_length]
theorem enc_again (Bz r p : Nat) (hB : 4 ≤ Bz) : putK (encR Bz r) p 4 = encR Bz p := by
  obtain ⟨n, rfl⟩ : ∃ n, Bz = n + 4 := ⟨Bz - 4, by omega⟩
  unfold encR
  simp [putK, zeros, List.replicate_succ]
theorem Pg.le32 {w : World} {pp t q g : Nat} {s : S} {log N Bz M : Nat} {L : Nat → List UInt8} {T : TX} {Dw K KV : Nat → Prop} {ld ld' : Bool} {bv : Value} {mb ro : Nat} {F : Nat → Option Value} (h : Pg w pp t q g s log N Bz M L T Dw K ld) (ht : TxD w pp t N Bz M L T K KV ld' bv mb ro F) : ∃ r, r ≤ 100000 ∧ T.L M = encR Bz r ∧ le32 (T.L M) = r ∧ (T.root = true → r = ro) := by
  have hs := h.sizes
  rcases ht.root with ⟨e1, e2⟩ | ⟨e1, e2⟩
  · exact ⟨ro, ht.ro1, e2, by rw [e2]; exact le32_enc Bz ro (by omega) ht.ro1, fun _ => rfl⟩
  · obtain ⟨r, hr, e⟩ := h.rootL
    exact ⟨r, hr, e2.trans e, by rw [e2, e]; exact le32_enc Bz r (by omega) hr, fun h => by rw [e1] at h; cases h⟩
theorem frcell {w w' : World} {D : Nat → Prop} {b i : Nat} {v : Value} (hd : b < w.heap.size ∧ ¬ D b) (hf : Fr D w w') (h : w.cell? ⟨b, i, none⟩ = some v) : w'.cell? ⟨b, i, none⟩ = some v :=
  (World.cell?_of_block (a := ⟨b, i, none⟩) (hf.block b hd.1 hd.2)).trans h
def rootV (M : Nat) (T : TX) : Int × Int := if T.done then (0, 1) else ((Rp.le32 (T.L M) : Int), 0)
theorem Root_nil (w : World) : Calls Tryz.prog 18 #[.pointer none] w fun e w' => e = .returned (.tuple #[.int .i64 0, .int .i64 3]) ∧ w = w' := by
  have HR := Lib.hid (tready_nil w)
  go_enter Tryz.func18, Tryz.ntmps18
  go_wp2_with fail
  refine HR.out.mono ?_
  rintro e w1 ⟨rfl, rfl⟩
  go_wp2
  go_ret2
  exact ⟨rfl, rfl⟩
set_option maxHeartbeats 4000000 in
theorem Root_any (w : World) (pp t q g : Nat) (s : S) (log N Bz M : Nat) (L : Nat → List UInt8) (T : TX) (Dw K : Nat → Prop) (ld : Bool) (h : Pg w pp t q g s log N Bz M L T Dw K ld) :
    Calls Tryz.prog 18 #[.pointer (some ⟨t, 0, none⟩)] w fun e w' => e = .returned (.tuple #[.int .i64 (rootV M T).1, .int .i64 (rootV M T).2]) ∧ PgD pp t q g s log N Bz M L T Dw K ld w w' := by
  have HR := Lib.hid (tready_any w pp t q g s log N Bz M L T Dw K ld h)
  have HP := Lib.hid h
  unfold rootV
  cases hd : T.done
  · rw [hd] at HR
    obtain ⟨KV, bv, mb, ro, F, ht⟩ := h.tx hd
    obtain ⟨r, hr1, hr2, hr3, hr4⟩ := h.le32 ht
    obtain ⟨h0, _, _, c3, c4, _⟩ := txr_cells ht.row
    simp only [Bool.false_eq_true, if_false]
    rw [hr3]
    cases hro : T.root
    · have hsz := h.sizes
      rw [hro] at c3
      obtain ⟨c0, _, _⟩ := pgr_cells h.rowP
      have HRB := Lib.hid (rootBlock_any w.drew pp q g _ s log false Dw h.rowP (h.wal.drewN 1))
      rw [h.hN, h.hB, h.hM] at HRB
      have HRE := Lib.hid (fun k => wRead_ok (w.drewN k) q g s log Dw (h.wal.drewN k) h.up M (by rw [h.hN]; omega))
      rw [h.hB] at HRE
      have HKT := Lib.hid (show t < w.heap.size ∧ ¬ (fun k => k = q) t from ⟨(h.KD t h.inK.2).2.2, (h.KD t h.inK.2).2.1⟩)
      have HKP := Lib.hid (show pp < w.heap.size ∧ ¬ (fun k => k = q) pp from ⟨(h.KD pp h.inK.1).2.2, (h.KD pp h.inK.1).2.1⟩)
      have hwl : wl s log M = encR Bz r := by rw [← h.hL M (by omega), ← hr2]; rcases ht.root with ⟨e, _⟩ | ⟨_, e⟩; (rw [e] at hro; cases hro); exact e.symm
      have HWL := Lib.hid hwl
      clear ht hr2 hr3 hr4 h hwl
      go_enter Tryz.func18, Tryz.ntmps18
      go_wp2_with fail
      refine HR.out.mono ?_
      rintro e w1 ⟨rfl, rfl⟩
      go_wp2_with fail
      refine wp_region_held_drew (S := fun W => W.cell? ⟨t, 0, none⟩ = some (.pointer (some ⟨pp, 0, none⟩)) ∧ W.cell? ⟨pp, 0, none⟩ = some (.pointer (some ⟨q, 0, none⟩))) (by kernel_rfl) (⟨h0, c0⟩) (fun hHeld => ?_)
      refine wpAnyH_take (i := 0) (oi := { dst := some 21, op := Go.Op.move (Go.Operand.tmp 0), type := 35, pos := "pages.go:125", after := #[], guard := none }) (v := ?v0) rfl (by kernel_rfl) (by kernel_rfl) (by kernel_rfl) (fun _ _ _ h => h) (Or.inl ⟨by rfl, ?hy0⟩) hHeld ?_
      case hy0 => (intro w hSw; (try dsimp only at hSw); go_simp; first | done | with_reducible rfl)
      try simp only [Act.put, List.setIfInBounds_toArray, List.set_cons_zero, List.set_cons_succ]
      refine wpAnyH_take (i := 1) (oi := { dst := some 22, op := Go.Op.nilCheck (Go.Operand.tmp 21), type := 0, pos := "pages.go:125", after := #[{ on := 0, ground := Go.Ground.data }], guard := none }) (v := ?v1) rfl (by kernel_rfl) (by kernel_rfl) (by kernel_rfl) (fun _ _ _ h => h) (Or.inl ⟨by rfl, ?hy1⟩) hHeld ?_
      case hy1 => (intro w hSw; (try dsimp only at hSw); go_simp; first | done | with_reducible rfl)
      try simp only [Act.put, List.setIfInBounds_toArray, List.set_cons_zero, List.set_cons_succ]
      refine wpAnyH_take (i := 2) (oi := { dst := some 23, op := Go.Op.fieldAddr 104 (Go.Operand.tmp 22) 0, type := 0, pos := "pages.go:125", after := #[{ on := 1, ground := Go.Ground.data }], guard := none }) (v := ?v2) rfl (by kernel_rfl) (by kernel_rfl) (by kernel_rfl) (fun _ _ _ h => h) (Or.inl ⟨by rfl, ?hy2⟩) hHeld ?_
      case hy2 => (intro w hSw; (try dsimp only at hSw); go_simp; first | done | with_reducible rfl)
      try simp only [Act.put, List.setIfInBounds_toArray, List.set_cons_zero, List.set_cons_succ]
      refine wpAnyH_take (i := 3) (oi := { dst := some 24, op := Go.Op.load 29 (Go.Operand.tmp 23), type := 29, pos := "pages.go:125", after := #[{ on := 2, ground := Go.Ground.data }], guard := none }) (v := ?v3) rfl (by kernel_rfl) (by kernel_rfl) (by kernel_rfl) (fun _ _ _ h => h) (Or.inl ⟨by rfl, ?hy3⟩) hHeld ?_
      case hy3 => (intro w hSw; (try dsimp only at hSw); go_simp; first | done | with_reducible rfl)
      try simp only [Act.put, List.setIfInBounds_toArray, List.set_cons_zero, List.set_cons_succ]
      refine wpAnyH_take (i := 4) (oi := { dst := some 25, op := Go.Op.nilCheck (Go.Operand.tmp 24), type := 0, pos := "pages.go:125", after := #[{ on := 3, ground := Go.Ground.data }], guard := none }) (v := ?v4) rfl (by kernel_rfl) (by kernel_rfl) (by kernel_rfl) (fun _ _ _ h => h) (Or.inl ⟨by rfl, ?hy4⟩) hHeld ?_
      case hy4 => (intro w hSw; (try dsimp only at hSw); go_simp; first | done | with_reducible rfl)
      try simp only [Act.put, List.setIfInBounds_toArray, List.set_cons_zero, List.set_cons_succ]
      refine wpAnyH_take (i := 5) (oi := { dst := some 26, op := Go.Op.fieldAddr 106 (Go.Operand.tmp 25) 0, type := 0, pos := "pages.go:125", after := #[{ on := 4, ground := Go.Ground.data }], guard := none }) (v := ?v5) rfl (by kernel_rfl) (by kernel_rfl) (by kernel_rfl) (fun _ _ _ h => h) (Or.inl ⟨by rfl, ?hy5⟩) hHeld ?_
      case hy5 => (intro w hSw; (try dsimp only at hSw); go_simp; first | done | with_reducible rfl)
      try simp only [Act.put, List.setIfInBounds_toArray, List.set_cons_zero, List.set_cons_succ]
      refine wpAnyH_take (i := 6) (oi := { dst := some 27, op := Go.Op.load 90 (Go.Operand.tmp 26), type := 90, pos := "pages.go:125", after := #[{ on := 5, ground := Go.Ground.data }], guard := none }) (v := ?v6) rfl (by kernel_rfl) (by kernel_rfl) (by kernel_rfl) (fun _ _ _ h => h) (Or.inl ⟨by rfl, ?hy6⟩) hHeld ?_
      case hy6 => (intro w hSw; (try dsimp only at hSw); go_simp; first | done | with_reducible rfl)
      try simp only [Act.put, List.setIfInBounds_toArray, List.set_cons_zero, List.set_cons_succ]
      refine wpAnyH_take (i := 7) (oi := { dst := some 28, op := Go.Op.move (Go.Operand.tmp 0), type := 35, pos := "pages.go:125", after := #[], guard := none }) (v := ?v7) rfl (by kernel_rfl) (by kernel_rfl) (by kernel_rfl) (fun _ _ _ h => h) (Or.inl ⟨by rfl, ?hy7⟩) hHeld ?_
      case hy7 => (intro w hSw; (try dsimp only at hSw); go_simp; first | done | with_reducible rfl)
      try simp only [Act.put, List.setIfInBounds_toArray, List.set_cons_zero, List.set_cons_succ]
      refine wpAnyH_take (i := 8) (oi := { dst := some 29, op := Go.Op.nilCheck (Go.Operand.tmp 28), type := 0, pos := "pages.go:125", after := #[{ on := 7, ground := Go.Ground.data }], guard := none }) (v := ?v8) rfl (by kernel_rfl) (by kernel_rfl) (by kernel_rfl) (fun _ _ _ h => h) (Or.inl ⟨by rfl, ?hy8⟩) hHeld ?_
      case hy8 => (intro w hSw; (try dsimp only at hSw); go_simp; first | done | with_reducible rfl)
      try simp only [Act.put, List.setIfInBounds_toArray, List.set_cons_zero, List.set_cons_succ]
      refine wpAnyH_take (i := 9) (oi := { dst := some 30, op := Go.Op.fieldAddr 104 (Go.Operand.tmp 29) 0, type := 0, pos := "pages.go:125", after := #[{ on := 8, ground := Go.Ground.data }], guard := none }) (v := ?v9) rfl (by kernel_rfl) (by kernel_rfl) (by kernel_rfl) (fun _ _ _ h => h) (Or.inl ⟨by rfl, ?hy9⟩) hHeld ?_
      case hy9 => (intro w hSw; (try dsimp only at hSw); go_simp; first | done | with_reducible rfl)
      try simp only [Act.put, List.setIfInBounds_toArray, List.set_cons_zero, List.set_cons_succ]
      refine wpAnyH_take (i := 10) (oi := { dst := some 31, op := Go.Op.load 29 (Go.Operand.tmp 30), type := 29, pos := "pages.go:125", after := #[{ on := 9, ground := Go.Ground.data }], guard := none }) (v := ?v10) rfl (by kernel_rfl) (by kernel_rfl) (by kernel_rfl) (fun _ _ _ h => h) (Or.inl ⟨by rfl, ?hy10⟩) hHeld ?_
      case hy10 => (intro w hSw; (try dsimp only at hSw); go_simp; first | done | with_reducible rfl)
      try simp only [Act.put, List.setIfInBounds_toArray, List.set_cons_zero, List.set_cons_succ]
      refine wpAnyH_ready (rs := [11]) (by kernel_rfl) (by simp) ?_
      refine AllReadyH.cons (o := { dst := some 32, op := Go.Op.call { callee := Go.Callee.value (Go.Operand.func 58), args := #[Go.Operand.tmp 31], argTypes := #[29] }, type := 3, pos := "pages.go:125", after := #[{ on := 10, ground := Go.Ground.data }], guard := none }) rfl (fun K hK => ?_) AllReadyH.nil
      go_simp
      refine HRB.out.mono ?_
      rintro e w2 ⟨rfl, k2, rfl⟩
      go_wp2_with fail
      refine hK.out _ _ (⟨h0, c0⟩) (fun hHeld => ?_)
      clear hK K
      try simp only [Act.put, List.setIfInBounds_toArray, List.set_cons_zero, List.set_cons_succ]
      refine wpAnyH_ready (rs := [12]) (by kernel_rfl) (by simp) ?_
      refine AllReadyH.cons (o := { dst := some 33, op := Go.Op.call { callee := Go.Callee.value (Go.Operand.func 57), args := #[Go.Operand.tmp 27, Go.Operand.tmp 32], argTypes := #[90, 3] }, type := 46, pos := "pages.go:125", after := #[{ on := 6, ground := Go.Ground.data }, { on := 11, ground := Go.Ground.data }, { on := 11, ground := Go.Ground.chain }], guard := none }) rfl (fun K hK => ?_) AllReadyH.nil
      go_simp
      refine (HRE.out _).mono ?_
      rintro e w3 ⟨rb, rfl, hblk, hrb, hw3, hf3⟩
      have x3 := frcell HKT.out hf3 h0
      have x4 := frcell HKP.out hf3 c0
      have HB3 := Lib.hid hblk
      have HW3 := Lib.hid hw3
      have HF3 := Lib.hid hf3
      clear hblk hw3 hf3
      go_wp2_with fail
      refine hK.out _ _ (⟨x3, x4⟩) (fun hHeld => ?_)
      clear hK K
      try simp only [Act.put, List.setIfInBounds_toArray, List.set_cons_zero, List.set_cons_succ]
      refine wpAnyH_take (i := 13) (oi := { dst := some 20, op := Go.Op.move (Go.Operand.tmp 33), type := 46, pos := "pages.go:125", after := #[{ on := 12, ground := Go.Ground.data }], guard := none }) (v := ?v13) rfl (by kernel_rfl) (by kernel_rfl) (by kernel_rfl) (fun _ _ _ h => h) (Or.inl ⟨by rfl, ?hy13⟩) hHeld ?_
      case hy13 => (intro w hSw; (try dsimp only at hSw); go_simp; first | done | with_reducible rfl)
      try simp only [Act.put, List.setIfInBounds_toArray, List.set_cons_zero, List.set_cons_succ]
      refine wpAnyH_take (i := 14) (oi := { dst := some 34, op := Go.Op.extract (Go.Operand.tmp 20) 0, type := 39, pos := "pages.go:125", after := #[{ on := 13, ground := Go.Ground.data }], guard := none }) (v := ?v14) rfl (by kernel_rfl) (by kernel_rfl) (by kernel_rfl) (fun _ _ _ h => h) (Or.inl ⟨by rfl, ?hy14⟩) hHeld ?_
      case hy14 => (intro w hSw; (try dsimp only at hSw); go_simp; first | done | with_reducible rfl)
      try simp only [Act.put, List.setIfInBounds_toArray, List.set_cons_zero, List.set_cons_succ]
      refine wpAnyH_take (i := 15) (oi := { dst := some 35, op := Go.Op.extract (Go.Operand.tmp 20) 1, type := 26, pos := "pages.go:125", after := #[{ on := 13, ground := Go.Ground.data }, { on := 16, ground := Go.Ground.gcOnly Go.Departure.lateStores }], guard := none }) (v := ?v15) rfl (by kernel_rfl) (by kernel_rfl) (by kernel_rfl) (fun _ _ _ h => h) (Or.inl ⟨by rfl, ?hy15⟩) hHeld ?_
      case hy15 => (intro w hSw; (try dsimp only at hSw); go_simp; first | done | with_reducible rfl)
      try simp only [Act.put, List.setIfInBounds_toArray, List.set_cons_zero, List.set_cons_succ]
      refine wpAnyH_take (i := 16) (oi := { dst := some 5, op := Go.Op.assign (Go.Operand.tmp 34), type := 39, pos := "pages.go:125", after := #[{ on := 14, ground := Go.Ground.data }, { on := 12, ground := Go.Ground.chain }, { on := 0, ground := Go.Ground.phase }, { on := 1, ground := Go.Ground.phase }, { on := 2, ground := Go.Ground.phase }, { on := 3, ground := Go.Ground.phase }, { on := 4, ground := Go.Ground.phase }, { on := 5, ground := Go.Ground.phase }, { on := 6, ground := Go.Ground.phase }, { on := 7, ground := Go.Ground.phase }, { on := 8, ground := Go.Ground.phase }, { on := 9, ground := Go.Ground.phase }, { on := 10, ground := Go.Ground.phase }, { on := 11, ground := Go.Ground.phase }, { on := 12, ground := Go.Ground.phase }, { on := 13, ground := Go.Ground.phase }, { on := 14, ground := Go.Ground.phase }, { on := 15, ground := Go.Ground.textOnly Go.Departure.lateStores }], guard := none }) (v := ?v16) rfl (by kernel_rfl) (by kernel_rfl) (by kernel_rfl) (fun _ _ _ h => h) (Or.inl ⟨by rfl, ?hy16⟩) hHeld ?_
      case hy16 => (intro w hSw; (try dsimp only at hSw); go_simp; first | done | with_reducible rfl)
      try simp only [Act.put, List.setIfInBounds_toArray, List.set_cons_zero, List.set_cons_succ]
      refine wpAnyH_take (i := 17) (oi := { dst := some 6, op := Go.Op.assign (Go.Operand.tmp 35), type := 26, pos := "pages.go:125", after := #[{ on := 15, ground := Go.Ground.data }, { on := 16, ground := Go.Ground.chain }, { on := 0, ground := Go.Ground.phase }, { on := 1, ground := Go.Ground.phase }, { on := 2, ground := Go.Ground.phase }, { on := 3, ground := Go.Ground.phase }, { on := 4, ground := Go.Ground.phase }, { on := 5, ground := Go.Ground.phase }, { on := 6, ground := Go.Ground.phase }, { on := 7, ground := Go.Ground.phase }, { on := 8, ground := Go.Ground.phase }, { on := 9, ground := Go.Ground.phase }, { on := 10, ground := Go.Ground.phase }, { on := 11, ground := Go.Ground.phase }, { on := 12, ground := Go.Ground.phase }, { on := 13, ground := Go.Ground.phase }, { on := 14, ground := Go.Ground.phase }, { on := 15, ground := Go.Ground.phase }, { on := 16, ground := Go.Ground.phase }], guard := none }) (v := ?v17) rfl (by kernel_rfl) (by kernel_rfl) (by kernel_rfl) (fun _ _ _ h => h) (Or.inl ⟨by rfl, ?hy17⟩) hHeld ?_
      case hy17 => (intro w hSw; (try dsimp only at hSw); go_simp; first | done | with_reducible rfl)
      try simp only [Act.put, List.setIfInBounds_toArray, List.set_cons_zero, List.set_cons_succ]
      refine wpAnyH_done (by kernel_rfl) ?_ _
      have hrd : Rd w3 (some ⟨rb, 0, none⟩) Bz Bz (encR Bz r) := by rw [← HWL.out]; exact HB3.out.all' Bz Bz (by rw [HWL.out]; exact encR_len Bz r) (Nat.le_refl _)
      have hcell : ∀ j, j < Bz → w3.cell? ⟨rb, j, none⟩ = some (B ((encR Bz r).getD j 0)) := fun j hj => by
        obtain ⟨g', o', e, _, hc⟩ := hrd.cells (by omega)
        cases e
        have := hc j hj
        rwa [Nat.zero_add] at this
      have hg := putK_get (zeros Bz) r 4 (by rw [zeros_length]; omega)
      have b0 := hcell 0 (by omega)
      have b1 := hcell 1 (by omega)
      have b2 := hcell 2 (by omega)
      have b3 := hcell 3 (by omega)
      rw [show (encR Bz r).getD 0 0 = byteAt r 0 from hg 0 (by omega)] at b0
      rw [show (encR Bz r).getD 1 0 = byteAt r 1 from hg 1 (by omega)] at b1
      rw [show (encR Bz r).getD 2 0 = byteAt r 2 from hg 2 (by omega)] at b2
      rw [show (encR Bz r).getD 3 0 = byteAt r 3 from hg 3 (by omega)] at b3
      clear hrd hcell hg
      go_wp2_with fail

      go_quiet (fail)
      go_wp2
      go_ret2
      have hRO := root_or r hr1
      refine ⟨?_, ?_⟩
      · exact congrArg (fun x => Ending.returned (.tuple #[.int .i64 x, .int .i64 0])) hRO
      · have hP3 := (HP.out.below (below_drewN (Below.refl _ _) (1 + k2))).frq HW3.out HF3.out
        exact ⟨K, hP3.below (below_drewN (Below.refl _ _) _), fun _ x => .inl x, (Fr.of (below_drewN (Below.refl _ _) (1 + k2))).trans ((HF3.out.mono fun _ x => .inr x).trans (Fr.of (below_drewN (Below.refl _ _) _)))⟩
    · rw [hro] at c3
      have hrr := hr4 hro
      subst hrr
      clear ht hr2 hr3 hr4 h
      go_enter Tryz.func18, Tryz.ntmps18
      go_wp2_with fail
      refine HR.out.mono ?_
      rintro e w1 ⟨rfl, rfl⟩
      go_wp2
      go_ret2
      exact ⟨rfl, PgD.refl HP.out⟩
  · rw [hd] at HR
    clear h
    go_enter Tryz.func18, Tryz.ntmps18
    go_wp2_with fail
    refine HR.out.mono ?_
    rintro e w1 ⟨rfl, rfl⟩
    go_wp2
    go_ret2
    exact ⟨rfl, PgD.refl HP.out⟩
end Go.Proofs.YtephmcbofcfpmaaGreat

