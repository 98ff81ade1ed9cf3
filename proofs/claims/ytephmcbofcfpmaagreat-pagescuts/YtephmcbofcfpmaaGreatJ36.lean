/- A transaction that is not the later one. Conditions: none. The document's pages: a bit is turned. Conditions: none. -/
import Derived.Test.YtephmcbofcfpmaaGreatJ30
import Derived.Test.YtephmcbofcfpmaaGreatJ32
set_option maxRecDepth 8000
set_option linter.unusedSimpArgs false
set_option linter.unusedVariables false
namespace Go.Proofs.YtephmcbofcfpmaaGreat
open Go.RowKit Go.Bs Go.Dk Rp

theorem Root_old (w : World) (pp t u q g : Nat) (s : S) (log N Bz M : Nat) (L : Nat → List UInt8) (T : TX) (D : Nat → Prop) (h : Sy w pp u q g s log N Bz M L T D) (hd : T.done = false) (h0 : w.cell? ⟨t, 0, none⟩ = some (.pointer (some ⟨pp, 0, none⟩))) (ca : Array Value) (ht : w.heap[t]? = some (.cells ca 104 (0, 0))) (hne : u ≠ t) :
    Calls Tryz.prog 18 #[.pointer (some ⟨t, 0, none⟩)] w fun e w' => e = .returned (.tuple #[.int .i64 0, .int .i64 1]) ∧ w = w' := by
  obtain ⟨Dw, K, h1, _, _⟩ := h
  obtain ⟨cb, hu⟩ := h1.rowT
  have hn := (pgr_cells h1.rowP).2.1
  unfold nowV at hn
  rw [hd] at hn
  have HR := Lib.hid (tready_old w t u pp ca cb h0 hn hne ht hu)
  clear h1 hn hu ht h0
  go_enter Tryz.func18, Tryz.ntmps18
  go_wp2_with fail
  refine HR.out.mono ?_
  rintro e w1 ⟨rfl, rfl⟩
  go_wp2
  go_ret2
  exact ⟨rfl, rfl⟩
/-- what a transaction's block keeps. -/
theorem Sy.old {w : World} {pp t q g : Nat} {s : S} {log N Bz M : Nat} {L : Nat → List UInt8} {T : TX} {D : Nat → Prop} (h : Sy w pp t q g s log N Bz M L T D) : t < w.heap.size ∧ t ≠ pp ∧ w.cell? ⟨t, 0, none⟩ = some (.pointer (some ⟨pp, 0, none⟩)) ∧ ∃ ca, w.heap[t]? = some (.cells ca 104 (0, 0)) := by
  obtain ⟨Dw, K, h1, _, _⟩ := h
  obtain ⟨ca, hc⟩ := h1.rowT
  refine ⟨(h1.KD t h1.inK.2).2.2, fun e => ?_, h1.own, ca, hc⟩
  subst e
  have := h1.rowP
  rw [hc] at this
  injection this with this
  injection this with _ this
  cases this
end Go.Proofs.YtephmcbofcfpmaaGreat

set_option maxRecDepth 8000
set_option linter.unusedSimpArgs false
set_option linter.unusedVariables false
namespace Go.Proofs.YtephmcbofcfpmaaGreat.Rp
open Go.RowKit Go.Bs Go.Dk

theorem str_bytes (w : World) (bs : List UInt8) (n : Nat) (hn : bs.length = n) :
    ∃ c w', (convert 9 39 (.string ⟨bs.toArray⟩)).run Tryz.prog w = .ok (.slice (some ⟨w.heap.size, 0, none⟩) n c) w' ∧ Below w.heap.size w w' ∧ w'.heap.size = w.heap.size + 1 ∧ n ≤ c ∧
      (∀ j, j < n → w'.cell? ⟨w.heap.size, j, none⟩ = some (B (bs.getD j 0))) ∧ (∀ j, j < n → w'.frozen? ⟨w.heap.size, j, none⟩ = false) ∧
      ∀ i x, i < n → Rd (w'.setCell ⟨w.heap.size, i, none⟩ (B x)) (some ⟨w.heap.size, 0, none⟩) n c (bs.set i x) := by
  have hsz : (⟨bs.toArray⟩ : ByteArray).size = n := by simp [ByteArray.size, hn]
  have hrun := Lib.run_convert_string_bytes (P := Tryz.prog) w 9 39 5 ⟨bs.toArray⟩ Tryz.underlying9 Tryz.underlying39 Tryz.underlying5
  rw [hsz] at hrun
  have hnew := Lib.bytesWorld_at_new w 5 ⟨bs.toArray⟩
  have hcell : ∀ j, j < n → (Lib.bytesWorld w 5 ⟨bs.toArray⟩).cell? ⟨w.heap.size, j, none⟩ = some (B (bs.getD j 0)) := fun j hj => Lib.bytesWorld_cell w 5 ⟨bs.toArray⟩ j (by rw [hsz]; exact hj)
  have hge : n ≤ grownCap w n 0 5 := grownCap_ge _ _ _ _
  have hcs : ∀ j, j < n → j < (Lib.bytesCells w 5 ⟨bs.toArray⟩).size := fun j hj => by
    have h1 := hcell j hj
    rw [cell_of_row _ w.heap.size j _ 5 _ hnew] at h1
    exact (Array.getElem?_eq_some_iff.1 h1).1
  refine ⟨_, _, hrun, ⟨rfl, rfl, rfl, by rw [Lib.bytesWorld_size]; omega, fun k hk => Lib.bytesWorld_at_old w 5 _ k hk⟩, Lib.bytesWorld_size _ _ _, hge, hcell, fun j hj => ?_, fun i x hi => ⟨by simp [hn], hge, fun _ => ⟨w.heap.size, 0, rfl, ?_, fun j hj => ?_⟩⟩⟩
  · have := hcs j hj
    simp [World.frozen?, hnew]
    omega
  · rw [setCell_size, Lib.bytesWorld_size]; omega
  · have hs := setCell_eq_setRow (Lib.bytesWorld w 5 ⟨bs.toArray⟩) w.heap.size i _ 5 _ (B x) hnew
    rw [hs, Nat.zero_add, cell_of_row _ w.heap.size j _ 5 _ (setRow_heap _ _ _ _ 5 _ hnew)]
    have h1 := hcell j hj
    rw [cell_of_row _ w.heap.size j _ 5 _ hnew] at h1
    by_cases e : j = i
    · subst e
      rw [Array.getElem?_setIfInBounds_self_of_lt (hcs j hj)]
      simp [List.getD, hn, hj]
    · rw [Array.getElem?_setIfInBounds_ne (Ne.symm e), h1]
      simp [List.getD, List.getElem?_set_ne (Ne.symm e)]

theorem flip_up (x e : Nat) (hx : x < 256) (he : e < 8) (h : x / 2 ^ e % 2 = 0) : x + 2 ^ e < 256 := by
  have : e = 0 ∨ e = 1 ∨ e = 2 ∨ e = 3 ∨ e = 4 ∨ e = 5 ∨ e = 6 ∨ e = 7 := by omega
  rcases this with rfl | rfl | rfl | rfl | rfl | rfl | rfl | rfl <;> simp only [Nat.reducePow] at h ⊢ <;> omega
theorem flip_down (x e : Nat) (h : x / 2 ^ e % 2 = 1) : 2 ^ e ≤ x := by
  rcases Nat.lt_or_ge x (2 ^ e) with h1 | h1
  · rw [Nat.div_eq_of_lt h1] at h; omega
  · exact h1
theorem pow_le (e : Nat) (he : e < 8) : 1 ≤ 2 ^ e ∧ 2 ^ e ≤ 128 := by
  have : e = 0 ∨ e = 1 ∨ e = 2 ∨ e = 3 ∨ e = 4 ∨ e = 5 ∨ e = 6 ∨ e = 7 := by omega
  rcases this with rfl | rfl | rfl | rfl | rfl | rfl | rfl | rfl <;> simp
set_option maxHeartbeats 4000000 in
theorem turn_any (w : World) (r N B M Log : Nat) (Lr : Value) (h : w.heap[r]? = some (.cells (pc N B M Log Lr) 59 (0, 0))) (lb cap : Nat) (L : Nat → List UInt8) (hL : lS w (.slice (some ⟨lb, 0, none⟩) N cap) N L) (hD : Dm N B M L) (hlr : lb ≠ r) (p : Nat) (hp : M < p ∧ p < N) :
    Calls Tryz.prog 67 #[.pointer (some ⟨r, 0, none⟩), .slice (some ⟨lb, 0, none⟩) N cap, .int .i64 (p : Int)] w fun e w' => (∃ v, e = .returned v) ∧ lS w' (.slice (some ⟨lb, 0, none⟩) N cap) N (turnP B L p) ∧ Fr (fun k => k = lb) w w' := by
  obtain ⟨_, c1, _⟩ := pc_cells h
  have hb0 := hD.b0
  have hb1 := hD.b1
  have hn1 := hD.n1
  have hat := hD.at hp.2
  have hmn := hD.mn
  obtain ⟨lb', cap', e, hcap, hlb, hcell, hfz⟩ := hL.form (by omega)
  cases e
  obtain ⟨a, ha⟩ : ∃ a, p / 8 = a := ⟨_, rfl⟩
  have hal : a ≤ 100000 := by omega
  have hrl : a % B < B := Nat.mod_lt _ (by omega)
  have hT : turnP B L p = upd L (a / B) ((L (a / B)).set (a % B) (flip8 ((L (a / B)).getD (a % B) 0) (p % 8))) := by unfold turnP; rw [ha]
  rw [ha] at hat
  obtain ⟨i, hi⟩ : ∃ i, a / B = i := ⟨_, rfl⟩
  obtain ⟨j, hj⟩ : ∃ j, a % B = j := ⟨_, rfl⟩
  rw [hi] at hat hT
  rw [hj] at hrl hT
  have hci := hcell i (by omega)
  have hfi := hfz i
  have hlen := hD.len i (by omega)
  obtain ⟨bs, hbs⟩ : ∃ bs, L i = bs := ⟨_, rfl⟩
  rw [hbs] at hci hlen hT
  obtain ⟨e, he⟩ : ∃ e, p % 8 = e := ⟨_, rfl⟩
  have hel : e < 8 := by omega
  rw [he] at hT
  obtain ⟨x, hx, hxl⟩ : ∃ x : Nat, (bs.getD j 0).toNat = x ∧ x < 256 := ⟨_, rfl, (bs.getD j 0).toNat_lt⟩
  rw [hT]
  have HL := Lib.hid hL
  obtain ⟨c, X1, hcv, hbX, hsX, hcc, hX1c, hX1f, hX1s⟩ := str_bytes w bs B hlen
  obtain ⟨z, hz⟩ : ∃ z, w.heap.size = z := ⟨_, rfl⟩
  rw [hz] at hcv hX1c hX1f hX1s hsX
  have hxc : X1.cell? ⟨z, j, none⟩ = some (.int .u8 (x : Int)) := by rw [hX1c j hrl, ← hx]
  have hxf := hX1f j hrl
  have c1X : X1.cell? ⟨r, 1, none⟩ = some (.int .i64 (B : Int)) := (hbX.cell (p := ⟨r, 1, none⟩) (lt_of_cell c1)).trans c1
  have hrz : r < z := by have h : r < w.heap.size := lt_of_cell c1; omega
  have hpa : (p : Int) / 8 = (a : Int) := by omega
  have hai : (a : Int) / (B : Int) = (i : Int) := by rw [← hi]; simp
  have haj : (a : Int) % (B : Int) = (j : Int) := by rw [← hj]; simp
  have hpe : (p : Int) % 8 = (e : Int) := by omega
  have HBX := Lib.hid hbX
  have HX1S := Lib.hid hX1s
  have HX := Lib.hid hx
  have HLT := Lib.hid hlb
  clear h hL hD hcell hfz hT ha hi hj hbs he hx hbX hX1s hX1c hX1f
  go_enter Tryz.func67, Tryz.ntmps67
  go_wp2
  go_loopw [9, 8] (fun k v wr => ∃ i : Nat, i ≤ e ∧ k = .int .i64 i ∧ v = .int .i64 ((2 ^ i : Nat) : Int) ∧ wr = X1) (fun k _ _ => e - (RowKit.intOf k).toNat)
  case atStart => exact ⟨0, Nat.zero_le _, rfl, by simp, rfl⟩
  case round =>
    obtain ⟨k, hk, rfl, rfl, rfl⟩ := hrel
    obtain ⟨V, hV⟩ : ∃ V, 2 ^ k = V := ⟨_, rfl⟩
    have hVl := pow_le k (by omega)
    rw [hV] at hVl
    rw [hV]
    by_cases hlt : k < e
    · have HV : Hid (2 ^ (k + 1) = 2 * V) := by show _ = _; rw [Nat.pow_succ, hV]; omega
      clear hV
      go_wp2
      go_roundw
      case rel => exact ⟨k + 1, by omega, by go_num, by rw [HV.out]; go_num, by trivial⟩
      case measure => simp [RowKit.intOf]; omega
    · obtain rfl : k = e := by omega
      have hB0 : ¬ B = 0 := by omega
      have hwd : IntKind.i64.wrap ((a : Int).tdiv (B : Int)) = (i : Int) := by
        rw [show (a : Int).tdiv (B : Int) = (a : Int) / (B : Int) from rfl, hai]
        exact IntWalk.i64_in _ (by omega)
      have hiN : i < N := by omega
      have hwi : IntKind.i64.wrap (i : Int) = (i : Int) := IntWalk.i64_in _ (by omega)
      obtain ⟨y, hy⟩ : ∃ y, x / V = y := ⟨_, rfl⟩
      have hxy : (x : Int) / (V : Int) = (y : Int) := by rw [← hy]; simp
      have hyl : y < 256 := by rw [← hy]; exact Nat.lt_of_le_of_lt (Nat.div_le_self _ _) hxl
      rcases (show y % 2 = 1 ∨ y % 2 = 0 by omega) with h2 | h2
      · have hle := flip_down x k (by rw [hV, hy]; exact h2)
        rw [hV] at hle
        have h2' : (y : Int) % 2 = 1 := by omega
        have HFL : Hid (flip8 (bs.getD j 0) k = UInt8.ofNat (x - V)) := by show _ = _; unfold flip8; rw [HX.out, hV, hy, if_pos h2]
        have hsetv : wr.setCell ⟨z, j, none⟩ (.int .u8 ((x : Int) - (V : Int))) = wr.setCell ⟨z, j, none⟩ (Bs.B (UInt8.ofNat (x - V))) := by
          congr 1
          show Value.int .u8 _ = Value.int .u8 _
          congr 1
          rw [UInt8.toNat_ofNat']
          omega
        obtain ⟨X2, hX2⟩ : ∃ X2, wr.setCell ⟨z, j, none⟩ (.int .u8 ((x : Int) - (V : Int))) = X2 := ⟨_, rfl⟩
        have hrd : Rd X2 (some ⟨z, 0, none⟩) B c (bs.set j (UInt8.ofNat (x - V))) := by rw [← hX2, hsetv]; exact HX1S.out j _ hrl
        obtain ⟨nbs, hnbs⟩ : ∃ l, bs.set j (UInt8.ofNat (x - V)) = l := ⟨_, rfl⟩
        rw [hnbs] at hrd
        have HN := Lib.hid hnbs
        clear hnbs
        have hcv2 := string_rd X2.drew _ _ _ _ hrd.drew
        have hX2k : ∀ k, k < z → X2.heap[k]? = wr.heap[k]? := fun k hk => by rw [← hX2]; exact setCell_other _ _ _ _ _ (by omega)
        have d1 : X2.cell? ⟨r, 1, none⟩ = some (.int .i64 (B : Int)) := (World.cell?_of_block (a := ⟨r, 1, none⟩) (hX2k r hrz)).trans c1X
        have hlbX : X2.heap[lb]? = w.heap[lb]? := (hX2k lb (by have := HLT.out; omega)).trans (HBX.out.block lb HLT.out)
        have d2 : X2.cell? ⟨lb, i, none⟩ = some (.string ⟨bs.toArray⟩) := (World.cell?_of_block (a := ⟨lb, i, none⟩) hlbX).trans hci
        have d3 : X2.frozen? ⟨lb, i, none⟩ = false := by unfold World.frozen? at hfi ⊢; rw [hlbX]; exact hfi
        have HLX : Hid (lS X2.drew (.slice (some ⟨lb, 0, none⟩) N cap) N L) := HL.out.keep hlbX
        have HFRX : Hid (Fr (fun k => k = lb) w X2.drew) := by
          show Fr _ _ _
          rw [← hX2]
          exact ((Fr.of HBX.out).setCell (.inr (by have := HBX.out.size; omega)) _).drew
        clear hsetv hrd hX2k hlbX hV hy
        go_wp2_with fail
        go_still_tail 10, mixed
        go_wp2
        go_end0
        refine ⟨⟨_, rfl⟩, ?_, HFRX.out.setCell (.inl rfl) _⟩
        rw [HFL.out, HN.out]
        exact HLX.out.set i hiN _
      · have hle := flip_up x k hxl hel (by rw [hV, hy]; exact h2)
        rw [hV] at hle
        have h2' : (y : Int) % 2 = 0 := by omega
        have HFL : Hid (flip8 (bs.getD j 0) k = UInt8.ofNat (x + V)) := by show _ = _; unfold flip8; rw [HX.out, hV, hy, if_neg (by omega)]
        have hsetv : wr.setCell ⟨z, j, none⟩ (.int .u8 ((x : Int) + (V : Int))) = wr.setCell ⟨z, j, none⟩ (Bs.B (UInt8.ofNat (x + V))) := by
          congr 1
          show Value.int .u8 _ = Value.int .u8 _
          congr 1
          rw [UInt8.toNat_ofNat']
          omega
        obtain ⟨X2, hX2⟩ : ∃ X2, wr.setCell ⟨z, j, none⟩ (.int .u8 ((x : Int) + (V : Int))) = X2 := ⟨_, rfl⟩
        have hrd : Rd X2 (some ⟨z, 0, none⟩) B c (bs.set j (UInt8.ofNat (x + V))) := by rw [← hX2, hsetv]; exact HX1S.out j _ hrl
        obtain ⟨nbs, hnbs⟩ : ∃ l, bs.set j (UInt8.ofNat (x + V)) = l := ⟨_, rfl⟩
        rw [hnbs] at hrd
        have HN := Lib.hid hnbs
        clear hnbs
        have hcv2 := string_rd X2.drew _ _ _ _ hrd.drew
        have hX2k : ∀ k, k < z → X2.heap[k]? = wr.heap[k]? := fun k hk => by rw [← hX2]; exact setCell_other _ _ _ _ _ (by omega)
        have d1 : X2.cell? ⟨r, 1, none⟩ = some (.int .i64 (B : Int)) := (World.cell?_of_block (a := ⟨r, 1, none⟩) (hX2k r hrz)).trans c1X
        have hlbX : X2.heap[lb]? = w.heap[lb]? := (hX2k lb (by have := HLT.out; omega)).trans (HBX.out.block lb HLT.out)
        have d2 : X2.cell? ⟨lb, i, none⟩ = some (.string ⟨bs.toArray⟩) := (World.cell?_of_block (a := ⟨lb, i, none⟩) hlbX).trans hci
        have d3 : X2.frozen? ⟨lb, i, none⟩ = false := by unfold World.frozen? at hfi ⊢; rw [hlbX]; exact hfi
        have HLX : Hid (lS X2.drew (.slice (some ⟨lb, 0, none⟩) N cap) N L) := HL.out.keep hlbX
        have HFRX : Hid (Fr (fun k => k = lb) w X2.drew) := by
          show Fr _ _ _
          rw [← hX2]
          exact ((Fr.of HBX.out).setCell (.inr (by have := HBX.out.size; omega)) _).drew
        clear hsetv hrd hX2k hlbX hV hy
        go_wp2_with fail
        go_still_tail 10, mixed
        go_wp2
        go_end0
        refine ⟨⟨_, rfl⟩, ?_, HFRX.out.setCell (.inl rfl) _⟩
        rw [HFL.out, HN.out]
        exact HLX.out.set i hiN _
end Go.Proofs.YtephmcbofcfpmaaGreat.Rp

