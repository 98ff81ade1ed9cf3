/- Open. Conditions: none. -/
import Derived.Test.YtabffjahelogkaaW14
namespace Go.Proofs.Ytabffjahelogkaa
open Go.RowKit Go.Bs Go.Dk

theorem read_up (s : S) (hok : s.Ok) (hu : s.up = true) (k : Nat) (hk : k < s.sectors) : s.read (k : Int) = (cur s.L s.c k, 0) := by
  unfold S.read
  rw [if_neg (by simp [hu]), if_neg (by simp [S.has]; exact hk)]
  rfl
theorem read_dn (s : S) (hu : s.up = false) (i : Int) : s.read i = ([], 50) := by
  unfold S.read
  rw [if_pos hu]
/-- redo where nothing is set, or there is no power. -/
theorem redo_dn (w : World) (p g : Nat) (s : S) (log : Nat) (down : Bool) (D : Nat → Prop) (h : WalAt w p g s log down D) (hu : s.up = false) :
    Calls Try.prog 19 #[.pointer (some ⟨p, 0, none⟩)] w fun e w' => e = .returned (.int .i64 50) ∧ Wd D p g s log down w w' := by
  have HW := Lib.hid h
  have x2 := (wc_cells h.row).1
  have HR := Lib.hid (Read_any w g s D h.disk 0)
  rw [read_dn s hu] at HR
  clear h
  go_enter Try.func19, Try.ntmps19
  go_wp2_with fail
  refine HR.out.mono ?_
  rintro e w1 ⟨v, rfl, _, hb⟩
  have HB := Lib.hid hb
  clear hb
  go_wp2
  go_ret
  exact ⟨rfl, D, HW.out.below HB.out, fun _ h => .inl h, Fr.of HB.out⟩
theorem redo_un (w : World) (p g : Nat) (s : S) (log : Nat) (down : Bool) (D : Nat → Prop) (h : WalAt w p g s log down D) (hu : s.up = true) (h1 : (cur s.L s.c 0).getD 0 0 ≠ 1) :
    Calls Try.prog 19 #[.pointer (some ⟨p, 0, none⟩)] w fun e w' => e = .returned (.int .i64 0) ∧ Wd D p g s log down w w' := by
  have HW := Lib.hid h
  have x2 := (wc_cells h.row).1
  have HR := Lib.hid (Read_any w g s D h.disk 0)
  have hlen := h.disk.ok.curLen 0
  have hb0 := h.disk.ok.b0
  have hb1 := h.disk.ok.b1
  have hrd : s.read 0 = (cur s.L s.c 0, 0) := read_up s h.disk.ok hu 0 (by have := h.l1; omega)
  rw [hrd] at HR
  obtain ⟨bs, hbs⟩ : ∃ bs, cur s.L s.c 0 = bs := ⟨_, rfl⟩
  rw [hbs] at HR hlen h1
  obtain ⟨n, hn⟩ : ∃ n, s.bytes = n := ⟨_, rfl⟩
  rw [hn] at hlen hb0 hb1
  obtain ⟨b, hb⟩ : ∃ b, bs.getD 0 0 = b := ⟨_, rfl⟩
  rw [hb] at h1
  have h1n : ¬ ((b.toNat : Int) = 1) := fun e => h1 (by apply UInt8.toNat_inj.1; show b.toNat = 1; omega)
  have hbt : (b.toNat : Int) < 256 := by have := b.toNat_lt; omega
  clear h hrd hbs hn h1
  go_enter Try.func19, Try.ntmps19
  go_wp2_with fail
  refine HR.out.mono ?_
  rintro e w1 ⟨v, rfl, hrv, hbl⟩
  have HB := Lib.hid hbl
  rcases hrv with ⟨_, hv⟩ | ⟨rfl, hk⟩
  · have hv' : bs = [] := hv
    rw [hv'] at hlen
    simp at hlen
    omega
  · have hc := Blk.cell (bs := bs) hk 0 (by rw [hlen]; omega)
    rw [hb] at hc
    have hl2 : (bs, (0 : Int)).1.length = n := hlen
    rw [hl2]
    obtain ⟨z, hz⟩ : ∃ z, w.heap.size = z := ⟨_, rfl⟩
    rw [hz] at hc ⊢
    obtain ⟨y, hy⟩ : ∃ y, (b.toNat : Int) = y := ⟨_, rfl⟩
    have hc' : w1.cell? ⟨z, 0, none⟩ = some (.int .u8 y) := by rw [← hy]; exact hc
    rw [hy] at h1n hbt
    clear hbl hk hl2 hb hlen hc hy hz
    go_wp2
    go_ret
    exact ⟨rfl, D, HW.out.below HB.out, fun _ h => .inl h, Fr.of HB.out⟩

theorem Open_nil (w : World) (log : Int) : Calls Try.prog 6 #[.pointer none, .int .i64 log] w fun e w' => e = .returned (.tuple #[.pointer none, .int .i64 3]) ∧ w = w' := by
  go_enter Try.func6, Try.ntmps6
  go_wp2
  go_ret2
  exact ⟨rfl, rfl⟩
theorem zero43 (w : World) : (zeroValue 43).run Try.prog w = .ok (.agg #[.pointer none, .int .i64 0, .bool false]) w := by kernel_rfl
theorem Open_no (w : World) (g : Nat) (s : S) (D : Nat → Prop) (h : DiskAt w g s D) (log : Int) (hm : may s log = false) :
    Calls Try.prog 6 #[.pointer (some ⟨g, 0, none⟩), .int .i64 log] w fun e w' => e = .returned (.tuple #[.pointer none, .int .i64 1]) ∧ ∃ k, w' = w.drewN k := by
  have HF := Lib.hid (fits_any w g s D h log)
  rw [hm] at HF
  clear h
  go_enter Try.func6, Try.ntmps6
  go_wp2_with fail
  refine HF.out.mono ?_
  rintro e w1 ⟨rfl, k, rfl⟩
  go_wp2
  go_ret2
  exact ⟨rfl, k, rfl⟩
/-- what Open leaves, R being what is redone. -/
def Opened (w : World) (D : Nat → Prop) (g : Nat) (log : Nat) (R : S × Int) (v : Value) (w' : World) : Prop :=
  (R.2 = 0 ∧ ∃ p D', v = .pointer (some ⟨p, 0, none⟩) ∧ w.heap.size ≤ p ∧ WalAt w' p g R.1 log false D' ∧ (∀ k, D' k → D k ∨ w.heap.size ≤ k) ∧ Fr D w w') ∨ (R.2 ≠ 0 ∧ v = .pointer none ∧ Did D g R.1 w w')
set_option maxHeartbeats 1000000 in
theorem Open_yes (w : World) (g : Nat) (s : S) (D : Nat → Prop) (h : DiskAt w g s D) (log : Nat) (hm : may s log = true) (R : S × Int)
    (hredo : ∀ W p, WalAt W p g s log false D → Calls Try.prog 19 #[.pointer (some ⟨p, 0, none⟩)] W fun e w' => e = .returned (.int .i64 R.2) ∧ Wd D p g R.1 log false W w') :
    Calls Try.prog 6 #[.pointer (some ⟨g, 0, none⟩), .int .i64 (log : Int)] w fun e w' => ∃ v, e = .returned (.tuple #[v, .int .i64 R.2]) ∧ Opened w D g log R v w' := by
  have HF := Lib.hid (fits_any w g s D h log)
  rw [hm] at HF
  have HD := Lib.hid h
  have hmm : 1 ≤ log ∧ log + 1 < s.sectors ∧ 3 + 3 * log ≤ s.bytes := by
    unfold may at hm
    simp at hm
    omega
  have hz43 := zero43
  obtain ⟨S1, r⟩ := R
  have HRE := Lib.hid hredo
  clear h hm hredo
  go_enter Try.func6, Try.ntmps6
  go_wp2_with fail
  refine HF.out.mono ?_
  rintro e w1 ⟨rfl, k, rfl⟩
  obtain ⟨W1, hW1⟩ : ∃ W1, w.drewN k = W1 := ⟨_, rfl⟩
  have hbW : Below w.heap.size w W1 := by rw [← hW1]; exact below_drewN (Below.refl _ _) _
  have hszW : W1.heap.size = w.heap.size := by rw [← hW1]; rfl
  rw [hW1]
  clear hW1
  obtain ⟨W2, hW2⟩ : ∃ W2, W1.alloc (.cells #[.pointer (some ⟨g, 0, none⟩), .int .i64 (log : Int), .bool false] 43) = W2 := ⟨_, rfl⟩
  have hbW2 : Below w.heap.size w W2 := by rw [← hW2]; exact hbW.alloc hbW.size _
  obtain ⟨p, hp⟩ : ∃ p, W1.heap.size = p := ⟨_, rfl⟩
  have hrow : W2.heap[p]? = some (.cells (wc g log false) 43 (0, 0)) := by rw [← hW2, ← hp]; exact heap_alloc_new W1 _
  have hWA : WalAt W2 p g s log false D := ⟨hrow, HD.out.below hbW2, fun hd => by have := HD.out.lt p hd; omega, hmm.1, hmm.2.1, hmm.2.2⟩
  have HR := Lib.hid (HRE.out W2 p hWA)
  have HB2 := Lib.hid hbW2
  have HP : Hid (w.heap.size ≤ p) := by show w.heap.size ≤ p; omega
  clear hbW hbW2 hrow hWA hszW hmm
  go_wp2_with fail
  refine HR.out.mono ?_
  rintro e w3 ⟨rfl, D3, h3, h4, h5⟩
  have H3 := Lib.hid h3
  have H4 : Hid (∀ k, D3 k → D k ∨ w.heap.size ≤ k) := fun k hk => (h4 k hk).imp id (fun h => Nat.le_trans HB2.out.size h)
  have H5 : Hid (Fr D w w3) := (Fr.of HB2.out).trans h5
  clear h3 h4 h5
  by_cases hr : r = 0
  · subst hr
    go_wp2
    go_ret2
    exact ⟨_, rfl, .inl ⟨rfl, p, D3, rfl, HP.out, H3.out, H4.out, H5.out⟩⟩
  · go_wp2
    go_ret2
    exact ⟨_, rfl, .inr ⟨hr, rfl, D3, H3.out.disk, H4.out, H5.out⟩⟩
end Go.Proofs.Ytabffjahelogkaa
