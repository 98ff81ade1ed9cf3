import Derived.Test.YtkkanhbcmdokcaaT7
namespace Go.Proofs.Ytkkanhbcmdokcaa
open Go.RowKit Go.Bs

theorem Decode_yes (s : ByteArray) (l : List UInt8) (n : Nat) (w : World) (hsl : s.data.toList = l) (hs : s.size ≤ 17592186044416) (hn : nByt s.size = n) (hg : encL (decL l) = l) :
    Calls Try.prog 18 #[.string s] w fun e w' => e = .returned (.tuple #[.slice (some ⟨w.heap.size, 0, none⟩) n n, .int .i64 0]) ∧ Rd w' (some ⟨w.heap.size, 0, none⟩) n n (decL l) ∧ Below w.heap.size w w' := by
  refine (Decode_any s l w hsl hs).mono ?_
  rintro e w' ⟨hb, ⟨_, rfl, hB⟩ | ⟨h, _⟩⟩
  · subst hn
    exact ⟨rfl, hB.all' _ _ (by rw [decL_length, ← hsl]; simp) (Nat.le_refl _), hb⟩
  · exact absurd hg h
theorem Decode_no (s : ByteArray) (l : List UInt8) (w : World) (hsl : s.data.toList = l) (hs : s.size ≤ 17592186044416) (hg : encL (decL l) ≠ l) :
    Calls Try.prog 18 #[.string s] w fun e w' => e = .returned (.tuple #[.slice none 0 0, .int .i64 4]) ∧ Below w.heap.size w w' := by
  refine (Decode_any s l w hsl hs).mono ?_
  rintro e w' ⟨hb, ⟨h, rfl, hB⟩ | ⟨h, rfl⟩⟩
  · exact absurd h hg
  · exact ⟨rfl, hb⟩
theorem Unhex_yes (s : ByteArray) (l : List UInt8) (n : Nat) (w : World) (hsl : s.data.toList = l) (hs : s.size ≤ 17592186044416) (hn : s.size / 2 = n) (hg : good16 l) :
    Calls Try.prog 10 #[.string s] w fun e w' => e = .returned (.tuple #[.slice (some ⟨w.heap.size, 0, none⟩) n n, .int .i64 0]) ∧ Rd w' (some ⟨w.heap.size, 0, none⟩) n n (unhexL l) ∧ Below w.heap.size w w' := by
  refine (Unhex_any s l w hsl hs).mono ?_
  rintro e w' ⟨hb, ⟨_, rfl, hB⟩ | ⟨h, _⟩⟩
  · subst hn
    exact ⟨rfl, hB.all' _ _ (by rw [unhexL_length, ← hsl]; simp) (Nat.le_refl _), hb⟩
  · exact absurd hg h
theorem Unhex_no (s : ByteArray) (l : List UInt8) (w : World) (hsl : s.data.toList = l) (hs : s.size ≤ 17592186044416) (hg : ¬ good16 l) :
    Calls Try.prog 10 #[.string s] w fun e w' => e = .returned (.tuple #[.slice none 0 0, .int .i64 4]) ∧ Below w.heap.size w w' := by
  refine (Unhex_any s l w hsl hs).mono ?_
  rintro e w' ⟨hb, ⟨h, rfl, hB⟩ | ⟨h, rfl⟩⟩
  · exact absurd h hg
  · exact ⟨rfl, hb⟩

theorem two_rd (w : World) (t : Nat) (x y : UInt8) (v u : Value) (hv : v = B x) (hu : u = B y) : Rd (w.alloc (.cells #[v, u] t)) (some ⟨w.heap.size, 0, none⟩) 2 2 [x, y] := by
  subst hv hu
  exact (Blk.new w t [x, y]).all 2 (Nat.le_refl _)

theorem c7z : encL (decL [55, 122]) = [55, 122] := by decide +kernel
theorem d7z : decL [55, 122] = [255] := by decide +kernel
theorem c8z : encL (decL [56, 122]) ≠ [56, 122] := by decide +kernel
theorem g00ff : good16 [48, 48, 102, 102] := by
  refine ⟨rfl, ?_⟩
  decide +kernel
theorem u00ff : unhexL [48, 48, 102, 102] = [0, 255] := by decide +kernel
theorem h00ff : hexL [0, 255] = [48, 48, 102, 102] := by decide +kernel
theorem eff : encL [255] = [55, 122] := by decide +kernel
theorem e0100 : encL [1, 0] = [48, 48, 48, 49] := by decide +kernel

set_option maxHeartbeats 1000000 in
theorem awake_any (w : World) : Calls Try.prog 13 #[] w fun e w' => e = .returned (.bool true) ∧ Below w.heap.size w w' := by
  go_enter Try.func13, Try.ntmps13
  go_wp2_with fail
  refine (Decode_yes _ [55, 122] 1 w rfl (by decide) (by decide) c7z).mono ?_
  rintro e w1 ⟨rfl, hr1, hb1⟩
  rw [d7z] at hr1
  obtain ⟨g1, hg1⟩ : ∃ g, w.heap.size = g := ⟨_, rfl⟩
  rw [hg1] at hr1 ⊢
  go_wp2_with fail
  refine (Decode_no _ [56, 122] w1 rfl (by decide) c8z).mono ?_
  rintro e w2 ⟨rfl, hb2⟩
  have HB2 := Lib.hid (below_step hb1 hb2)
  have hr1 := hr1.keep hb2
  clear hb1 hb2
  go_wp2_with fail
  refine (Unhex_yes _ [48, 48, 102, 102] 2 w2 rfl (by decide) (by decide) g00ff).mono ?_
  rintro e w3 ⟨rfl, hr3, hb3⟩
  rw [u00ff] at hr3
  have HB3 := Lib.hid (below_step HB2.out hb3)
  have hr1 := hr1.keep hb3
  obtain ⟨g3, hg3⟩ : ∃ g, w2.heap.size = g := ⟨_, rfl⟩
  rw [hg3] at hr3 ⊢
  clear hb3
  go_wp2_with fail
  refine (Hex_any _ 2 2 [0, 255] _ (two_rd w3 5 0 255 _ _ rfl rfl) (by decide)).mono ?_
  rintro e w4 ⟨rfl, hb4⟩
  rw [h00ff]
  have hb4' : Below w3.heap.size w3 w4 := below_step ((Below.refl _ w3).alloc (Nat.le_refl _) _) hb4
  have HB4 := Lib.hid (below_step HB3.out hb4')
  have hr1 := hr1.keep hb4'
  have hr3 := hr3.keep hb4'
  have hst3 := string_rd w4 _ _ _ _ hr3
  clear hb4 hb4'
  go_wp2_with fail
  refine (Encode_any _ 1 1 [255] _ (one_rd w4 5 255 _ rfl) (by decide)).mono ?_
  rintro e w5 ⟨rfl, hb5⟩
  rw [eff]
  have hb5' : Below w4.heap.size w4 w5 := below_step ((Below.refl _ w4).alloc (Nat.le_refl _) _) hb5
  have HB5 := Lib.hid (below_step HB4.out hb5')
  have hr1 := hr1.keep hb5'
  clear hb5 hb5' hst3
  go_wp2_with fail
  refine (Encode_any _ 2 2 [1, 0] _ (two_rd w5 5 1 0 _ _ rfl rfl) (by decide)).mono ?_
  rintro e w6 ⟨rfl, hb6⟩
  rw [e0100]
  have hb6' : Below w5.heap.size w5 w6 := below_step ((Below.refl _ w5).alloc (Nat.le_refl _) _) hb6
  have HB6 := Lib.hid (below_step HB5.out hb6')
  have hst1 := string_rd w6 _ _ _ _ (hr1.keep hb6')
  clear hb6 hb6'
  go_wp2
  go_ret
  exact ⟨rfl, HB6.out⟩
end Go.Proofs.Ytkkanhbcmdokcaa
