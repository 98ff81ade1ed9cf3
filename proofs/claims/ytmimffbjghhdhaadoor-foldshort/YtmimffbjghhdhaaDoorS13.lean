/- Both as memory of its own; a part of a slice; a digest's words. Conditions: none. -/
import Derived.Test.YtmimffbjghhdhaaDoorS10
import Derived.Test.YtmimffbjghhdhaaDoorS12
namespace Go.Proofs.YtmimffbjghhdhaaDoor
open Go.RowKit Go.Bs Go.Sha

set_option maxHeartbeats 400000 in
theorem Both_own (A : Option Addr) (n c : Nat) (A' : Option Addr) (n' c' : Nat) (xs bs : List UInt8) (w : World) (h : Rd w A n c xs) (h' : Rd w A' n' c' bs) (hn : n ≤ 17592186044416) (hn' : n' ≤ 17592186044416) :
    Calls Tryd.prog 18 #[.slice A n c, .slice A' n' c'] w fun e w' => ∃ v, e = .returned v ∧ Own w' w.heap.size 5 v (xs ++ bs) ∧ Below w.heap.size w w' := by
  have HL := Lib.hid h.len
  have HL' := Lib.hid h'.len
  go_enter Tryd.func18, Tryd.ntmps18
  go_wp2_with (first
    | (at_builtin; refine wpList_app _ rfl (.tmp 6) (.tmp 7) _ rfl w.heap.size 5 Tryd.underlying22 u8_info (.slice none 0 0) [] rfl (Own.nil _ _ _) A n c xs rfl h (by simp; omega) (Nat.le_refl _) ?_; intro v1 w1 ho1 hb1)
    | (at_builtin; refine wpList_app _ rfl (.tmp 9) (.tmp 10) _ rfl w.heap.size 5 Tryd.underlying22 u8_info v1 ([] ++ xs) rfl ho1 A' n' c' bs rfl (h'.keep hb1) (by rw [List.nil_append, HL.out]; omega) hb1.size ?_; intro v2 w2 ho2 hb2))
  go_ret
  exact ⟨v2, rfl, ho2, hb1.trans hb2⟩

theorem own_slice {w : World} {base e : Nat} {v : Value} {bs : List UInt8} (h : Own w base e v bs) (n : Nat) (hn : bs.length = n) : ∃ A c, v = .slice A n c ∧ Rd w A n c bs ∧ c ≤ 9223372036854775807 := by
  obtain ⟨A, c, rfl, hr⟩ := h.slice n hn
  refine ⟨A, c, rfl, hr, ?_⟩
  rcases h.2 with ⟨h0, _⟩ | ⟨g, cap, cur, e1, _, _, _, e4, _⟩
  · injection h0 with h1 h2 h3; omega
  · injection e1 with h1 h2 h3
    subst h3
    unfold maxLen at e4
    omega

theorem slice_mid (g o n c l h : Nat) (h1 : l ≤ h) (h2 : h ≤ c) (h3 : l < c) (w : World) : (Instr.slice 22 (.slice (some ⟨g, o, none⟩) n c) (some (.int .i64 (l : Int))) (some (.int .i64 (h : Int))) none).run Tryd.prog w = .ok (.slice (some ⟨g, o + l, none⟩) (h - l) (c - l)) w := by
  rw [run_slice_lh (P := Tryd.prog) w 22 _ n c (by rw [elem22]; exact Tryd.underlying22) .i64 .i64 (l : Int) (h : Int) (by omega) (by omega) (by omega), elem22, size5, Result.andThen_ok]
  have e : ¬ c = l := by omega
  simp [sliced, e, addr_add]

theorem dig_word (s : St) (hs : s.ok) (k : Nat) (hk : k < 8) :
    16777216 * ((digB s).getD (4 * k) 0).toNat + 65536 * ((digB s).getD (4 * k + 1) 0).toNat + 256 * ((digB s).getD (4 * k + 2) 0).toNat + ((digB s).getD (4 * k + 3) 0).toNat = s.l.getD k 0 := by
  have hx := lt8 s hs k
  have key : ∀ x : Nat, x < 4294967296 → 16777216 * (UInt8.ofNat (x / 16777216)).toNat + 65536 * (UInt8.ofNat (x / 65536)).toNat + 256 * (UInt8.ofNat (x / 256)).toNat + (UInt8.ofNat x).toNat = x := by
    intro x hx
    rw [UInt8.toNat_ofNat', UInt8.toNat_ofNat', UInt8.toNat_ofNat', UInt8.toNat_ofNat']
    omega
  have h2 := key _ hx
  obtain ⟨a, b, c, d, e, f, g, z⟩ := s
  have : k = 0 ∨ k = 1 ∨ k = 2 ∨ k = 3 ∨ k = 4 ∨ k = 5 ∨ k = 6 ∨ k = 7 := by omega
  rcases this with h | h | h | h | h | h | h | h <;> subst h <;> exact h2
end Go.Proofs.YtmimffbjghhdhaaDoor
