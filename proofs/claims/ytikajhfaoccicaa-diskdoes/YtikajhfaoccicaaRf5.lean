/- The document's disk: Write at all places. Conditions: none. -/
import Derived.Test.YtikajhfaoccicaaRf4
namespace Go.Proofs.Ytikajhfaoccicaa
open Go.RowKit Go.Bs Go.Dk

set_option maxHeartbeats 2000000 in
theorem rWrite_any (w : World) (r : Nat) (s : S) (D : Nat → Prop) (h : RefAt w r s D) (hfine : s.Fine) (hd : s.deeds < 800000) (i : Int) (A : Option Addr) (n c : Nat) (bs : List UInt8) (hr : Rd w A n c bs) :
    Calls Try.prog 14 #[.pointer (some ⟨r, 0, none⟩), .int .i64 i, .slice A n c] w fun e w' => e = .returned (.int .i64 (s.write i bs).2) ∧ RDid D r (s.write i bs).1 w w' := by
  have HR := Lib.hid h
  obtain ⟨Lv, cv, kv, kl, E, hb⟩ := h
  obtain ⟨lb, lcap, rfl, _, _, _, _⟩ := hb.lrow.form hb.ok.s0
  obtain ⟨c0, c1, _, c3, _, _, _, _⟩ := rc_cells hb.row
  have hs1 := hb.ok.s1
  have hnbm := hb.ok.b1
  have hl := hr.len
  cases hu : s.up
  · rw [hu] at c3
    have HE : Hid (s.write i bs = (s, 50)) := by show s.write i bs = (s, 50); unfold S.write; rw [if_pos hu]
    clear hb hr hl hu c0 c1
    go_enter Try.func14, Try.ntmps14
    go_wp2
    go_ret
    rw [HE.out]
    exact ⟨rfl, RDid.refl HR.out⟩
  rw [hu] at c3
  by_cases hi0 : i < 0
  · have HE : Hid (s.write i bs = (s, 1)) := by show s.write i bs = (s, 1); unfold S.write; rw [if_neg (by rw [hu]; simp), if_pos (.inl (by simp [S.has]; omega))]
    clear hb hr hl hu
    go_enter Try.func14, Try.ntmps14
    go_wp2
    go_ret
    rw [HE.out]
    exact ⟨rfl, RDid.refl HR.out⟩
  obtain ⟨k, rfl⟩ : ∃ k : Nat, i = k := ⟨i.toNat, by omega⟩
  by_cases hi1 : k < s.sectors
  · by_cases hbl : n = s.bytes
    · have := rWrite_yes w r s D HR.out hfine hd hu k hi1 A n c bs hr hbl
      unfold S.write
      rw [if_neg (by rw [hu]; simp), if_neg (by rintro (e | e); (simp [S.has] at e; omega); exact e (by omega))]
      exact this
    · have HE : Hid (s.write k bs = (s, 1)) := by show s.write k bs = (s, 1); unfold S.write; rw [if_neg (by rw [hu]; simp), if_pos (.inr (by omega))]
      obtain ⟨nb, hnb⟩ : ∃ nb, s.bytes = nb := ⟨_, rfl⟩
      rw [hnb] at c0 hbl hnbm
      have hne : ((n : Int) != (nb : Int)) = true := by simp; omega
      clear hb hr hl hu hnb
      go_enter Try.func14, Try.ntmps14
      go_wp2
      go_ret
      rw [HE.out]
      exact ⟨rfl, RDid.refl HR.out⟩
  · have HE : Hid (s.write k bs = (s, 1)) := by show s.write k bs = (s, 1); unfold S.write; rw [if_neg (by rw [hu]; simp), if_pos (.inl (by simp [S.has]; omega))]
    clear hb hr hl hu
    go_enter Try.func14, Try.ntmps14
    go_wp2
    go_ret
    rw [HE.out]
    exact ⟨rfl, RDid.refl HR.out⟩
end Go.Proofs.Ytikajhfaoccicaa
