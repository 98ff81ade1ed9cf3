/- Prefix. Conditions: none. -/
import Derived.Test.YtlnghdldecnmgaaKC
set_option maxRecDepth 8000
set_option linter.unusedSimpArgs false
set_option linter.unusedVariables false
namespace Go.Kx
open Go.RowKit Go.Bs
def PrefixE (k : Ky) (e : Ending) : Prop := match prefixF k with
  | some s => e = .returned (.tuple #[st s, .int .i64 0])
  | none => e = .returned (.tuple #[st [], .int .i64 1])
theorem PrefixE.ex {k : Ky} {e : Ending} (h : PrefixE k e) : ∃ s n, e = .returned (.tuple #[st s, .int .i64 n]) := by
  unfold PrefixE at h
  split at h
  · exact ⟨_, _, h⟩
  · exact ⟨_, _, h⟩
theorem BytesE.ex {k : Ky} {e : Ending} (h : BytesE k e) : ∃ s n, e = .returned (.tuple #[st s, .int .i64 n]) := by
  unfold BytesE at h
  split at h
  · exact ⟨_, _, h⟩
  · exact ⟨_, _, h⟩
theorem FsAt.take {w : World} {base q c : Nat} {fs : List Fld} (h : FsAt w base (.slice (some ⟨q, 0, none⟩) fs.length c) fs) (m : Nat) (hm : m ≤ fs.length) : FsAt w base (.slice (some ⟨q, 0, none⟩) m c) (fs.take m) := by
  rcases h with ⟨_, h⟩ | ⟨q', c', e, hq, hc, h⟩
  · cases h
  · simp only [Value.slice.injEq, Option.some.injEq, Addr.mk.injEq] at e
    obtain ⟨⟨rfl, _, _⟩, _, rfl⟩ := e
    have hl : (fs.take m).length = m := by simp [Nat.min_eq_left hm]
    refine .inr ⟨q, c, by rw [hl], hq, by omega, fun j hj => ?_⟩
    rw [hl] at hj
    obtain ⟨v1, v2, c1, c2, hf⟩ := h j (by omega)
    refine ⟨v1, v2, c1, c2, ?_⟩
    have : (fs.take m).getD j .end_ = fs.getD j .end_ := by
      simp [List.getD_eq_getElem?_getD, List.getElem?_take, hj]
    rw [this]
    exact hf
end Go.Kx
namespace Go.Proofs.Ytlnghdldecnmgaa
open Go.RowKit Go.Bs Go.Kx

set_option maxHeartbeats 4000000 in
theorem Prefix_any (k : Ky) (w : World) (hbd : Bd k) : Calls Try.prog 12 #[k.val] w fun e w' => PrefixE k e ∧ Below w.heap.size w w' := by
  obtain ⟨g, hg⟩ : ∃ g, w.heap.size = g := ⟨_, rfl⟩
  rw [hg]
  obtain ⟨W2, hW2⟩ : ∃ W2, w.alloc (.cells k.cells 23) = W2 := ⟨_, rfl⟩
  have hk0 : KyAt W2 g k := by rw [← hW2, ← hg]; exact KyAt.new w k
  have hs2 : W2.heap.size = g + 1 := by rw [← hW2]; simp [hg]
  have hb2 : Below g w W2 := by rw [← hW2, ← hg]; exact (Below.refl _ _).alloc (Nat.le_refl _) _
  have HFO := Lib.hid (fieldsOf_any W2 k.kind)
  have HK0 := Lib.hid hk0
  have HS2 := Lib.hid hs2
  have HB2 := Lib.hid hb2
  have HG := Lib.hid hg
  have HBD := Lib.hid hbd
  obtain ⟨c0, _⟩ := hk0.at
  have HP : Hid (∀ r, lay ((fields k.kind).take ((fields k.kind).length - 1)) k = r → prefixF k = r.map (·.2)) := fun r hr => by unfold prefixF; rw [hr]
  have hfl := (fields_ok k.kind).2
  have HFK := Lib.hid (fields_ok k.kind).1
  obtain ⟨fs, hfs⟩ : ∃ fs, fields k.kind = fs := ⟨_, rfl⟩
  rw [hfs] at HFO HP hfl HFK
  clear hk0 hs2 hb2 hbd hfs
  unfold Ky.val
  unfold Ky.cells at hW2
  obtain ⟨SA, hSA⟩ : ∃ SA, st k.a = .string SA := ⟨_, rfl⟩
  obtain ⟨SB, hSB⟩ : ∃ SB, st k.b = .string SB := ⟨_, rfl⟩
  rw [hSA, hSB] at hW2 ⊢
  have HW2 := Lib.hid hW2
  clear hW2 hSA hSB
  go_enter Try.func12, Try.ntmps12
  go_wp2_with fail
  rw [HW2.out]
  refine HFO.out.mono ?_
  rintro e w1 ⟨v, rfl, hfs, hb1⟩
  have HK1 := Lib.hid (HK0.out.keep hb1)
  have HB1 : Hid (Below g w w1 ∧ g + 1 ≤ w1.heap.size) := ⟨HB2.out.trans (hb1.mono (by rw [HS2.out]; omega)), by have := hb1.size; rw [HS2.out] at this; exact this⟩
  have key : ∀ u m, FsAt w1 (g + 1) u (fs.take m) → m = fs.length - 1 → Calls Try.prog 20 #[.pointer (some ⟨g, 0, none⟩), u] w1 fun e w' => PrefixE k e ∧ Below g w w' := fun u m hu hm => by
    refine (lay_any w1 g (g + 1) k (fs.take m) u HK1.out hu (by omega) HB1.out.2 HBD.out (fun f hf => HFK.out f (List.mem_of_mem_take hf)) (by simp; omega)).mono ?_
    rintro e w' ⟨hf, he⟩
    refine ⟨?_, HB1.out.1.trans (hf.below (fun i e => by have : i = g := e; omega) (by have := HB1.out.2; omega))⟩
    unfold PrefixE
    subst hm
    rw [HP.out _ rfl]
    cases hl : lay (fs.take (fs.length - 1)) k with
    | none => rw [hl] at he; exact he
    | some r => rw [hl] at he; exact he.1
  have hfs' : FsAt w1 (g + 1) v fs := by rw [HS2.out] at hfs; exact hfs
  have HKEY := Lib.hid key
  clear hb1 key hfs
  rcases hfs' with ⟨rfl, rfl⟩ | ⟨q, c, rfl, hq, hc, h⟩
  · have HC := Lib.hid (HKEY.out (.slice none 0 0) 0 (.inl ⟨rfl, rfl⟩) rfl)
    go_wp2_with fail
    refine HC.out.mono ?_
    rintro e w' ⟨he, hb⟩
    obtain ⟨s, n, rfl⟩ := he.ex
    have HE := Lib.hid (And.intro he hb)
    clear he hb
    go_wp2
    go_ret2
    exact HE.out
  · have HC := Lib.hid (HKEY.out (.slice (some ⟨q, 0, none⟩) (fs.length - 1) c) _ (FsAt.take (.inr ⟨q, c, rfl, hq, hc, h⟩) _ (by omega)) rfl)
    obtain ⟨n, hn⟩ : ∃ n, fs.length = n := ⟨_, rfl⟩
    rw [hn] at HC hc hfl ⊢
    clear h hn
    have hn3 : n = 0 ∨ n = 1 ∨ n = 2 := by omega
    rcases hn3 with rfl | rfl | rfl
    · go_wp2_with fail
      refine HC.out.mono ?_
      rintro e w' ⟨he, hb⟩
      obtain ⟨s, n, rfl⟩ := he.ex
      have HE := Lib.hid (And.intro he hb)
      clear he hb
      go_wp2
      go_ret2
      exact HE.out
    · go_wp2_with fail
      refine HC.out.mono ?_
      rintro e w' ⟨he, hb⟩
      obtain ⟨s, n, rfl⟩ := he.ex
      have HE := Lib.hid (And.intro he hb)
      clear he hb
      go_wp2
      go_ret2
      exact HE.out
    · go_wp2_with fail
      refine HC.out.mono ?_
      rintro e w' ⟨he, hb⟩
      obtain ⟨s, n, rfl⟩ := he.ex
      have HE := Lib.hid (And.intro he hb)
      clear he hb
      go_wp2
      go_ret2
      exact HE.out
end Go.Proofs.Ytlnghdldecnmgaa
