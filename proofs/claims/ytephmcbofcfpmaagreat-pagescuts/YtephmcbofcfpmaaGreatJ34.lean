/- look and sees. Conditions: none. look. Conditions: none. -/
import Derived.Test.YtephmcbofcfpmaaGreatJ33
import Derived.WalkKit
set_option maxRecDepth 8000
set_option linter.unusedVariables false
set_option linter.unusedSimpArgs false
namespace Go.Proofs.YtephmcbofcfpmaaGreat
open Go.RowKit Go.Bs Go.Dk Rp

def seesS (N Bz M : Nat) (T : TX) : List UInt8 := if T.done then [] else lkTo N Bz M T N
theorem u8w (x : Nat) (h : x < 256) : IntKind.u8.wrap (x : Int) = x := by
  have := IntWalk.u8_in (x : Int) (by omega)
  exact this
theorem two_rd (w : World) (x y : UInt8) : Rd (w.alloc (.cells #[B x, B y] 5)) (some ⟨w.heap.size, 0, none⟩) 2 2 [x, y] := (Blk.new w 5 [x, y]).all 2 (Nat.le_refl _)
theorem B_of (x : Nat) (h : x < 256) : Value.int .u8 (x : Int) = B (UInt8.ofNat x) := by
  have : (UInt8.ofNat x).toNat = x := by simp; omega
  show _ = Value.int .u8 ((UInt8.ofNat x).toNat : Int)
  rw [this]
/-- the words behind the pages' root: of each page whether it is used, and its bytes. -/
theorem sees_any (w0 a : World) (pp t q g : Nat) (s : S) (log N Bz M : Nat) (L : Nat → List UInt8) (T : TX) (h : SyB w0 a pp t q g s log N Bz M L T) (hN : N ≤ 1000) (hB : Bz ≤ 4096) :
    Calls Tryz.prog 37 #[.pointer (some ⟨t, 0, none⟩), .int .i64 (N : Int)] a fun e b => e = .returned (.string ⟨(seesS N Bz M T).toArray⟩) ∧ SyB w0 b pp t q g s log N Bz M L T := by
  have HR := bRoot w0 a pp t q g s log N Bz M L T h
  have hdm := h.dm
  unfold rootV at HR
  unfold seesS
  cases hd : T.done
  · rw [hd] at HR
    simp only [Bool.false_eq_true, if_false] at HR ⊢
    have hle := le32_bound h hd
    have HLEN := Lib.hid (fun k hk => lkTo_len hdm k hk)
    have HRL := Lib.hid (fun k hk => read_lenT hdm k hk)
    have hl0 : lkTo N Bz M T 0 = [UInt8.ofNat (Rp.le32 (T.L M) % 256), 0] := rfl
    obtain ⟨lr, hlr⟩ : ∃ lr : Nat, Rp.le32 (T.L M) = lr := ⟨_, rfl⟩
    rw [hlr] at HR hle hl0
    have HR := Lib.hid HR
    obtain ⟨x, hx⟩ : ∃ x : Nat, lr % 256 = x := ⟨_, rfl⟩
    rw [hx] at hl0
    have hx256 : x < 256 := by omega
    have hw8 := u8w x hx256
    have HBX : Hid (Value.int .u8 ((lr : Int) % 256) = B (UInt8.ofNat x)) := by
      show _ = _
      rw [show (lr : Int) % 256 = (x : Int) by omega]
      exact B_of x hx256
    obtain ⟨zs, hzs⟩ : ∃ zs : ByteArray, ⟨(lkTo N Bz M T N).toArray⟩ = zs := ⟨_, rfl⟩
    rw [hzs]
    have HZS := Lib.hid hzs
    have HL0 := Lib.hid hl0
    clear h hdm hd hlr hx hl0 hzs
    go_enter Tryz.func37, Tryz.ntmps37
    go_wp2_with fail
    refine HR.out.mono ?_
    rintro e w1 ⟨rfl, hy1⟩
    obtain ⟨X, hX⟩ : ∃ X, w1.alloc (.cells #[.int .u8 ((lr : Int) % 256), .int .u8 0] 5) = X := ⟨_, rfl⟩
    obtain ⟨z1, hz1⟩ : ∃ z1, w1.heap.size = z1 := ⟨_, rfl⟩
    have hXb : Below w1.heap.size w1 X := by rw [← hX]; exact (Below.refl _ _).alloc (Nat.le_refl _) _
    have hrd : Rd X (some ⟨z1, 0, none⟩) 2 2 [UInt8.ofNat x, 0] := by
      rw [← hX, ← hz1, HBX.out]
      exact two_rd w1 (UInt8.ofNat x) 0
    obtain ⟨s0, hs0⟩ : ∃ s0 : ByteArray, ⟨[UInt8.ofNat x, 0].toArray⟩ = s0 := ⟨_, rfl⟩
    have hst := string_rd X (some ⟨z1, 0, none⟩) 2 2 _ hrd
    rw [hs0] at hst
    have HY : Hid (SyB w0 X pp t q g s log N Bz M L T) := hy1.grow hXb
    have HS0 : Hid ((⟨(lkTo N Bz M T 0).toArray⟩ : ByteArray) = s0) := by show _ = _; rw [HL0.out]; exact hs0
    clear hy1 hrd hXb hs0
    go_wp2
    go_loopw [7, 8] (fun out i wr => ∃ (k : Nat) (o : ByteArray), k ≤ N ∧ i = .int .i64 k ∧ out = .string o ∧ (⟨(lkTo N Bz M T k).toArray⟩ : ByteArray) = o ∧ SyB w0 wr pp t q g s log N Bz M L T) (fun _ i _ => N - (RowKit.intOf i).toNat)
    case atStart => exact ⟨0, _, Nat.zero_le _, rfl, rfl, HS0.out, HY.out⟩
    case round =>
      obtain ⟨k, o, hk, rfl, rfl, ho, hy⟩ := hrel
      have HO := Lib.hid ho
      by_cases hlt : k < N
      · have HRD := bRead w0 wr pp t q g s log N Bz M L T hy (k : Int)
        have hans := read_ans N Bz M T (k : Int)
        have hrl := HRL.out k hlt
        have hll := HLEN.out k hk
        have hstep : lkTo N Bz M T (k + 1) = (lkTo N Bz M T k ++ [UInt8.ofNat (T.read N Bz M (k : Int)).2.toNat]) ++ (T.read N Bz M (k : Int)).1 := rfl
        obtain ⟨bs, e0, hre⟩ : ∃ x y, T.read N Bz M (k : Int) = (x, y) := ⟨_, _, rfl⟩
        rw [hre] at HRD hans hrl hstep
        obtain ⟨xs, hxs⟩ : ∃ xs, lkTo N Bz M T k = xs := ⟨_, rfl⟩
        rw [hxs] at hstep hll ho
        have hbl : bs.length ≤ 4096 := Nat.le_trans hrl hB
        have hxl : xs.length ≤ 10000000 := by
          have : k * (Bz + 1) ≤ 1000 * 4097 := Nat.mul_le_mul (by omega) (by omega)
          omega
        have HRD := Lib.hid HRD
        have HST := Lib.hid hstep
        clear hy hre hstep hxs hll hrl HS0 HY
        obtain ⟨y, he0, hy256⟩ : ∃ y : Nat, e0 = (y : Int) ∧ y < 2 := by
          rcases hans with h | h
          · exact ⟨0, h, by omega⟩
          · exact ⟨1, h, by omega⟩
        subst he0
        clear hans
        have hw8' := u8w y (by omega)
        have HBY := Lib.hid (B_of y (by omega))
        obtain ⟨o1, ho1⟩ : ∃ o1 : ByteArray, ⟨[UInt8.ofNat y].toArray⟩ = o1 := ⟨_, rfl⟩
        obtain ⟨o2, ho2⟩ : ∃ o2 : ByteArray, ⟨(xs ++ [UInt8.ofNat y]).toArray⟩ = o2 := ⟨_, rfl⟩
        obtain ⟨o3, ho3⟩ : ∃ o3 : ByteArray, ⟨bs.toArray⟩ = o3 := ⟨_, rfl⟩
        obtain ⟨o4, ho4⟩ : ∃ o4 : ByteArray, ⟨((xs ++ [UInt8.ofNat y]) ++ bs).toArray⟩ = o4 := ⟨_, rfl⟩
        have ha1 := add_strC xs [UInt8.ofNat y] o o1 o2 ho ho1 ho2 (by simp; omega)
        have ha2 := add_strC (xs ++ [UInt8.ofNat y]) bs o2 o3 o4 ho2 ho3 ho4 (by simp; omega)
        have HO1 := Lib.hid ho1
        have HO3 := Lib.hid ho3
        have HO4 : Hid ((⟨(lkTo N Bz M T (k + 1)).toArray⟩ : ByteArray) = o4) := by
          show _ = _
          rw [HST.out, show ((y : Int)).toNat = y by omega]
          exact ho4
        clear ho ho1 ho2 ho3 ho4
        go_wp2_with fail
        refine HRD.out.mono ?_
        rintro e w2 ⟨v, rfl, ⟨A, n, c, rfl, hr, _⟩, hy2⟩
        obtain ⟨X, hX⟩ : ∃ X, w2.alloc (.cells #[.int .u8 (y : Int)] 5) = X := ⟨_, rfl⟩
        obtain ⟨z2, hz2⟩ : ∃ z2, w2.heap.size = z2 := ⟨_, rfl⟩
        have hXb : Below w2.heap.size w2 X := by rw [← hX]; exact (Below.refl _ _).alloc (Nat.le_refl _) _
        have hrd1 : Rd X (some ⟨z2, 0, none⟩) 1 1 [UInt8.ofNat y] := by
          rw [← hX, ← hz2]
          exact one_rd w2 5 _ _ HBY.out
        have hst1 := string_rd X (some ⟨z2, 0, none⟩) 1 1 _ hrd1
        have hst2 := string_rd X A n c bs (hr.keep hXb)
        rw [HO1.out] at hst1
        rw [HO3.out] at hst2
        have HY2 : Hid (SyB w0 X pp t q g s log N Bz M L T) := hy2.grow hXb
        clear hr hrd1 hXb hy2 HRD
        go_wp2
        go_roundw
        case rel => exact ⟨k + 1, o4, by omega, by go_num, rfl, HO4.out, HY2.out⟩
        case measure => simp [RowKit.intOf]; omega
      · obtain rfl : k = N := by omega
        have HY2 := Lib.hid hy
        rw [HZS.out] at ho
        subst ho
        clear hy HY HS0 HO
        go_wp2
        go_ret
        exact ⟨rfl, HY2.out⟩
  · rw [hd] at HR
    simp only [if_true] at HR ⊢
    have HR := Lib.hid HR
    clear h hd hdm
    go_enter Tryz.func37, Tryz.ntmps37
    go_wp2_with fail
    refine HR.out.mono ?_
    rintro e w1 ⟨rfl, hy1⟩
    have HY2 := Lib.hid hy1
    clear hy1
    go_wp2
    go_ret
    exact ⟨rfl, HY2.out⟩
end Go.Proofs.YtephmcbofcfpmaaGreat

set_option maxRecDepth 8000
set_option linter.unusedVariables false
set_option linter.unusedSimpArgs false
namespace Go.Proofs.YtephmcbofcfpmaaGreat
open Go.RowKit Go.Bs Go.Dk Rp

/-- what one sees who begins now. -/
theorem look_any (w0 a : World) (pp q g : Nat) (s : S) (log N Bz M : Nat) (L : Nat → List UInt8) (h : SpB w0 a pp q g s log N Bz M L) (hN : N ≤ 1000) (hB : Bz ≤ 4096) :
    Calls Tryz.prog 36 #[.pointer (some ⟨pp, 0, none⟩), .int .i64 (N : Int)] a fun e b => e = .returned (.string ⟨(lkTo N Bz M (TX.new L) N).toArray⟩) ∧ ∃ t, SyB w0 b pp t q g s log N Bz M L (TX.new L) := by
  have HBG := Lib.hid (bBegin w0 a pp q g s log N Bz M L h)
  obtain ⟨T, hT⟩ : ∃ T, TX.new L = T := ⟨_, rfl⟩
  rw [hT] at HBG ⊢
  have hd : T.done = false := by rw [← hT]; rfl
  obtain ⟨zs, hzs⟩ : ∃ zs : ByteArray, ⟨(lkTo N Bz M T N).toArray⟩ = zs := ⟨_, rfl⟩
  rw [hzs]
  have HZS := Lib.hid hzs
  have HD := Lib.hid hd
  clear h hT hzs hd
  go_enter Tryz.func36, Tryz.ntmps36
  go_wp2_with fail
  refine HBG.out.mono ?_
  rintro e a1 ⟨t, rfl, hy0⟩
  have HR := bRoot w0 a1 pp t q g s log N Bz M L T hy0
  have hdm := hy0.dm
  unfold rootV at HR
  · rw [HD.out] at HR
    simp only [Bool.false_eq_true, if_false] at HR
    have hle := le32_bound hy0 HD.out
    have HLEN := Lib.hid (fun k hk => lkTo_len hdm k hk)
    have HRL := Lib.hid (fun k hk => read_lenT hdm k hk)
    have hl0 : lkTo N Bz M T 0 = [UInt8.ofNat (Rp.le32 (T.L M) % 256), 0] := rfl
    obtain ⟨lr, hlr⟩ : ∃ lr : Nat, Rp.le32 (T.L M) = lr := ⟨_, rfl⟩
    rw [hlr] at HR hle hl0
    have HR := Lib.hid HR
    obtain ⟨x, hx⟩ : ∃ x : Nat, lr % 256 = x := ⟨_, rfl⟩
    rw [hx] at hl0
    have hx256 : x < 256 := by omega
    have hw8 := u8w x hx256
    have HBX : Hid (Value.int .u8 ((lr : Int) % 256) = B (UInt8.ofNat x)) := by
      show _ = _
      rw [show (lr : Int) % 256 = (x : Int) by omega]
      exact B_of x hx256
    have HL0 := Lib.hid hl0
    clear hdm hlr hx hl0 hy0 HBG
    go_wp2_with fail
    refine HR.out.mono ?_
    rintro e w1 ⟨rfl, hy1⟩
    obtain ⟨X, hX⟩ : ∃ X, w1.alloc (.cells #[.int .u8 ((lr : Int) % 256), .int .u8 0] 5) = X := ⟨_, rfl⟩
    obtain ⟨z1, hz1⟩ : ∃ z1, w1.heap.size = z1 := ⟨_, rfl⟩
    have hXb : Below w1.heap.size w1 X := by rw [← hX]; exact (Below.refl _ _).alloc (Nat.le_refl _) _
    have hrd : Rd X (some ⟨z1, 0, none⟩) 2 2 [UInt8.ofNat x, 0] := by
      rw [← hX, ← hz1, HBX.out]
      exact two_rd w1 (UInt8.ofNat x) 0
    obtain ⟨s0, hs0⟩ : ∃ s0 : ByteArray, ⟨[UInt8.ofNat x, 0].toArray⟩ = s0 := ⟨_, rfl⟩
    have hst := string_rd X (some ⟨z1, 0, none⟩) 2 2 _ hrd
    rw [hs0] at hst
    have HY : Hid (SyB w0 X pp t q g s log N Bz M L T) := hy1.grow hXb
    have HS0 : Hid ((⟨(lkTo N Bz M T 0).toArray⟩ : ByteArray) = s0) := by show _ = _; rw [HL0.out]; exact hs0
    clear hy1 hrd hXb hs0
    go_wp2
    go_loopw [8, 9] (fun out i wr => ∃ (k : Nat) (o : ByteArray), k ≤ N ∧ i = .int .i64 k ∧ out = .string o ∧ (⟨(lkTo N Bz M T k).toArray⟩ : ByteArray) = o ∧ SyB w0 wr pp t q g s log N Bz M L T) (fun _ i _ => N - (RowKit.intOf i).toNat)
    case atStart => exact ⟨0, _, Nat.zero_le _, rfl, rfl, HS0.out, HY.out⟩
    case round =>
      obtain ⟨k, o, hk, rfl, rfl, ho, hy⟩ := hrel
      have HO := Lib.hid ho
      by_cases hlt : k < N
      · have HRD := bRead w0 wr pp t q g s log N Bz M L T hy (k : Int)
        have hans := read_ans N Bz M T (k : Int)
        have hrl := HRL.out k hlt
        have hll := HLEN.out k hk
        have hstep : lkTo N Bz M T (k + 1) = (lkTo N Bz M T k ++ [UInt8.ofNat (T.read N Bz M (k : Int)).2.toNat]) ++ (T.read N Bz M (k : Int)).1 := rfl
        obtain ⟨bs, e0, hre⟩ : ∃ x y, T.read N Bz M (k : Int) = (x, y) := ⟨_, _, rfl⟩
        rw [hre] at HRD hans hrl hstep
        obtain ⟨xs, hxs⟩ : ∃ xs, lkTo N Bz M T k = xs := ⟨_, rfl⟩
        rw [hxs] at hstep hll ho
        have hbl : bs.length ≤ 4096 := Nat.le_trans hrl hB
        have hxl : xs.length ≤ 10000000 := by
          have : k * (Bz + 1) ≤ 1000 * 4097 := Nat.mul_le_mul (by omega) (by omega)
          omega
        have HRD := Lib.hid HRD
        have HST := Lib.hid hstep
        clear hy hre hstep hxs hll hrl HS0 HY
        obtain ⟨y, he0, hy256⟩ : ∃ y : Nat, e0 = (y : Int) ∧ y < 2 := by
          rcases hans with h | h
          · exact ⟨0, h, by omega⟩
          · exact ⟨1, h, by omega⟩
        subst he0
        clear hans
        have hw8' := u8w y (by omega)
        have HBY := Lib.hid (B_of y (by omega))
        obtain ⟨o1, ho1⟩ : ∃ o1 : ByteArray, ⟨[UInt8.ofNat y].toArray⟩ = o1 := ⟨_, rfl⟩
        obtain ⟨o2, ho2⟩ : ∃ o2 : ByteArray, ⟨(xs ++ [UInt8.ofNat y]).toArray⟩ = o2 := ⟨_, rfl⟩
        obtain ⟨o3, ho3⟩ : ∃ o3 : ByteArray, ⟨bs.toArray⟩ = o3 := ⟨_, rfl⟩
        obtain ⟨o4, ho4⟩ : ∃ o4 : ByteArray, ⟨((xs ++ [UInt8.ofNat y]) ++ bs).toArray⟩ = o4 := ⟨_, rfl⟩
        have ha1 := add_strC xs [UInt8.ofNat y] o o1 o2 ho ho1 ho2 (by simp; omega)
        have ha2 := add_strC (xs ++ [UInt8.ofNat y]) bs o2 o3 o4 ho2 ho3 ho4 (by simp; omega)
        have HO1 := Lib.hid ho1
        have HO3 := Lib.hid ho3
        have HO4 : Hid ((⟨(lkTo N Bz M T (k + 1)).toArray⟩ : ByteArray) = o4) := by
          show _ = _
          rw [HST.out, show ((y : Int)).toNat = y by omega]
          exact ho4
        clear ho ho1 ho2 ho3 ho4
        go_wp2_with fail
        refine HRD.out.mono ?_
        rintro e w2 ⟨v, rfl, ⟨A, n, c, rfl, hr, _⟩, hy2⟩
        obtain ⟨X, hX⟩ : ∃ X, w2.alloc (.cells #[.int .u8 (y : Int)] 5) = X := ⟨_, rfl⟩
        obtain ⟨z2, hz2⟩ : ∃ z2, w2.heap.size = z2 := ⟨_, rfl⟩
        have hXb : Below w2.heap.size w2 X := by rw [← hX]; exact (Below.refl _ _).alloc (Nat.le_refl _) _
        have hrd1 : Rd X (some ⟨z2, 0, none⟩) 1 1 [UInt8.ofNat y] := by
          rw [← hX, ← hz2]
          exact one_rd w2 5 _ _ HBY.out
        have hst1 := string_rd X (some ⟨z2, 0, none⟩) 1 1 _ hrd1
        have hst2 := string_rd X A n c bs (hr.keep hXb)
        rw [HO1.out] at hst1
        rw [HO3.out] at hst2
        have HY2 : Hid (SyB w0 X pp t q g s log N Bz M L T) := hy2.grow hXb
        clear hr hrd1 hXb hy2 HRD
        go_wp2
        go_roundw
        case rel => exact ⟨k + 1, o4, by omega, by go_num, rfl, HO4.out, HY2.out⟩
        case measure => simp [RowKit.intOf]; omega
      · obtain rfl : k = N := by omega
        have HY2 := Lib.hid hy
        rw [HZS.out] at ho
        subst ho
        clear hy HY HS0 HO
        go_wp2
        go_ret
        exact ⟨rfl, t, HY2.out⟩
end Go.Proofs.YtephmcbofcfpmaaGreat

