/- Plain words on SHA-256: words as numbers. Conditions: none. -/
import Derived.Test.YtmimffbjghhdhaaDoorB2
namespace Go.Sha
open Go.Bs


def rotr (x n : Nat) : Nat := x / 2 ^ n + x % 2 ^ n * 2 ^ (32 - n)
def ch (e f g : Nat) : Nat := (e &&& f) ^^^ ((4294967295 - e) &&& g)
def maj (a b c : Nat) : Nat := (a &&& b) ^^^ (a &&& c) ^^^ (b &&& c)
def bs1 (e : Nat) : Nat := rotr e 6 ^^^ rotr e 11 ^^^ rotr e 25
def bs0 (a : Nat) : Nat := rotr a 2 ^^^ rotr a 13 ^^^ rotr a 22
def ss1 (x : Nat) : Nat := x / 1024 ^^^ rotr x 17 ^^^ rotr x 19
def ss0 (y : Nat) : Nat := y / 8 ^^^ rotr y 7 ^^^ rotr y 18
def wordN (bs : List UInt8) (i : Nat) : Nat := 16777216 * (bs.getD i 0).toNat + 65536 * (bs.getD (i + 1) 0).toNat + 256 * (bs.getD (i + 2) 0).toNat + (bs.getD (i + 3) 0).toNat

structure St where
  a : Nat
  b : Nat
  c : Nat
  d : Nat
  e : Nat
  f : Nat
  g : Nat
  h : Nat
  deriving DecidableEq

def St.l (s : St) : List Nat := [s.a, s.b, s.c, s.d, s.e, s.f, s.g, s.h]

def next (l : List Nat) (t : Nat) : Nat := (ss1 (l.getD (t - 2) 0) + l.getD (t - 7) 0 + ss0 (l.getD (t - 15) 0) + l.getD (t - 16) 0) % 4294967296
def sched (bs : List UInt8) : Nat → List Nat
  | 0 => []
  | t + 1 => sched bs t ++ [if t < 16 then wordN bs (4 * t) else next (sched bs t) t]

def fst (s : St) (kw : Nat) : Nat := (s.h + bs1 s.e + ch s.e s.f s.g + kw) % 4294967296
def snd (s : St) : Nat := (bs0 s.a + maj s.a s.b s.c) % 4294967296
def rnd (s : St) (kw : Nat) : St := ⟨(fst s kw + snd s) % 4294967296, s.a, s.b, s.c, (s.d + fst s kw) % 4294967296, s.e, s.f, s.g⟩

def KL : List Nat := [1116352408, 1899447441, 3049323471, 3921009573, 961987163, 1508970993, 2453635748, 2870763221, 3624381080, 310598401, 607225278, 1426881987, 1925078388, 2162078206, 2614888103, 3248222580, 3835390401, 4022224774, 264347078, 604807628, 770255983, 1249150122, 1555081692, 1996064986, 2554220882, 2821834349, 2952996808, 3210313671, 3336571891, 3584528711, 113926993, 338241895, 666307205, 773529912, 1294757372, 1396182291, 1695183700, 1986661051, 2177026350, 2456956037, 2730485921, 2820302411, 3259730800, 3345764771, 3516065817, 3600352804, 4094571909, 275423344, 430227734, 506948616, 659060556, 883997877, 958139571, 1322822218, 1537002063, 1747873779, 1955562222, 2024104815, 2227730452, 2361852424, 2428436474, 2756734187, 3204031479, 3329325298]

def rounds (l : List Nat) (s : St) : Nat → St
  | 0 => s
  | t + 1 => rnd (rounds l s t) ((KL.getD t 0 + l.getD t 0) % 4294967296)
def plus (s v : St) : St := ⟨(s.a + v.a) % 4294967296, (s.b + v.b) % 4294967296, (s.c + v.c) % 4294967296, (s.d + v.d) % 4294967296, (s.e + v.e) % 4294967296, (s.f + v.f) % 4294967296, (s.g + v.g) % 4294967296, (s.h + v.h) % 4294967296⟩
def mixS (s : St) (bs : List UInt8) : St := plus s (rounds (sched bs 64) s 64)
def start : St := ⟨1779033703, 3144134277, 1013904242, 2773480762, 1359893119, 2600822924, 528734635, 1541459225⟩
def blocks : Nat → St → List UInt8 → St
  | 0, s, _ => s
  | n + 1, s, bs => blocks n (mixS s (bs.take 64)) (bs.drop 64)
def be8 (x : Nat) : List UInt8 := (numB x).reverse
def noughts (n : Nat) : Nat := (119 - n % 64) % 64
def padB (n : Nat) : List UInt8 := 128 :: (zeros (noughts n) ++ be8 (8 * n))
def be4 (x : Nat) : List UInt8 := [UInt8.ofNat (x / 16777216), UInt8.ofNat (x / 65536), UInt8.ofNat (x / 256), UInt8.ofNat x]
def digB (s : St) : List UInt8 := be4 s.a ++ be4 s.b ++ be4 s.c ++ be4 s.d ++ be4 s.e ++ be4 s.f ++ be4 s.g ++ be4 s.h
/-- the state behind all whole blocks of bs. -/
def state (s : St) (bs : List UInt8) : St := blocks (bs.length / 64) s bs
def sumB (bs : List UInt8) : List UInt8 := digB (state start (bs ++ padB bs.length))

def St.ok (s : St) : Prop := s.a < 4294967296 ∧ s.b < 4294967296 ∧ s.c < 4294967296 ∧ s.d < 4294967296 ∧ s.e < 4294967296 ∧ s.f < 4294967296 ∧ s.g < 4294967296 ∧ s.h < 4294967296

theorem rotr_lt (x n : Nat) (hx : x < 4294967296) (hn : n ≤ 32) : rotr x n < 4294967296 := by
  unfold rotr
  have h1 : x / 2 ^ n < 2 ^ (32 - n) := by
    rw [Nat.div_lt_iff_lt_mul (Nat.two_pow_pos n), ← Nat.pow_add, Nat.sub_add_cancel hn]; exact hx
  have h2 : x % 2 ^ n < 2 ^ n := Nat.mod_lt _ (Nat.two_pow_pos n)
  have h3 : (x % 2 ^ n + 1) * 2 ^ (32 - n) ≤ 2 ^ n * 2 ^ (32 - n) := Nat.mul_le_mul_right _ h2
  rw [← Nat.pow_add, Nat.add_sub_cancel' hn, Nat.add_mul] at h3
  have : (2 : Nat) ^ 32 = 4294967296 := by decide
  omega
theorem xor_lt {a b : Nat} (ha : a < 4294967296) (hb : b < 4294967296) : a ^^^ b < 4294967296 := Nat.xor_lt_two_pow (n := 32) ha hb
theorem and_lt {a b : Nat} (hb : b < 4294967296) : a &&& b < 4294967296 := Nat.and_lt_two_pow (n := 32) _ hb
theorem and_lt' {a b : Nat} (ha : a < 4294967296) : a &&& b < 4294967296 := by rw [Nat.and_comm]; exact and_lt ha
theorem ch_lt {e f g : Nat} (hf : f < 4294967296) (hg : g < 4294967296) : ch e f g < 4294967296 := xor_lt (and_lt hf) (and_lt hg)
theorem maj_lt {a b c : Nat} (hb : b < 4294967296) (hc : c < 4294967296) : maj a b c < 4294967296 := xor_lt (xor_lt (and_lt hb) (and_lt hc)) (and_lt hc)
theorem bs1_lt {e : Nat} (h : e < 4294967296) : bs1 e < 4294967296 := xor_lt (xor_lt (rotr_lt _ _ h (by omega)) (rotr_lt _ _ h (by omega))) (rotr_lt _ _ h (by omega))
theorem bs0_lt {e : Nat} (h : e < 4294967296) : bs0 e < 4294967296 := xor_lt (xor_lt (rotr_lt _ _ h (by omega)) (rotr_lt _ _ h (by omega))) (rotr_lt _ _ h (by omega))
theorem div_lt' {x k : Nat} (h : x < 4294967296) : x / k < 4294967296 := Nat.lt_of_le_of_lt (Nat.div_le_self _ _) h
theorem ss1_lt {e : Nat} (h : e < 4294967296) : ss1 e < 4294967296 := xor_lt (xor_lt (div_lt' h) (rotr_lt _ _ h (by omega))) (rotr_lt _ _ h (by omega))
theorem ss0_lt {e : Nat} (h : e < 4294967296) : ss0 e < 4294967296 := xor_lt (xor_lt (div_lt' h) (rotr_lt _ _ h (by omega))) (rotr_lt _ _ h (by omega))
theorem mod_lt' (x : Nat) : x % 4294967296 < 4294967296 := Nat.mod_lt _ (by decide)
theorem wordN_lt (bs : List UInt8) (i : Nat) : wordN bs i < 4294967296 := by
  unfold wordN
  have h1 := (bs.getD i 0).toNat_lt
  have h2 := (bs.getD (i + 1) 0).toNat_lt
  have h3 := (bs.getD (i + 2) 0).toNat_lt
  have h4 := (bs.getD (i + 3) 0).toNat_lt
  omega
theorem sched_length (bs : List UInt8) : ∀ t, (sched bs t).length = t
  | 0 => rfl
  | t + 1 => by rw [sched, List.length_append, sched_length bs t]; rfl
theorem sched_lt (bs : List UInt8) : ∀ t, ∀ x ∈ sched bs t, x < 4294967296
  | 0, x, h => by cases h
  | t + 1, x, h => by
    rw [sched, List.mem_append] at h
    rcases h with h | h
    · exact sched_lt bs t x h
    · rw [List.mem_singleton] at h
      subst h
      split
      · exact wordN_lt _ _
      · exact mod_lt' _
theorem getD_lt {l : List Nat} (h : ∀ x ∈ l, x < 4294967296) (k : Nat) : l.getD k 0 < 4294967296 := by
  rcases Nat.lt_or_ge k l.length with hk | hk
  · have : l.getD k 0 = l[k] := by simp [List.getD, List.getElem?_eq_getElem hk]
    rw [this]; exact h _ (List.getElem_mem hk)
  · simp [List.getD, List.getElem?_eq_none hk]
theorem KL_lt : ∀ x ∈ KL, x < 4294967296 := by decide
theorem rnd_ok {s : St} (h : s.ok) (kw : Nat) : (rnd s kw).ok := by
  obtain ⟨ha, hb, hc, hd, he, hf, hg, hh⟩ := h
  exact ⟨mod_lt' _, ha, hb, hc, mod_lt' _, he, hf, hg⟩
theorem rounds_ok {l : List Nat} {s : St} (h : s.ok) : ∀ t, (rounds l s t).ok
  | 0 => h
  | t + 1 => rnd_ok (rounds_ok h t) _
theorem plus_ok (s v : St) : (plus s v).ok := ⟨mod_lt' _, mod_lt' _, mod_lt' _, mod_lt' _, mod_lt' _, mod_lt' _, mod_lt' _, mod_lt' _⟩
theorem mixS_ok (s : St) (bs : List UInt8) : (mixS s bs).ok := plus_ok _ _
theorem start_ok : start.ok := by unfold St.ok; decide
theorem blocks_ok : ∀ (n : Nat) {s : St} (bs : List UInt8), s.ok → (blocks n s bs).ok
  | 0, _, _, h => h
  | n + 1, _, _, _ => blocks_ok n _ (mixS_ok _ _)
theorem state_ok {s : St} (bs : List UInt8) (h : s.ok) : (state s bs).ok := blocks_ok _ _ h

theorem blocks_add : ∀ (n m : Nat) (s : St) (bs : List UInt8), blocks (n + m) s bs = blocks m (blocks n s bs) (bs.drop (64 * n))
  | 0, m, s, bs => by simp [blocks]
  | n + 1, m, s, bs => by
    rw [show n + 1 + m = (n + m) + 1 by omega, blocks, blocks_add n m, blocks, List.drop_drop]
    congr 2
    omega
theorem blocks_take : ∀ (n : Nat) (s : St) (bs cs : List UInt8), 64 * n ≤ bs.length → blocks n s (bs ++ cs) = blocks n s bs
  | 0, s, bs, cs, _ => rfl
  | n + 1, s, bs, cs, h => by
    rw [blocks, blocks, List.take_append_of_le_length (by omega), List.drop_append_of_le_length (by omega)]
    exact blocks_take n _ _ _ (by simp; omega)
/-- whole blocks ahead are mixed first. -/
theorem state_app (s : St) (bs cs : List UInt8) (k : Nat) (h : bs.length = 64 * k) : state s (bs ++ cs) = state (state s bs) cs := by
  unfold state
  rw [List.length_append, h, show (64 * k + cs.length) / 64 = k + cs.length / 64 by omega, blocks_add, blocks_take _ _ _ _ (by omega), List.drop_left' h, show 64 * k / 64 = k by omega]
theorem state_rest (s : St) (bs cs : List UInt8) : state s (bs ++ cs) = state (state s bs) (bs.drop (bs.length / 64 * 64) ++ cs) := by
  have e : bs = bs.take (bs.length / 64 * 64) ++ bs.drop (bs.length / 64 * 64) := (List.take_append_drop _ _).symm
  have hl : (bs.take (bs.length / 64 * 64)).length = 64 * (bs.length / 64) := by rw [List.length_take]; omega
  have h1 : state s bs = state s (bs.take (bs.length / 64 * 64)) := by
    conv => lhs; rw [e]
    rw [state_app _ _ _ _ hl]
    generalize state s (bs.take (bs.length / 64 * 64)) = s'
    unfold state
    rw [List.length_drop, show (bs.length - bs.length / 64 * 64) / 64 = 0 by omega]
    rfl
  rw [h1, ← state_app _ _ _ _ hl, ← List.append_assoc, ← e]
theorem padB_length (n : Nat) : (padB n).length = 9 + noughts n := by simp [padB, be8, numB_length, zeros_length]; omega
theorem pad_mod (n : Nat) : (n + (padB n).length) % 64 = 0 := by rw [padB_length]; unfold noughts; omega
theorem digB_length (s : St) : (digB s).length = 32 := rfl
theorem fst_def (a b c d e f g z x : Nat) : fst ⟨a, b, c, d, e, f, g, z⟩ x = (z + bs1 e + ch e f g + x) % 4294967296 := by unfold fst; simp only
theorem snd_def (a b c d e f g z : Nat) : snd ⟨a, b, c, d, e, f, g, z⟩ = (bs0 a + maj a b c) % 4294967296 := by unfold snd; simp only
theorem rnd_eq (a b c d e f g z x F G D A : Nat) (hF : (z + bs1 e + ch e f g + x) % 4294967296 = F) (hG : (bs0 a + maj a b c) % 4294967296 = G) (hD : (d + F) % 4294967296 = D) (hA : (F + G) % 4294967296 = A) :
    rnd ⟨a, b, c, d, e, f, g, z⟩ x = ⟨A, a, b, c, D, e, f, g⟩ := by
  unfold rnd
  rw [fst_def, snd_def, hF, hG]
  simp only
  rw [hD, hA]
end Go.Sha
