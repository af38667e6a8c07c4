/-
  Plain facts on SHA-256 over numbers: the words, the schedule, the rounds, the blocks, the filling up. Nothing of the program stands here.
-/
import Derived.Test.YtpdionmecflibaaDoorText
namespace Go.Proofs.YtpdionmecflibaaDoor.Mt

/-- A word turned round to the right. -/
def rr (n x : Nat) : Nat := (x * 2 ^ (32 - n)) % 4294967296 ||| x / 2 ^ n
theorem rr_lt (n x : Nat) (h : x < 4294967296) : rr n x < 4294967296 :=
  Nat.or_lt_two_pow (n := 32) (by omega) (Nat.lt_of_le_of_lt (Nat.div_le_self _ _) (by simpa using h))

structure W8 where
  (a b c d e f g h : Nat)

/-- All words are words. -/
def W8.Ok (v : W8) : Prop := v.a < 4294967296 ∧ v.b < 4294967296 ∧ v.c < 4294967296 ∧ v.d < 4294967296 ∧ v.e < 4294967296 ∧ v.f < 4294967296 ∧ v.g < 4294967296 ∧ v.h < 4294967296

def b1 (e : Nat) : Nat := rr 6 e ^^^ rr 11 e ^^^ rr 25 e
def b0 (a : Nat) : Nat := rr 2 a ^^^ rr 13 a ^^^ rr 22 a
def s0 (x : Nat) : Nat := rr 7 x ^^^ rr 18 x ^^^ x / 8
def s1 (x : Nat) : Nat := rr 17 x ^^^ rr 19 x ^^^ x / 1024
def ch (e f g : Nat) : Nat := (e &&& f) ^^^ ((4294967295 - e) &&& g)
def mj (a b c : Nat) : Nat := (a &&& b) ^^^ (a &&& c) ^^^ (b &&& c)
def low (v : W8) (s : Nat) : Nat := (v.h + b1 v.e + ch v.e v.f v.g + s) % 4294967296
def high (v : W8) : Nat := (b0 v.a + mj v.a v.b v.c) % 4294967296
def rnd (v : W8) (s : Nat) : W8 := ⟨(low v s + high v) % 4294967296, v.a, v.b, v.c, (v.d + low v s) % 4294967296, v.e, v.f, v.g⟩
def addW (v u : W8) : W8 := ⟨(v.a + u.a) % 4294967296, (v.b + u.b) % 4294967296, (v.c + u.c) % 4294967296, (v.d + u.d) % 4294967296, (v.e + u.e) % 4294967296, (v.f + u.f) % 4294967296, (v.g + u.g) % 4294967296, (v.h + u.h) % 4294967296⟩

theorem rnd_ok {v : W8} (h : v.Ok) (s : Nat) : (rnd v s).Ok := by
  obtain ⟨h1, h2, h3, h4, h5, h6, h7, h8⟩ := h
  exact ⟨Nat.mod_lt _ (by decide), h1, h2, h3, Nat.mod_lt _ (by decide), h5, h6, h7⟩
theorem addW_ok (v u : W8) : (addW v u).Ok := by
  refine ⟨?_, ?_, ?_, ?_, ?_, ?_, ?_, ?_⟩ <;> exact Nat.mod_lt _ (by decide)
theorem low_mod (v : W8) (s : Nat) : low v (s % 4294967296) = low v s := by unfold low; omega
theorem rnd_mod (v : W8) (s : Nat) : rnd v (s % 4294967296) = rnd v s := by unfold rnd; rw [low_mod]

def W8.list (v : W8) : List Nat := [v.a, v.b, v.c, v.d, v.e, v.f, v.g, v.h]
theorem W8.list_lt {v : W8} (h : v.Ok) : ∀ x ∈ v.list, x < 4294967296 := by
  obtain ⟨h1, h2, h3, h4, h5, h6, h7, h8⟩ := h
  intro x hx
  simp only [W8.list, List.mem_cons, List.not_mem_nil, or_false] at hx
  rcases hx with rfl | rfl | rfl | rfl | rfl | rfl | rfl | rfl <;> assumption

/-- The words as an array's cells. -/
def cells32 (l : List Nat) : Array Value := (l.map fun (x : Nat) => Value.int .u32 (x : Int)).toArray
theorem cells32_size (l : List Nat) : (cells32 l).size = l.length := by simp [cells32]
theorem cells32_get (l : List Nat) (i : Nat) (h : i < l.length) : (cells32 l)[i]? = some (.int .u32 ((l.getD i 0 : Nat) : Int)) := by
  simp [cells32, List.getD, List.getElem?_eq_getElem h]
theorem cells32_one (l : List Nat) : (cells32 l).all (·.oneCell') = true := by
  simp [cells32, Value.oneCell']
def W8.cells (v : W8) : Array Value := cells32 v.list
theorem W8.cells_size (v : W8) : v.cells.size = 8 := rfl

/-- The words, the first k of them added to. -/
def mixed (v u : W8) (k : Nat) : List Nat := (addW v u).list.take k ++ v.list.drop k
theorem mixed_length (v u : W8) (k : Nat) (hk : k ≤ 8) : (mixed v u k).length = 8 := by simp [mixed, W8.list]; omega
theorem mixed_step (v u : W8) (k : Nat) (hk : k < 8) : (cells32 (mixed v u k))[k]? = some (.int .u32 ((v.list.getD k 0 : Nat) : Int)) ∧
    (cells32 (mixed v u k)).setIfInBounds k (.int .u32 (((v.list.getD k 0 + u.list.getD k 0) % 4294967296 : Nat) : Int)) = cells32 (mixed v u (k + 1)) ∧ True := by
  match k, hk with
  | 0, _ => exact ⟨rfl, rfl, trivial⟩
  | 1, _ => exact ⟨rfl, rfl, trivial⟩
  | 2, _ => exact ⟨rfl, rfl, trivial⟩
  | 3, _ => exact ⟨rfl, rfl, trivial⟩
  | 4, _ => exact ⟨rfl, rfl, trivial⟩
  | 5, _ => exact ⟨rfl, rfl, trivial⟩
  | 6, _ => exact ⟨rfl, rfl, trivial⟩
  | 7, _ => exact ⟨rfl, rfl, trivial⟩

/-- One word of a block. -/
def be32 (l : List UInt8) (i : Nat) : Nat := (l.getD (4 * i) 0).toNat * 16777216 + (l.getD (4 * i + 1) 0).toNat * 65536 + (l.getD (4 * i + 2) 0).toNat * 256 + (l.getD (4 * i + 3) 0).toNat
theorem be32_lt (l : List UInt8) (i : Nat) : be32 l i < 4294967296 := by
  have h1 := (l.getD (4 * i) 0).toNat_lt
  have h2 := (l.getD (4 * i + 1) 0).toNat_lt
  have h3 := (l.getD (4 * i + 2) 0).toNat_lt
  have h4 := (l.getD (4 * i + 3) 0).toNat_lt
  unfold be32
  omega

def nextW (w : List Nat) (i : Nat) : Nat := (s1 (w.getD (i - 2) 0) + w.getD (i - 7) 0 + s0 (w.getD (i - 15) 0) + w.getD (i - 16) 0) % 4294967296
def newW (l : List UInt8) (w : List Nat) (k : Nat) : Nat := if k < 16 then be32 l k else nextW w k
def wl (l : List UInt8) : Nat → List Nat
  | 0 => []
  | k + 1 => wl l k ++ [newW l (wl l k) k]
theorem wl_length (l : List UInt8) : ∀ k, (wl l k).length = k
  | 0 => rfl
  | k + 1 => by simp [wl, wl_length l k]
theorem newW_lt (l : List UInt8) (w : List Nat) (k : Nat) : newW l w k < 4294967296 := by
  unfold newW
  split
  · exact be32_lt _ _
  · exact Nat.mod_lt _ (by decide)
theorem wl_lt (l : List UInt8) : ∀ k, ∀ x ∈ wl l k, x < 4294967296
  | 0 => by simp [wl]
  | k + 1 => by
    intro x hx
    simp only [wl, List.mem_append, List.mem_singleton] at hx
    rcases hx with hx | rfl
    · exact wl_lt l k x hx
    · exact newW_lt _ _ _
/-- The first j bytes of a word. -/
def part (l : List UInt8) (k : Nat) : Nat → Nat
  | 0 => 0
  | j + 1 => part l k j * 256 + (l.getD (4 * k + j) 0).toNat
theorem part_lt (l : List UInt8) (k : Nat) : ∀ j, part l k j < 256 ^ j
  | 0 => by simp [part]
  | j + 1 => by
    have h1 := part_lt l k j
    have h2 := (l.getD (4 * k + j) 0).toNat_lt
    rw [Nat.pow_succ]
    simp only [part]
    omega
theorem part_four (l : List UInt8) (k : Nat) : part l k 4 = be32 l k := by
  simp only [part, be32, Nat.add_zero]; omega
theorem part_or (x c : Nat) (hx : x < 16777216) (hc : c < 256) : bits .or .u32 ((x : Int) * 256 % 4294967296) ((c : Int) % 4294967296) = ((x * 256 + c : Nat) : Int) := by
  have e0 : (c : Int) % 4294967296 = (c : Int) := by omega
  rw [e0]
  have e : (x : Int) * 256 % 4294967296 = ((x * 256 : Nat) : Int) := by omega
  rw [e, u32_or_nat _ _ (by omega) (by omega)]
  congr 1
  have h := Nat.two_pow_add_eq_or_of_lt (i := 8) (b := c) (by simpa using hc) x
  have e2 : x * 256 = 2 ^ 8 * x := by omega
  rw [e2, h]

theorem cells32_at (A R : List Nat) (x : Nat) (n : Nat) (h : A.length = n) : (cells32 (A ++ x :: R))[n]? = some (.int .u32 (x : Int)) := by
  subst h
  simp [cells32]
theorem cells32_set (A R : List Nat) (x y : Nat) (n : Nat) (h : A.length = n) : (cells32 (A ++ x :: R)).setIfInBounds n (.int .u32 (y : Int)) = cells32 (A ++ y :: R) := by
  subst h
  apply Array.ext'
  simp [cells32]
theorem cells32_zero (n : Nat) : (Array.replicate n (Value.int .u32 0)) = cells32 (List.replicate n 0) := by
  apply Array.ext'
  simp [cells32]

theorem getD_lt {l : List Nat} (h : ∀ x ∈ l, x < 4294967296) (i : Nat) : l.getD i 0 < 4294967296 := by
  by_cases hi : i < l.length
  · simp only [List.getD, List.getElem?_eq_getElem hi, Option.getD_some]
    exact h _ (List.getElem_mem _)
  · simp [List.getD, List.getElem?_eq_none (show l.length ≤ i by omega)]
theorem wl_get (l : List UInt8) (i k : Nat) (h : i < k) : ∀ j, k ≤ j → (wl l j).getD i 0 = (wl l k).getD i 0 := by
  intro j hj
  induction j with
  | zero => omega
  | succ j ih =>
    rcases Nat.lt_or_ge k (j + 1) with h2 | h2
    · rw [← ih (by omega)]
      simp only [wl, List.getD]
      rw [List.getElem?_append_left (by rw [wl_length]; omega)]
    · obtain rfl : k = j + 1 := by omega
      rfl

/-- The words behind some of a block's rounds. -/
def runs (ks ws : List Nat) (v : W8) : Nat → W8
  | 0 => v
  | i + 1 => rnd (runs ks ws v i) (ks.getD i 0 + ws.getD i 0)
theorem runs_ok (ks ws : List Nat) {v : W8} (h : v.Ok) : ∀ i, (runs ks ws v i).Ok
  | 0 => h
  | i + 1 => rnd_ok (runs_ok ks ws h i) _

/-- The rounds' numbers, and the words of which nothing was turned into yet. -/
def K : List Nat := [
  0x428a2f98, 0x71374491, 0xb5c0fbcf, 0xe9b5dba5, 0x3956c25b, 0x59f111f1, 0x923f82a4, 0xab1c5ed5,
  0xd807aa98, 0x12835b01, 0x243185be, 0x550c7dc3, 0x72be5d74, 0x80deb1fe, 0x9bdc06a7, 0xc19bf174,
  0xe49b69c1, 0xefbe4786, 0x0fc19dc6, 0x240ca1cc, 0x2de92c6f, 0x4a7484aa, 0x5cb0a9dc, 0x76f988da,
  0x983e5152, 0xa831c66d, 0xb00327c8, 0xbf597fc7, 0xc6e00bf3, 0xd5a79147, 0x06ca6351, 0x14292967,
  0x27b70a85, 0x2e1b2138, 0x4d2c6dfc, 0x53380d13, 0x650a7354, 0x766a0abb, 0x81c2c92e, 0x92722c85,
  0xa2bfe8a1, 0xa81a664b, 0xc24b8b70, 0xc76c51a3, 0xd192e819, 0xd6990624, 0xf40e3585, 0x106aa070,
  0x19a4c116, 0x1e376c08, 0x2748774c, 0x34b0bcb5, 0x391c0cb3, 0x4ed8aa4a, 0x5b9cca4f, 0x682e6ff3,
  0x748f82ee, 0x78a5636f, 0x84c87814, 0x8cc70208, 0x90befffa, 0xa4506ceb, 0xbef9a3f7, 0xc67178f2]
def V0 : W8 := ⟨0x6a09e667, 0xbb67ae85, 0x3c6ef372, 0xa54ff53a, 0x510e527f, 0x9b05688c, 0x1f83d9ab, 0x5be0cd19⟩
theorem V0_ok : V0.Ok := by unfold V0 W8.Ok; decide
theorem K_lt : ∀ x ∈ K, x < 4294967296 := by decide
theorem K_length : K.length = 64 := rfl

/-- What a block makes of the words. -/
def comp (v : W8) (l : List UInt8) : W8 := addW v (runs K (wl l 64) v 64)
theorem comp_ok (v : W8) (l : List UInt8) : (comp v l).Ok := addW_ok _ _

/-- What the first n blocks make of the words. -/
def hb (v : W8) (l : List UInt8) : Nat → W8
  | 0 => v
  | n + 1 => comp (hb v l n) ((l.drop (64 * n)).take 64)
theorem hb_ok {v : W8} (h : v.Ok) (l : List UInt8) : ∀ n, (hb v l n).Ok
  | 0 => h
  | n + 1 => comp_ok _ _
theorem hb_append (v : W8) (l r : List UInt8) : ∀ n, 64 * n ≤ l.length → hb v (l ++ r) n = hb v l n
  | 0, _ => rfl
  | n + 1, h => by
    simp only [hb]
    rw [hb_append v l r n (by omega), List.drop_append_of_le_length (by omega), List.take_append_of_le_length (by rw [List.length_drop]; omega)]
theorem hb_split (v : W8) (l : List UInt8) (q : Nat) : ∀ j, hb v l (q + j) = hb (hb v l q) (l.drop (64 * q)) j
  | 0 => rfl
  | j + 1 => by
    show comp (hb v l (q + j)) _ = comp (hb (hb v l q) (l.drop (64 * q)) j) _
    rw [hb_split v l q j, List.drop_drop, show 64 * Nat.add q j = 64 * q + 64 * j from Nat.mul_add _ _ _]

/-- A number's bytes, the highest first. -/
def be8 (n : Nat) : Nat → List UInt8
  | 0 => []
  | k + 1 => UInt8.ofNat (n / 256 ^ k) :: be8 n k
theorem be8_length (n : Nat) : ∀ k, (be8 n k).length = k
  | 0 => rfl
  | k + 1 => by simp [be8, be8_length n k]

/-- How many noughts fill up. -/
def zs (n : Nat) : Nat := (119 - n % 64) % 64
/-- What stands behind a message of n bytes. -/
def pd (n : Nat) : List UInt8 := [128] ++ List.replicate (zs n) 0 ++ be8 (8 * n % 18446744073709551616) 8
theorem pd_length (n : Nat) : (pd n).length = zs n + 9 := by simp [pd, be8_length]
theorem pd_full (n : Nat) : (n + (pd n).length) % 64 = 0 := by rw [pd_length]; unfold zs; omega

/-- The words behind the whole message. -/
def fin (l : List UInt8) : W8 := hb V0 (l ++ pd l.length) ((l.length + (pd l.length).length) / 64)
def bytes4 (x : Nat) : List UInt8 := be8 x 4
def out (v : W8) : List UInt8 := v.list.flatMap bytes4
def sha (l : List UInt8) : List UInt8 := out (fin l)
theorem out_length (v : W8) : (out v).length = 32 := by simp [out, W8.list, bytes4, be8_length]
theorem sha_length (l : List UInt8) : (sha l).length = 32 := out_length _

/-- The words behind the whole blocks, and what is left. -/
def mid (l : List UInt8) : W8 := hb V0 l (l.length / 64)
def left (l : List UInt8) : List UInt8 := l.drop (64 * (l.length / 64))
theorem left_length (l : List UInt8) : (left l).length = l.length % 64 := by simp [left]; omega
theorem fin_mid (l : List UInt8) : fin l = hb (mid l) (left l ++ pd l.length) (((left l).length + (pd l.length).length) / 64) := by
  have h := pd_full l.length
  have e : (l.length + (pd l.length).length) / 64 = l.length / 64 + ((left l).length + (pd l.length).length) / 64 := by rw [left_length]; omega
  unfold fin mid left at *
  rw [e, hb_split, hb_append _ _ _ _ (by omega), List.drop_append_of_le_length (by omega)]

theorem mid_append (l r : List UInt8) (h : (left l).length + r.length < 64) : mid (l ++ r) = mid l ∧ left (l ++ r) = left l ++ r := by
  rw [left_length] at h
  have e : (l ++ r).length / 64 = l.length / 64 := by rw [List.length_append]; omega
  unfold mid left
  rw [e, hb_append _ _ _ _ (by omega), List.drop_append_of_le_length (by omega)]
  exact ⟨rfl, rfl⟩
theorem mid_full (l r : List UInt8) (h : (left l).length + r.length = 64) : mid (l ++ r) = comp (mid l) (left l ++ r) ∧ left (l ++ r) = [] := by
  rw [left_length] at h
  have e : (l ++ r).length / 64 = l.length / 64 + 1 := by rw [List.length_append]; omega
  unfold mid left
  rw [e]
  refine ⟨?_, ?_⟩
  · show comp (hb V0 (l ++ r) (l.length / 64)) _ = _
    rw [hb_append _ _ _ _ (by omega), List.drop_append_of_le_length (by omega), List.take_of_length_le (by simp; omega)]
  · exact List.drop_eq_nil_of_le (by rw [List.length_append]; omega)

end Go.Proofs.YtpdionmecflibaaDoor.Mt

/-
  The chapter's two examples, reckoned out.
-/
namespace Go.Proofs.YtpdionmecflibaaDoor.Mt

theorem sha_nil4 : (sha []).take 4 = [0xe3, 0xb0, 0xc4, 0x42] := by decide +kernel
theorem sha_abc4 : (sha [97, 98, 99]).take 4 = [0xba, 0x78, 0x16, 0xbf] := by decide +kernel
theorem str_take (l : List UInt8) (n : Nat) : (str l).extract 0 n = str (l.take n) := by
  apply ByteArray.ext
  rw [ByteArray.data_extract]
  simp [str]
theorem sha_size (l : List UInt8) : (str (sha l)).size = 32 := by rw [str_size, sha_length]
theorem sha_nil_str : (str (sha [])).extract 0 4 = ⟨#[227, 176, 196, 66]⟩ := by rw [str_take, sha_nil4]; rfl
theorem sha_abc_str : (str (sha [97, 98, 99])).extract 0 4 = ⟨#[186, 120, 22, 191]⟩ := by rw [str_take, sha_abc4]; rfl

end Go.Proofs.YtpdionmecflibaaDoor.Mt
