/-
  Some texts of one proof, one behind the other.
-/
import Derived.Below
import Derived.Test.YtnioagojiipjlaaGreatPk0

/-
  Plain facts on the sums by which one sees that bytes were turned. Nothing of the program stands here.
-/
namespace Go.Proofs.YtnioagojiipjlaaGreat.Mt

/-- One bit falls out of the register. -/
def sh1 (r : Nat) : Nat := if r % 2 = 1 then r / 2 ^^^ 3988292384 else r / 2
def sh : Nat → Nat → Nat
  | 0, r => r
  | k + 1, r => sh1 (sh k r)
/-- One byte. -/
def by1 (r : Nat) (c : UInt8) : Nat := sh 8 (r ^^^ c.toNat)
/-- Bytes, one behind the other. -/
def reg (r : Nat) (l : List UInt8) : Nat := l.foldl by1 r
def full : Nat := 4294967295
/-- The sum of bytes behind those of a sum. -/
def addS (sum : Nat) (l : List UInt8) : Nat := full - reg (full - sum) l

/-- Texts, one behind the other. -/
def cat (ss : List ByteArray) : List UInt8 := (ss.map fun p => p.data.toList).flatten
theorem cat_snoc (ss : List ByteArray) (k : Nat) (h : k < ss.length) : cat (ss.take (k + 1)) = cat (ss.take k) ++ ss[k].data.toList := by
  unfold cat
  rw [List.take_succ_eq_append_getElem h, List.map_append, List.flatten_append]
  congr 1; simp

theorem str_snoc (l : List UInt8) (p : ByteArray) : str l ++ p = str (l ++ p.data.toList) := by
  apply ByteArray.ext
  simp [str]

theorem sh1_lt {r : Nat} (h : r < 4294967296) : sh1 r < 4294967296 := by
  unfold sh1
  split
  · exact Nat.xor_lt_two_pow (n := 32) (by omega) (by omega)
  · omega
theorem sh_lt {r : Nat} (h : r < 4294967296) : ∀ k, sh k r < 4294967296
  | 0 => h
  | k + 1 => sh1_lt (sh_lt h k)
theorem xor_byte_lt {r : Nat} (h : r < 4294967296) (c : UInt8) : r ^^^ c.toNat < 4294967296 := by
  have := c.toNat_lt
  exact Nat.xor_lt_two_pow (n := 32) (by omega) (by omega)
theorem by1_lt {r : Nat} (h : r < 4294967296) (c : UInt8) : by1 r c < 4294967296 := sh_lt (xor_byte_lt h c) 8
theorem reg_lt {r : Nat} (h : r < 4294967296) : ∀ l, reg r l < 4294967296 := by
  intro l
  induction l generalizing r with
  | nil => exact h
  | cons c l ih => exact ih (by1_lt h c)
theorem reg_append (r : Nat) (a b : List UInt8) : reg r (a ++ b) = reg (reg r a) b := by simp [reg]
theorem reg_snoc (r : Nat) (a : List UInt8) (c : UInt8) : reg r (a ++ [c]) = by1 (reg r a) c := by simp [reg]

theorem addS_nil {sum : Nat} (h : sum < 4294967296) : addS sum [] = sum := by
  unfold addS reg full; simp only [List.foldl_nil]; omega
theorem addS_append {sum : Nat} (h : sum < 4294967296) (a b : List UInt8) : addS (addS sum a) b = addS sum (a ++ b) := by
  have hl := reg_lt (r := full - sum) (by unfold full; omega) a
  unfold addS
  rw [reg_append]
  congr 2
  unfold full at *; omega
theorem addS_lt (sum : Nat) (l : List UInt8) : addS sum l < 4294967296 := by unfold addS full; omega

theorem xor_zero_eq {a b : Nat} (h : a ^^^ b = 0) : a = b := by
  have h2 : a ^^^ b ^^^ b = b := by rw [h, Nat.zero_xor]
  rwa [Nat.xor_assoc, Nat.xor_self, Nat.xor_zero] at h2
theorem sh1_xor (a b : Nat) : sh1 (a ^^^ b) = sh1 a ^^^ sh1 b := by
  have hm : (a ^^^ b) % 2 = 1 ↔ ¬ (a % 2 = 1 ↔ b % 2 = 1) := Nat.xor_mod_two_eq_one
  have hd : (a ^^^ b) / 2 = a / 2 ^^^ b / 2 := Nat.xor_div_two
  unfold sh1
  rw [hd]
  generalize a / 2 = x
  generalize b / 2 = y
  generalize 3988292384 = p
  by_cases ha : a % 2 = 1
  · by_cases hb : b % 2 = 1
    · rw [if_neg (by rw [hm]; simp [ha, hb]), if_pos ha, if_pos hb]
      rw [Nat.xor_comm y p, Nat.xor_assoc, ← Nat.xor_assoc p p y, Nat.xor_self, Nat.zero_xor]
    · rw [if_pos (by rw [hm]; simp [ha, hb]), if_pos ha, if_neg hb, Nat.xor_assoc, Nat.xor_assoc, Nat.xor_comm y p]
  · by_cases hb : b % 2 = 1
    · rw [if_pos (by rw [hm]; simp [ha, hb]), if_neg ha, if_pos hb, Nat.xor_assoc]
    · rw [if_neg (by rw [hm]; simp [ha, hb]), if_neg ha, if_neg hb]
theorem sh_xor (a b : Nat) : ∀ k, sh k (a ^^^ b) = sh k a ^^^ sh k b
  | 0 => rfl
  | k + 1 => by simp only [sh]; rw [sh_xor a b k, sh1_xor]
theorem sh1_zero {a : Nat} (h : a < 4294967296) (h0 : sh1 a = 0) : a = 0 := by
  unfold sh1 at h0
  split at h0
  · have : a / 2 = 3988292384 := xor_zero_eq h0
    omega
  · omega
theorem sh_zero {a : Nat} (h : a < 4294967296) : ∀ k, sh k a = 0 → a = 0
  | 0, h0 => h0
  | k + 1, h0 => sh_zero h k (sh1_zero (sh_lt h k) h0)
theorem sh1_twice (x : Nat) : sh1 (2 * x) = x := by
  unfold sh1; rw [if_neg (by omega)]; omega
theorem sh_pow (x : Nat) : ∀ k, sh k (x * 2 ^ k) = x
  | 0 => by simp [sh]
  | k + 1 => by
    have e : x * 2 ^ (k + 1) = (2 * x) * 2 ^ k := by rw [Nat.pow_succ]; ac_rfl
    show sh1 (sh k (x * 2 ^ (k + 1))) = x
    rw [e, sh_pow (2 * x) k, sh1_twice]
theorem sh_sh (k : Nat) (a : Nat) : ∀ j, sh j (sh k a) = sh (k + j) a
  | 0 => rfl
  | j + 1 => by show sh1 (sh j (sh k a)) = sh1 (sh (k + j) a); rw [sh_sh k a j]

theorem by1_xor (r r' : Nat) (c c' : UInt8) : by1 r c ^^^ by1 r' c' = sh 8 ((r ^^^ r') ^^^ (c.toNat ^^^ c'.toNat)) := by
  unfold by1
  rw [← sh_xor]
  congr 1
  rw [Nat.xor_assoc, Nat.xor_assoc]
  congr 1
  rw [← Nat.xor_assoc, Nat.xor_comm c.toNat r', Nat.xor_assoc]

/-- Registers that differ differ behind the same bytes. -/
theorem reg_ne {r r' : Nat} (h : r < 4294967296) (h' : r' < 4294967296) (hne : r ≠ r') : ∀ l, reg r l ≠ reg r' l := by
  intro l
  induction l generalizing r r' with
  | nil => exact hne
  | cons c l ih =>
    refine ih (by1_lt h c) (by1_lt h' c) (fun he => hne ?_)
    have hx : by1 r c ^^^ by1 r' c = 0 := by rw [he, Nat.xor_self]
    rw [by1_xor, Nat.xor_self, Nat.xor_zero] at hx
    exact xor_zero_eq (sh_zero (Nat.xor_lt_two_pow (n := 32) (by omega) (by omega)) 8 hx)

/-- The i-th of the four bytes that are turned. -/
def tb (t i : Nat) : Nat := t / 2 ^ (8 * i) % 256

theorem mod_split (t k : Nat) : t % 2 ^ (k + 8) = t % 2 ^ k ^^^ (t / 2 ^ k % 256) * 2 ^ k := by
  apply Nat.eq_of_testBit_eq
  intro i
  have h256 : (256 : Nat) = 2 ^ 8 := by decide
  rw [Nat.testBit_xor, Nat.testBit_mod_two_pow, Nat.testBit_mod_two_pow, Nat.testBit_mul_two_pow, h256, Nat.testBit_mod_two_pow, Nat.testBit_div_two_pow]
  by_cases h1 : i < k
  · have h2 : ¬ k ≤ i := by omega
    have h3 : i < k + 8 := by omega
    simp [h1, h2, h3]
  · have h2 : k ≤ i := by omega
    have e : i - k + k = i := by omega
    by_cases h3 : i < k + 8
    · have h4 : i - k < 8 := by omega
      simp [h1, h2, h3, h4, e]
    · have h4 : ¬ i - k < 8 := by omega
      simp [h1, h2, h3, h4]

/-- What the registers differ by, behind i of the bytes that are turned. -/
theorem burst_step (t i : Nat) : sh 8 (sh (8 * i) (t % 2 ^ (8 * i)) ^^^ tb t i) = sh (8 * (i + 1)) (t % 2 ^ (8 * (i + 1))) := by
  have e : tb t i = sh (8 * i) (tb t i * 2 ^ (8 * i)) := (sh_pow _ _).symm
  rw [e, ← sh_xor, show 8 * (i + 1) = 8 * i + 8 by omega, mod_split t (8 * i), ← sh_sh]
  rfl

/-- Bytes turned by a number's four. -/
theorem reg_burst {r t : Nat} (ht : t < 4294967296) (h0 : t ≠ 0) (c0 c1 c2 c3 d0 d1 d2 d3 : UInt8)
    (h : d0.toNat = c0.toNat ^^^ tb t 0 ∧ d1.toNat = c1.toNat ^^^ tb t 1 ∧ d2.toNat = c2.toNat ^^^ tb t 2 ∧ d3.toNat = c3.toNat ^^^ tb t 3) :
    reg r [d0, d1, d2, d3] ≠ reg r [c0, c1, c2, c3] := by
  have hx : ∀ {c d : UInt8} {e : Nat}, d.toNat = c.toNat ^^^ e → d.toNat ^^^ c.toNat = e := fun {c d e} h => by
    rw [h, Nat.xor_comm c.toNat e, Nat.xor_assoc, Nat.xor_self, Nat.xor_zero]
  have key : reg r [d0, d1, d2, d3] ^^^ reg r [c0, c1, c2, c3] = sh 32 t := by
    show by1 (by1 (by1 (by1 r d0) d1) d2) d3 ^^^ by1 (by1 (by1 (by1 r c0) c1) c2) c3 = _
    have s0 : by1 r d0 ^^^ by1 r c0 = sh (8 * 1) (t % 2 ^ (8 * 1)) := by
      rw [by1_xor, Nat.xor_self, Nat.zero_xor, hx h.1, ← burst_step t 0]
      simp [sh, Nat.mod_one]
    have s1 : by1 (by1 r d0) d1 ^^^ by1 (by1 r c0) c1 = sh (8 * 2) (t % 2 ^ (8 * 2)) := by
      rw [by1_xor, s0, hx h.2.1, burst_step t 1]
    have s2 : by1 (by1 (by1 r d0) d1) d2 ^^^ by1 (by1 (by1 r c0) c1) c2 = sh (8 * 3) (t % 2 ^ (8 * 3)) := by
      rw [by1_xor, s1, hx h.2.2.1, burst_step t 2]
    rw [by1_xor, s2, hx h.2.2.2, burst_step t 3]
    have e : t % 2 ^ (8 * (3 + 1)) = t := Nat.mod_eq_of_lt (by simpa using ht)
    rw [e]
  intro he
  rw [he, Nat.xor_self] at key
  exact h0 (sh_zero ht 32 key.symm)

end Go.Proofs.YtnioagojiipjlaaGreat.Mt

/-
  Plain facts on disks: what lasts, what waits, what a loss of power leaves.
-/
namespace Go.Proofs.YtnioagojiipjlaaGreat.Mt

/-- A sector without bytes. -/
def blank : List UInt8 := List.replicate 128 0
theorem blank_length : blank.length = 128 := List.length_replicate

/-- A disk: what lasts, what waits, the limit, the power, the cut that is asked for. -/
structure Dk where
  lasts : List (List UInt8)
  waits : List (Option (List UInt8))
  room : Nat
  off : Bool
  cut : Nat
  keep : Nat
  torn : Int
  at' : Int

/-- A disk's numbers and lists are in form. -/
structure Dk.Ok (d : Dk) : Prop where
  len : d.waits.length = d.lasts.length
  most : d.lasts.length ≤ 8192
  lasts : ∀ i (h : i < d.lasts.length), (d.lasts[i]).length = 128
  waits : ∀ (i : Nat) b, d.waits[i]? = some (some b) → b.length = 128
  room : d.room ≤ d.lasts.length
  cut : d.cut ≤ 9223372036854775807
  keep : d.keep < 18446744073709551616
  torn : -9223372036854775808 ≤ d.torn ∧ d.torn ≤ 9223372036854775807
  at' : -9223372036854775808 ≤ d.at' ∧ d.at' ≤ 9223372036854775807

/-- How many bytes of a torn sector last. -/
def tornN (at' : Int) : Nat := at'.toNat % 129
/-- What lasts of a sector that waits, being the c-th that does. -/
def pick (keep : Nat) (torn at' : Int) (c : Nat) (a b : List UInt8) : List UInt8 :=
  if (c : Int) = torn then b.take (tornN at') ++ a.drop (tornN at') else if keep / 2 ^ (c % 64) % 2 = 1 then b else a
theorem pick_length (keep : Nat) (torn at' : Int) (c : Nat) (a b : List UInt8) (ha : a.length = 128) (hb : b.length = 128) : (pick keep torn at' c a b).length = 128 := by
  unfold pick
  split
  · rw [List.length_append, List.length_take, List.length_drop]; omega
  · split <;> assumption

/-- The sectors that have bytes that wait. -/
def wkeys (W : List (Option (List UInt8))) : List Nat := (List.range W.length).filter fun i => (W.getD i none).isSome

/-- A loss of power, sector by sector, of those that wait. -/
def loseK (keep : Nat) (torn at' : Int) (W : List (Option (List UInt8))) : Nat → List Nat → List (List UInt8) → List (List UInt8)
  | _, [], L => L
  | c, i :: r, L => loseK keep torn at' W (c + 1) r (L.set i (pick keep torn at' c (L.getD i []) ((W.getD i none).getD [])))

def loseAll (keep : Nat) (torn at' : Int) (W : List (Option (List UInt8))) (L : List (List UInt8)) : List (List UInt8) := loseK keep torn at' W 0 (wkeys W) L
def noWaits (n : Nat) : List (Option (List UInt8)) := List.replicate n none

def Dk.lose (d : Dk) (keep : Nat) (torn at' : Int) : Dk := { d with lasts := loseAll keep torn at' d.waits d.lasts, waits := noWaits d.lasts.length }
def Dk.on (d : Dk) : Dk := { d with off := false, cut := 0 }
def Dk.crash (d : Dk) (keep : Nat) (torn at' : Int) : Dk := (d.lose keep torn at').on
def Dk.cutAt (d : Dk) (n keep : Nat) (torn at' : Int) : Dk := { d with cut := n, keep := keep, torn := torn, at' := at' }
def Dk.limit (d : Dk) (n : Int) : Dk := { d with room := min n.toNat d.lasts.length }
def Dk.count (d : Dk) : Dk × Int :=
  if d.cut = 0 then (d, 0) else if d.cut = 1 then ({ ({ d with cut := 0 } : Dk).lose d.keep d.torn d.at' with off := true }, 10) else ({ d with cut := d.cut - 1 }, 0)
/-- What waits lasts. -/
def over (L : List (List UInt8)) (W : List (Option (List UInt8))) : List (List UInt8) := List.zipWith (fun a w => w.getD a) L W
def Dk.flushed (d : Dk) : Dk := { d with lasts := over d.lasts d.waits, waits := noWaits d.lasts.length }
/-- What keeps a sector from being read. -/
def Dk.ask (d : Dk) (i : Int) : Int := if d.off then 10 else if i < 0 ∨ d.lasts.length ≤ i then 2 else 0
def Dk.read (d : Dk) (i : Int) : List UInt8 × Int := if d.ask i = 0 then ((d.waits.getD i.toNat none).getD (d.lasts.getD i.toNat []), 0) else ([], d.ask i)
def Dk.write (d : Dk) (i : Int) (s : List UInt8) : Dk × Int :=
  if d.ask i = 0 then (if s.length = 128 then (if i < d.room then ({ d with waits := d.waits.set i.toNat (some s) } : Dk).count else (d, 11)) else (d, 2)) else (d, d.ask i)
def Dk.flush (d : Dk) : Dk × Int := if d.off then (d, 10) else if d.count.2 = 0 then (d.count.1.flushed, 0) else d.count
def Dk.new (n : Nat) : Dk := { lasts := List.replicate n blank, waits := noWaits n, room := n, off := false, cut := 0, keep := 0, torn := 0, at' := 0 }
def Dk.image (d : Dk) : List UInt8 := d.lasts.flatten
/-- The sectors that a text fills, as many as there are. -/
def layL : Nat → List UInt8 → List (List UInt8)
  | 0, _ => []
  | n + 1, s => (s.take 128 ++ List.replicate (128 - s.length) 0) :: layL n (s.drop 128)
def Dk.lay (d : Dk) (s : List UInt8) : Dk := { d with lasts := layL d.lasts.length s, waits := noWaits d.lasts.length }

theorem mem_wkeys {W : List (Option (List UInt8))} {i : Nat} : i ∈ wkeys W ↔ ∃ b, W[i]? = some (some b) := by
  unfold wkeys
  rw [List.mem_filter, List.mem_range]
  simp only [List.getD]
  constructor
  · rintro ⟨h, h2⟩
    rw [List.getElem?_eq_getElem h] at h2 ⊢
    simp only [Option.getD_some] at h2
    obtain ⟨b, hb⟩ := Option.isSome_iff_exists.1 h2
    exact ⟨b, by rw [hb]⟩
  · rintro ⟨b, hb⟩
    have h : i < W.length := by
      rcases Nat.lt_or_ge i W.length with h | h
      · exact h
      · rw [List.getElem?_eq_none h] at hb; cases hb
    refine ⟨h, ?_⟩
    rw [hb]; rfl
theorem wkeys_nodup (W : List (Option (List UInt8))) : (wkeys W).Nodup := List.nodup_range.filter _
theorem wkeys_sorted (W : List (Option (List UInt8))) : (wkeys W).Pairwise (· < ·) := List.pairwise_lt_range.filter _
theorem wkeys_length (W : List (Option (List UInt8))) : (wkeys W).length ≤ W.length := by
  have h := List.length_filter_le (fun i => (W.getD i none).isSome) (List.range W.length)
  rw [List.length_range] at h
  exact h
theorem loseK_length (keep : Nat) (torn at' : Int) (W : List (Option (List UInt8))) : ∀ (r : List Nat) (c : Nat) (L : List (List UInt8)), (loseK keep torn at' W c r L).length = L.length
  | [], _, _ => rfl
  | i :: r, c, L => by rw [loseK, loseK_length keep torn at' W r, List.length_set]
theorem loseK_append (keep : Nat) (torn at' : Int) (W : List (Option (List UInt8))) : ∀ (r s : List Nat) (c : Nat) (L : List (List UInt8)), loseK keep torn at' W c (r ++ s) L = loseK keep torn at' W (c + r.length) s (loseK keep torn at' W c r L)
  | [], _, _, _ => rfl
  | i :: r, s, c, L => by
    rw [List.cons_append, loseK, loseK_append keep torn at' W r s, loseK, List.length_cons, Nat.add_assoc, Nat.add_comm 1]
theorem loseK_secs (keep : Nat) (torn at' : Int) (W : List (Option (List UInt8))) (hW : ∀ (i : Nat) b, W[i]? = some (some b) → b.length = 128) :
    ∀ (r : List Nat) (c : Nat) (L : List (List UInt8)), (∀ i ∈ r, i < L.length ∧ ∃ b, W[i]? = some (some b)) → (∀ i (h : i < L.length), (L[i]).length = 128) → ∀ i (h : i < (loseK keep torn at' W c r L).length), ((loseK keep torn at' W c r L)[i]).length = 128
  | [], _, _, _, hL => hL
  | j :: r, c, L, hr, hL => by
    refine loseK_secs keep torn at' W hW r (c + 1) _ (fun i hi => ?_) (fun i hi => ?_)
    · rw [List.length_set]; exact hr i (List.mem_cons_of_mem _ hi)
    · rw [List.getElem_set]
      split
      · obtain ⟨hj, b, hb⟩ := hr j (List.mem_cons_self ..)
        have e1 : L.getD j [] = L[j] := by simp [List.getD, List.getElem?_eq_getElem hj]
        have e2 : (W.getD j none).getD [] = b := by simp [List.getD, hb]
        rw [e1, e2]
        exact pick_length _ _ _ _ _ _ (hL j hj) (hW j b hb)
      · exact hL i (by rw [List.length_set] at hi; exact hi)
theorem over_length (L : List (List UInt8)) (W : List (Option (List UInt8))) (h : W.length = L.length) : (over L W).length = L.length := by
  unfold over; rw [List.length_zipWith, h, Nat.min_self]
theorem layL_length : ∀ (n : Nat) (s : List UInt8), (layL n s).length = n
  | 0, _ => rfl
  | n + 1, s => by rw [layL, List.length_cons, layL_length n]
theorem layL_secs : ∀ (n : Nat) (s : List UInt8), ∀ a ∈ layL n s, a.length = 128
  | 0, _, _, h => by cases h
  | n + 1, s, a, h => by
    rw [layL, List.mem_cons] at h
    rcases h with rfl | h
    · rw [List.length_append, List.length_take, List.length_replicate]; omega
    · exact layL_secs n _ a h

theorem noWaits_none {n : Nat} {i : Nat} {b : List UInt8} : (noWaits n)[i]? ≠ some (some b) := by
  unfold noWaits
  intro h
  rw [List.getElem?_replicate] at h
  split at h <;> cases h
theorem wkeys_none (n : Nat) : wkeys (noWaits n) = [] := by
  apply List.eq_nil_iff_forall_not_mem.2
  intro i hi
  obtain ⟨b, hb⟩ := mem_wkeys.1 hi
  exact noWaits_none hb

theorem Dk.Ok.clean {d : Dk} (h : d.Ok) (L : List (List UInt8)) (hl : L.length = d.lasts.length) (hs : ∀ i (h : i < L.length), (L[i]).length = 128) : ({ d with lasts := L, waits := noWaits d.lasts.length } : Dk).Ok :=
  ⟨by show (noWaits _).length = L.length; rw [hl]; exact List.length_replicate, by show L.length ≤ 8192; rw [hl]; exact h.most, hs, fun i b hb => absurd hb noWaits_none, by show d.room ≤ L.length; rw [hl]; exact h.room, h.cut, h.keep, h.torn, h.at'⟩
theorem Dk.Ok.keys {d : Dk} (h : d.Ok) : ∀ i ∈ wkeys d.waits, i < d.lasts.length ∧ ∃ b, d.waits[i]? = some (some b) := fun i hi => by
  obtain ⟨b, hb⟩ := mem_wkeys.1 hi
  refine ⟨?_, b, hb⟩
  rw [← h.len]
  rcases Nat.lt_or_ge i d.waits.length with h | h
  · exact h
  · rw [List.getElem?_eq_none h] at hb; cases hb
theorem Dk.Ok.lose {d : Dk} (h : d.Ok) (keep : Nat) (torn at' : Int) : (d.lose keep torn at').Ok :=
  h.clean _ (loseK_length ..) (loseK_secs keep torn at' d.waits h.waits _ _ _ h.keys h.lasts)
theorem Dk.Ok.flushed {d : Dk} (h : d.Ok) : d.flushed.Ok := by
  refine h.clean _ (over_length _ _ h.len) (fun i hi => ?_)
  have hi' := hi
  rw [over_length _ _ h.len] at hi'
  simp only [over, List.getElem_zipWith]
  replace hi := hi'
  cases hw : d.waits[i]'(by rw [h.len]; exact hi) with
  | none => exact h.lasts i hi
  | some b => exact h.waits i b (by rw [List.getElem?_eq_getElem (by rw [h.len]; exact hi), hw])
theorem Dk.Ok.lay {d : Dk} (h : d.Ok) (s : List UInt8) : (d.lay s).Ok := h.clean _ (layL_length ..) (fun _ hi => layL_secs _ s _ (List.getElem_mem hi))
theorem Dk.Ok.on {d : Dk} (h : d.Ok) : d.on.Ok := ⟨h.len, h.most, h.lasts, h.waits, h.room, by show (0 : Nat) ≤ _; omega, h.keep, h.torn, h.at'⟩
theorem Dk.Ok.crash {d : Dk} (h : d.Ok) (keep : Nat) (torn at' : Int) : (d.crash keep torn at').Ok := (h.lose keep torn at').on
theorem Dk.Ok.limit {d : Dk} (h : d.Ok) (n : Int) : (d.limit n).Ok := ⟨h.len, h.most, h.lasts, h.waits, Nat.min_le_right _ _, h.cut, h.keep, h.torn, h.at'⟩
theorem Dk.Ok.setCut {d : Dk} (h : d.Ok) (n : Nat) (hn : n ≤ 9223372036854775807) : ({ d with cut := n } : Dk).Ok := ⟨h.len, h.most, h.lasts, h.waits, h.room, hn, h.keep, h.torn, h.at'⟩
theorem Dk.Ok.setOff {d : Dk} (h : d.Ok) (b : Bool) : ({ d with off := b } : Dk).Ok := ⟨h.len, h.most, h.lasts, h.waits, h.room, h.cut, h.keep, h.torn, h.at'⟩
theorem Dk.Ok.count {d : Dk} (h : d.Ok) : d.count.1.Ok := by
  unfold Dk.count
  split
  · exact h
  · split
    · exact ((h.setCut 0 (by omega)).lose _ _ _).setOff true
    · exact h.setCut _ (by have := h.cut; omega)
theorem Dk.Ok.wait {d : Dk} (h : d.Ok) (i : Nat) (s : List UInt8) (hs : s.length = 128) : ({ d with waits := d.waits.set i (some s) } : Dk).Ok :=
  ⟨by show (d.waits.set _ _).length = _; rw [List.length_set]; exact h.len, h.most, h.lasts, fun j b hb => by
    have hb' : (d.waits.set i (some s))[j]? = some (some b) := hb
    rw [List.getElem?_set] at hb'
    split at hb'
    · split at hb'
      · cases hb'; exact hs
      · cases hb'
    · exact h.waits j b hb', h.room, h.cut, h.keep, h.torn, h.at'⟩
theorem Dk.Ok.write {d : Dk} (h : d.Ok) (i : Int) (s : List UInt8) : (d.write i s).1.Ok := by
  unfold Dk.write
  split
  · split
    · split
      · exact (h.wait _ _ (by assumption)).count
      · exact h
    · exact h
  · exact h
theorem Dk.Ok.flush {d : Dk} (h : d.Ok) : d.flush.1.Ok := by
  unfold Dk.flush
  split
  · exact h
  · split
    · exact h.count.flushed
    · exact h.count
theorem Dk.ok_new (n : Nat) (h : n ≤ 8192) : (Dk.new n).Ok :=
  ⟨by simp [Dk.new, noWaits], by simpa [Dk.new] using h, fun i hi => by simp [Dk.new, blank], fun i b hb => absurd hb noWaits_none, by simp [Dk.new], by simp [Dk.new], by simp [Dk.new], by simp [Dk.new], by simp [Dk.new]⟩
theorem Dk.image_length {d : Dk} (h : d.Ok) : d.image.length = 128 * d.lasts.length := by
  unfold Dk.image
  have : ∀ L : List (List UInt8), (∀ i (h : i < L.length), (L[i]).length = 128) → L.flatten.length = 128 * L.length := by
    intro L
    induction L with
    | nil => intro _; rfl
    | cons a r ih =>
      intro hL
      rw [List.flatten_cons, List.length_append, List.length_cons, ih (fun i hi => hL (i + 1) (by simpa using hi)), show a.length = 128 from hL 0 (by simp)]
      omega
  exact this _ h.lasts

end Go.Proofs.YtnioagojiipjlaaGreat.Mt

/-
  Plain facts on journals: cells, heads, records, what is written. Nothing of the program stands here.
-/
namespace Go.Proofs.YtnioagojiipjlaaGreat.Mt

/-- The bytes of a number, the highest first. -/
def bb (n k : Nat) : List UInt8 := (strOfNums (be n k)).data.toList
theorem bb_length (n k : Nat) : (bb n k).length = k := by unfold bb; rw [strOfNums_data, List.length_map, be_length]
theorem bb_str (n k : Nat) : strOfNums (be n k) = str (bb n k) := rfl
theorem gn_at (A B : List UInt8) (n k a : Nat) (ha : A.length = a) (h : n < 256 ^ k) : gn (A ++ (bb n k ++ B)) a k = n := by
  subst ha
  have := gn_be A B n k k (Nat.le_refl _)
  rw [Nat.sub_self, Nat.pow_zero, Nat.div_one, Nat.mod_eq_of_lt h] at this
  rw [← List.append_assoc]
  exact this

/-- What a cell says. -/
structure Cl where
  gen : Nat
  number : Nat
  part : Nat
  parts : Nat
  body : List UInt8

/-- A sector's bytes: the sum ahead, noughts behind. -/
def filled (s : List UInt8) : List UInt8 := s ++ List.replicate (124 - s.length) 0
def sealL (s : List UInt8) : List UInt8 := bb (addS 0 (filled s)) 4 ++ filled s
theorem filled_length (s : List UInt8) (h : s.length ≤ 124) : (filled s).length = 124 := by unfold filled; rw [List.length_append, List.length_replicate]; omega
theorem sealL_length (s : List UInt8) (h : s.length ≤ 124) : (sealL s).length = 128 := by unfold sealL; rw [List.length_append, bb_length, filled_length s h]
def Cl.front (c : Cl) : List UInt8 := [67] ++ (bb c.gen 4 ++ (bb c.number 4 ++ (bb c.part 2 ++ (bb c.parts 2 ++ (bb c.body.length 1 ++ c.body)))))
theorem Cl.front_length (c : Cl) : c.front.length = 14 + c.body.length := by
  simp only [Cl.front, List.length_cons, List.length_append, bb_length, List.length_nil]; omega
def Cl.sector (c : Cl) : List UInt8 := sealL c.front
def Cl.zero : Cl := ⟨0, 0, 0, 0, []⟩
def Cl.sound (c : Cl) : Bool :=
  if c.gen = 0 ∨ c.parts ≤ c.part then false else if c.part + 1 < c.parts then decide (c.body.length = 110) else (decide (0 < c.body.length) || decide (c.parts = 1))
/-- What a sector says, if it is a cell. -/
def cl0 (s : List UInt8) : Cl := ⟨gn s 5 4, gn s 9 4, gn s 13 2, gn s 15 2, (s.drop 18).take (gn s 17 1)⟩
def isCl (s : List UInt8) : Prop := s.length = 128 ∧ s.getD 4 0 = 67 ∧ gn s 17 1 ≤ 110 ∧ (cl0 s).sound = true ∧ (cl0 s).sector = s
instance (s : List UInt8) : Decidable (isCl s) := by unfold isCl; infer_instance
def rdCell (s : List UInt8) : Cl := if isCl s then cl0 s else Cl.zero
/-- A cell whose numbers have room. -/
structure Cl.Fits (c : Cl) : Prop where
  gen : c.gen < 4294967296
  number : c.number < 4294967296
  part : c.part < 65536
  parts : c.parts < 65536
  body : c.body.length ≤ 110
theorem Cl.sector_length {c : Cl} (h : c.body.length ≤ 110) : c.sector.length = 128 := sealL_length _ (by rw [Cl.front_length]; omega)
theorem Cl.sector_split (c : Cl) : ∃ S Z : List UInt8, S.length = 4 ∧ c.sector = S ++ ([67] ++ (bb c.gen 4 ++ (bb c.number 4 ++ (bb c.part 2 ++ (bb c.parts 2 ++ (bb c.body.length 1 ++ (c.body ++ Z))))))) := by
  refine ⟨bb (addS 0 (filled c.front)) 4, List.replicate (124 - c.front.length) 0, bb_length _ _, ?_⟩
  show bb _ 4 ++ (c.front ++ List.replicate (124 - c.front.length) 0) = _
  generalize List.replicate (124 - c.front.length) (0 : UInt8) = Z
  generalize bb (addS 0 (filled c.front)) 4 = S
  simp only [Cl.front, List.append_assoc]
theorem cl0_sector {c : Cl} (h : c.Fits) : cl0 c.sector = c := by
  obtain ⟨S, Z, hS, hs⟩ := c.sector_split
  obtain ⟨g, n, p, q, b⟩ := c
  obtain ⟨h1, h2, h3, h4, h5⟩ := h
  simp only at *
  rw [hs]
  have hl : b.length < 256 ^ 1 := by omega
  have e1 := gn_at (S ++ [67]) (bb n 4 ++ (bb p 2 ++ (bb q 2 ++ (bb b.length 1 ++ (b ++ Z))))) g 4 5 (by simp [hS]) (by simpa using h1)
  have e2 := gn_at (S ++ ([67] ++ bb g 4)) (bb p 2 ++ (bb q 2 ++ (bb b.length 1 ++ (b ++ Z)))) n 4 9 (by simp [hS, bb_length]) (by simpa using h2)
  have e3 := gn_at (S ++ ([67] ++ (bb g 4 ++ bb n 4))) (bb q 2 ++ (bb b.length 1 ++ (b ++ Z))) p 2 13 (by simp [hS, bb_length]) (by simpa using h3)
  have e4 := gn_at (S ++ ([67] ++ (bb g 4 ++ (bb n 4 ++ bb p 2)))) (bb b.length 1 ++ (b ++ Z)) q 2 15 (by simp [hS, bb_length]) (by simpa using h4)
  have e5 := gn_at (S ++ ([67] ++ (bb g 4 ++ (bb n 4 ++ (bb p 2 ++ bb q 2))))) (b ++ Z) b.length 1 17 (by simp [hS, bb_length]) hl
  have e6 : (S ++ ([67] ++ (bb g 4 ++ (bb n 4 ++ (bb p 2 ++ (bb q 2 ++ (bb b.length 1 ++ (b ++ Z)))))))).drop 18 = b ++ Z := by
    have e : (S ++ ([67] ++ (bb g 4 ++ (bb n 4 ++ (bb p 2 ++ (bb q 2 ++ (bb b.length 1 ++ (b ++ Z)))))))) = (S ++ ([67] ++ (bb g 4 ++ (bb n 4 ++ (bb p 2 ++ (bb q 2 ++ bb b.length 1)))))) ++ (b ++ Z) := by simp only [List.append_assoc]
    rw [e]
    exact List.drop_left' (by simp [hS, bb_length])
  simp only [List.append_assoc] at e1 e2 e3 e4 e5
  unfold cl0
  rw [e1, e2, e3, e4, e5, e6, List.take_left]
theorem mark_sector (c : Cl) : c.sector.getD 4 0 = 67 := by
  obtain ⟨S, Z, hS, hs⟩ := c.sector_split
  rw [hs, List.getD_eq_getElem?_getD, List.getElem?_append_right (by omega), hS]
  rfl
theorem gn17_sector {c : Cl} (h : c.Fits) : gn c.sector 17 1 = c.body.length := by
  obtain ⟨S, Z, hS, hs⟩ := c.sector_split
  have hl : c.body.length < 256 ^ 1 := by have := h.body; omega
  have e5 := gn_at (S ++ ([67] ++ (bb c.gen 4 ++ (bb c.number 4 ++ (bb c.part 2 ++ bb c.parts 2))))) (c.body ++ Z) c.body.length 1 17 (by simp [hS, bb_length]) hl
  simp only [List.append_assoc] at e5
  rw [hs, e5]
/-- A cell is read as it was written. -/
theorem rdCell_sector {c : Cl} (h : c.Fits) (hs : c.sound = true) : rdCell c.sector = c := by
  have h0 := cl0_sector h
  unfold rdCell
  rw [if_pos]
  · exact h0
  · refine ⟨c.sector_length h.body, mark_sector c, by rw [gn17_sector h]; exact h.body, ?_, ?_⟩ <;> rw [h0]
    exact hs
theorem rdCell_mark {s : List UInt8} (h : s.getD 4 0 ≠ 67) : rdCell s = Cl.zero := by
  unfold rdCell
  rw [if_neg (fun hc => h hc.2.1)]
theorem rdCell_gen (s : List UInt8) : (rdCell s).gen < 4294967296 := by
  unfold rdCell
  split
  · have := gn_lt s 5 4
    show gn s 5 4 < _
    omega
  · show 0 < 4294967296; omega

/-- A head's bytes, and what a sector says, if it is one. -/
def hdSector (gen half : Nat) : List UInt8 := sealL ([72] ++ (bb gen 4 ++ bb half 1))
def isHd (s : List UInt8) : Prop := s.length = 128 ∧ s.getD 4 0 = 72 ∧ gn s 5 4 ≠ 0 ∧ gn s 9 1 ≤ 1 ∧ hdSector (gn s 5 4) (gn s 9 1) = s
instance (s : List UInt8) : Decidable (isHd s) := by unfold isHd; infer_instance
def rdHead (s : List UInt8) : Nat × Nat := if isHd s then (gn s 5 4, gn s 9 1) else (0, 0)
theorem hdSector_length (gen half : Nat) : (hdSector gen half).length = 128 := sealL_length _ (by simp [bb_length])
theorem hdSector_split (gen half : Nat) : ∃ S Z : List UInt8, S.length = 4 ∧ hdSector gen half = S ++ ([72] ++ (bb gen 4 ++ (bb half 1 ++ Z))) := by
  refine ⟨bb (addS 0 (filled ([72] ++ (bb gen 4 ++ bb half 1)))) 4, List.replicate (124 - ([72] ++ (bb gen 4 ++ bb half 1)).length) 0, bb_length _ _, ?_⟩
  show bb _ 4 ++ (_ ++ List.replicate _ 0) = _
  simp only [List.append_assoc]
theorem rdHead_sector {gen half : Nat} (h0 : 0 < gen) (h1 : gen < 4294967296) (h2 : half ≤ 1) : rdHead (hdSector gen half) = (gen, half) := by
  obtain ⟨S, Z, hS, hs⟩ := hdSector_split gen half
  have e1 := gn_at (S ++ [72]) (bb half 1 ++ Z) gen 4 5 (by simp [hS]) (by simpa using h1)
  have e2 := gn_at (S ++ ([72] ++ bb gen 4)) Z half 1 9 (by simp [hS, bb_length]) (by omega)
  simp only [List.append_assoc] at e1 e2
  rw [← hs] at e1 e2
  have hm : (hdSector gen half).getD 4 0 = 72 := by rw [hs, List.getD_eq_getElem?_getD, List.getElem?_append_right (by omega), hS]; rfl
  unfold rdHead
  rw [if_pos ⟨hdSector_length _ _, hm, by rw [e1]; omega, by rw [e2]; exact h2, by rw [e1, e2]⟩, e1, e2]
theorem rdHead_mark {s : List UInt8} (h : s.getD 4 0 ≠ 72) : rdHead s = (0, 0) := by
  unfold rdHead
  rw [if_neg (fun hc => h hc.2.1)]
theorem rdHead_gen (s : List UInt8) : (rdHead s).1 < 4294967296 ∧ (rdHead s).2 ≤ 1 := by
  unfold rdHead
  split
  · rename_i h
    have := gn_lt s 5 4
    exact ⟨by show gn s 5 4 < _; omega, h.2.2.2.1⟩
  · exact ⟨by show 0 < 4294967296; omega, by show 0 ≤ 1; omega⟩
theorem mark_blank : blank.getD 4 0 = 0 := rfl
theorem mark_head (gen half : Nat) : (hdSector gen half).getD 4 0 = 72 := by
  obtain ⟨S, Z, hS, hs⟩ := hdSector_split gen half
  rw [hs, List.getD_eq_getElem?_getD, List.getElem?_append_right (by omega), hS]; rfl

/-- How many cells so many bytes fill. -/
def cellsN (n : Nat) : Nat := max 1 ((n + 109) / 110)
/-- A body's part. -/
def cellAt (gen number : Nat) (b : List UInt8) (i : Nat) : Cl := ⟨gen, number, i, cellsN b.length, (b.drop (110 * i)).take 110⟩
def secsOf (gen number : Nat) (b : List UInt8) : List (List UInt8) := (List.range (cellsN b.length)).map fun i => (cellAt gen number b i).sector
def needs : List (List UInt8) → Nat
  | [] => 0
  | b :: r => cellsN b.length + needs r

/-! ### records in cells -/
def recOk (l : List Cl) (gen number parts : Nat) : Bool := (List.range parts).all fun i => decide ((l.getD i Cl.zero).gen = gen) && decide ((l.getD i Cl.zero).number = number) && decide ((l.getD i Cl.zero).parts = parts) && decide ((l.getD i Cl.zero).part = i)
def bodyOf (l : List Cl) (n : Nat) : List UInt8 := ((l.take n).map (·.body)).flatten
def record (l : List Cl) (gen number : Nat) : List UInt8 × Nat :=
  if l.length < (l.getD 0 Cl.zero).parts then ([], 0)
  else if recOk l gen number (l.getD 0 Cl.zero).parts = true then (bodyOf l (l.getD 0 Cl.zero).parts, (l.getD 0 Cl.zero).parts) else ([], 0)
def recordsF : Nat → List Cl → Nat → Nat → List (List UInt8)
  | 0, _, _, _ => []
  | f + 1, l, gen, k => if l.length = 0 ∨ (record l gen k).2 = 0 then [] else (record l gen k).1 :: recordsF f (l.drop (record l gen k).2) gen (k + 1)
def records (l : List Cl) (gen : Nat) : List (List UInt8) := recordsF l.length l gen 0

/-! ### a journal -/
structure Jn where
  gen : Nat
  half : Nat
  head : Nat
  count : Nat
  used : Nat
  closed : Bool
def hsize (n : Nat) : Nat := (n - 2) / 2
def Jn.first (j : Jn) (n : Nat) : Nat := 2 + j.half * hsize n
def Jn.left (j : Jn) (d : Dk) : Nat := min (j.first d.lasts.length + hsize d.lasts.length) d.room - j.first d.lasts.length - j.used
/-- Sectors, one behind the other. -/
def wrS : Dk → Nat → List (List UInt8) → Dk × Int
  | d, _, [] => (d, 0)
  | d, a, s :: r => if (d.write a s).2 = 0 then wrS (d.write a s).1 (a + 1) r else d.write a s
def putJ (d : Dk) (j : Jn) (b : List UInt8) : Dk × Jn × Int :=
  if (wrS d (j.first d.lasts.length + j.used) (secsOf j.gen j.count b)).2 = 0
  then ((wrS d (j.first d.lasts.length + j.used) (secsOf j.gen j.count b)).1, { j with count := j.count + 1, used := j.used + cellsN b.length }, 0)
  else ((wrS d (j.first d.lasts.length + j.used) (secsOf j.gen j.count b)).1, j, (wrS d (j.first d.lasts.length + j.used) (secsOf j.gen j.count b)).2)
def putsJ : Dk → Jn → List (List UInt8) → Dk × Jn × Int
  | d, j, [] => (d, j, 0)
  | d, j, b :: r => if (putJ d j b).2.2 = 0 then putsJ (putJ d j b).1 (putJ d j b).2.1 r else putJ d j b
def endJ (d : Dk) (j : Jn) : Dk × Int :=
  if d.flush.2 = 0 then
    if (d.flush.1.write j.head (hdSector j.gen j.half)).2 = 0 then (d.flush.1.write j.head (hdSector j.gen j.half)).1.flush
    else d.flush.1.write j.head (hdSector j.gen j.half)
  else d.flush
def fillJ (d : Dk) (j : Jn) (bs : List (List UInt8)) : Dk × Jn × Int :=
  if (putsJ d j bs).2.2 = 0 then ((endJ (putsJ d j bs).1 (putsJ d j bs).2.1).1, (putsJ d j bs).2.1, (endJ (putsJ d j bs).1 (putsJ d j bs).2.1).2) else putsJ d j bs
def Jn.next (j : Jn) : Jn := ⟨j.gen + 1, 1 - j.half, 1 - j.head, 0, 0, false⟩
def Jn.become (j n : Jn) (e : Int) : Jn × Int := if e = 0 then (n, 0) else ({ j with closed := true }, e)
def Jn.holds (j : Jn) (d : Dk) (bs : List (List UInt8)) : Bool := decide (2 ≤ d.room) && decide (needs bs ≤ j.left d)
def layJ (d : Dk) (j : Jn) (bs : List (List UInt8)) : Dk × Jn × Int :=
  if j.next.gen ≤ 4294967295 ∧ j.next.holds d bs = true then ((fillJ d j.next bs).1, j.become (fillJ d j.next bs).2.1 (fillJ d j.next bs).2.2) else (d, j, 11)
def askJ (j : Jn) (bs : List (List UInt8)) : Int := if j.closed then 12 else if bs.all (fun b => decide (b.length ≤ 262144)) then 0 else 5
def resetJ (d : Dk) (j : Jn) (bs : List (List UInt8)) : Dk × Jn × Int := if askJ j bs = 0 then layJ d j bs else (d, j, askJ j bs)
def appendJ (d : Dk) (j : Jn) (b : List UInt8) : Dk × Jn × Int :=
  if askJ j [b] = 0 then
    if cellsN b.length ≤ j.left d then
      if (putJ d j b).2.2 = 0 then ((putJ d j b).1.flush.1, j.become (putJ d j b).2.1 (putJ d j b).1.flush.2) else ((putJ d j b).1, j.become (putJ d j b).2.1 (putJ d j b).2.2)
    else (d, j, 11)
  else (d, j, askJ j [b])
/-- What stands in the sectors. -/
def Dk.sec (d : Dk) (i : Nat) : List UInt8 := (d.read i).1
def Dk.cellsFrom (d : Dk) (a n : Nat) : List Cl := (List.range n).map fun i => rdCell (d.sec (a + i))
def greatest (l : List Cl) (a b : Nat) : Nat := l.foldl (fun m c => max m c.gen) (max a b)
def findJ (d : Dk) : Jn × List (List UInt8) :=
  let h0 := rdHead (d.sec 0)
  let h1 := rdHead (d.sec 1)
  let z := hsize d.lasts.length
  let g := greatest (d.cellsFrom 2 (2 * z)) h0.1 h1.1
  if h1.1 ≤ h0.1 ∧ 0 < h0.1 then (⟨g, h0.2, 0, 0, 0, false⟩, records (d.cellsFrom (2 + h0.2 * z) z) h0.1)
  else if h1.1 = 0 then (⟨g, 1, 1, 0, 0, false⟩, [])
  else (⟨g, h1.2, 1, 0, 0, false⟩, records (d.cellsFrom (2 + h1.2 * z) z) h1.1)

end Go.Proofs.YtnioagojiipjlaaGreat.Mt
