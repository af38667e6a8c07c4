/-
  Elements of BER as trees, and their bytes, in plain lists: what is read of bytes, what bytes a tree has, and that each is the other's way back. Nothing of the program stands here.
-/
import Derived.Test.YtmdhioifdnaajaaText
set_option linter.unusedVariables false
set_option linter.unusedSimpArgs false
namespace Go.Proofs.Ytmdhioifdnaajaa.Mt

/-- An element: its tag, its bytes, what stands in it. -/
inductive Nd where
  | mk (tag : Int) (data : List UInt8) (kids : List Nd)
def Nd.tag : Nd → Int | .mk t _ _ => t
def Nd.data : Nd → List UInt8 | .mk _ d _ => d
def Nd.kids : Nd → List Nd | .mk _ _ k => k

/-- A length, and what is behind it. -/
def lenL : List UInt8 → Except Nat (Nat × List UInt8)
  | [] => .error 3
  | c :: r =>
    if c.toNat < 128 then .ok (c.toNat, r)
    else if c.toNat = 128 ∨ 132 < c.toNat then .error 8
    else if r.length < c.toNat - 128 then .error 3
    else if 1048576 < gn (c :: r) 1 (c.toNat - 128) then .error 5
    else .ok (gn (c :: r) 1 (c.toNat - 128), r.drop (c.toNat - 128))

/-- A tag, its bytes, and what is behind them. -/
def splitL : List UInt8 → Except Nat (Nat × List UInt8 × List UInt8)
  | [] => .error 3
  | c :: r =>
    if c.toNat % 32 = 31 then .error 7
    else match lenL r with
      | .error e => .error e
      | .ok (n, x) => if x.length < n then .error 3 else .ok (c.toNat, x.take n, x.drop n)

/-- All that stand in bytes, one behind the other. -/
def allL (p : List UInt8 → Except Nat (Nd × List UInt8)) : Nat → List UInt8 → Except Nat (List Nd)
  | 0, _ => .ok []
  | _ + 1, [] => .ok []
  | k + 1, c :: r => match p (c :: r) with
    | .error e => .error e
    | .ok (n, x) => match allL p k x with
      | .error e => .error e
      | .ok l => .ok (n :: l)

/-- The element that bytes begin with, so many depths being left. -/
def parseL : Nat → List UInt8 → Except Nat (Nd × List UInt8)
  | 0, _ => .error 6
  | d + 1, l => match splitL l with
    | .error e => .error e
    | .ok (t, data, rest) =>
      if t / 32 % 2 = 0 then .ok (.mk (t : Int) data [], rest)
      else match allL (parseL d) data.length data with
        | .error e => .error e
        | .ok ks => .ok (.mk (t : Int) [] ks, rest)

theorem lenL_ok {l : List UInt8} {n : Nat} {x : List UInt8} (h : lenL l = .ok (n, x)) : x.length < l.length ∧ n ≤ 1048576 := by
  match l with
  | [] => simp [lenL] at h
  | c :: r =>
    simp only [lenL] at h
    split at h
    · simp at h; obtain ⟨h1, h2⟩ := h; subst h2; simp; omega
    · split at h
      · cases h
      · split at h
        · cases h
        · split at h
          · cases h
          · simp at h; obtain ⟨h1, h2⟩ := h; subst h2; simp; omega
theorem splitL_ok {l : List UInt8} {t : Nat} {d x : List UInt8} (h : splitL l = .ok (t, d, x)) : d.length + x.length < l.length ∧ t < 256 ∧ t % 32 ≠ 31 ∧ d.length ≤ 1048576 := by
  match l with
  | [] => simp [splitL] at h
  | c :: r =>
    simp only [splitL] at h
    split at h
    · cases h
    · rename_i h31
      split at h
      · cases h
      · rename_i n y hy
        have := lenL_ok hy
        have hc := c.toNat_lt
        split at h
        · cases h
        · simp at h
          obtain ⟨h1, h2, h3⟩ := h
          subst h1 h2 h3
          simp
          omega
theorem parseL_ok {d : Nat} {l : List UInt8} {n : Nd} {x : List UInt8} (h : parseL d l = .ok (n, x)) : x.length < l.length := by
  match d with
  | 0 => simp [parseL] at h
  | d + 1 =>
    simp only [parseL] at h
    split at h
    · cases h
    · rename_i t data rest hs
      have := splitL_ok hs
      split at h
      · simp at h; obtain ⟨_, h2⟩ := h; subst h2; omega
      · split at h
        · cases h
        · simp at h; obtain ⟨_, h2⟩ := h; subst h2; omega

/-- More fuel than bytes makes no difference. -/
theorem allL_fuel {p : List UInt8 → Except Nat (Nd × List UInt8)} (hp : ∀ l n x, p l = .ok (n, x) → x.length < l.length) : ∀ (k : Nat) (l : List UInt8), l.length ≤ k → allL p k l = allL p l.length l
  | 0, l, h => by
    have : l = [] := List.eq_nil_of_length_eq_zero (by omega)
    subst this; rfl
  | k + 1, [], _ => rfl
  | k + 1, c :: r, h => by
    have hl : (c :: r).length = r.length + 1 := by simp
    rw [hl]
    simp only [allL]
    split
    · rfl
    · rename_i n x hx
      have := hp _ _ _ hx
      simp at this h
      rw [allL_fuel hp k x (by omega), allL_fuel hp r.length x (by omega)]
theorem allL_nil (p : List UInt8 → Except Nat (Nd × List UInt8)) : allL p 0 [] = .ok [] := rfl
theorem allL_bad {p : List UInt8 → Except Nat (Nd × List UInt8)} {l : List UInt8} {e : Nat} (h0 : l ≠ []) (h : p l = .error e) : allL p l.length l = .error e := by
  match l with
  | [] => exact absurd rfl h0
  | c :: r => simp [allL, h]
theorem allL_good {p : List UInt8 → Except Nat (Nd × List UInt8)} (hp : ∀ l n x, p l = .ok (n, x) → x.length < l.length) {l : List UInt8} {n : Nd} {x : List UInt8} (h0 : l ≠ []) (h : p l = .ok (n, x)) :
    allL p l.length l = match allL p x.length x with | .error e => .error e | .ok ks => .ok (n :: ks) := by
  match l with
  | [] => exact absurd rfl h0
  | c :: r =>
    have := hp _ _ _ h
    simp at this
    simp only [List.length_cons, allL, h]
    rw [allL_fuel hp r.length x (by omega)]

/-- What is still to come, behind those that are there already. -/
def onto (ls : List Nd) : Except Nat (List Nd) → Except Nat (List Nd)
  | .error e => .error e
  | .ok ks => .ok (ls ++ ks)
theorem onto_nil (x : Except Nat (List Nd)) : onto [] x = x := by cases x <;> rfl
theorem onto_good {p : List UInt8 → Except Nat (Nd × List UInt8)} (hp : ∀ l n x, p l = .ok (n, x) → x.length < l.length) {l : List UInt8} {n : Nd} {x : List UInt8} (ls : List Nd) (h0 : l ≠ []) (h : p l = .ok (n, x)) :
    onto ls (allL p l.length l) = onto (ls ++ [n]) (allL p x.length x) := by
  rw [allL_good hp h0 h]
  cases allL p x.length x with
  | error e => rfl
  | ok ks => simp [onto]

/-! ### bytes of a tree -/
/-- The number of bytes of a length of 128 or more. -/
def lenSize (n : Nat) : Nat := if n < 256 then 1 else if n < 65536 then 2 else 3
/-- A number's bytes, the highest first. -/
def beU (n : Nat) : Nat → List UInt8
  | 0 => []
  | k + 1 => UInt8.ofNat (n / 256 ^ k % 256) :: beU n k
theorem beU_length (n : Nat) : ∀ k, (beU n k).length = k
  | 0 => rfl
  | k + 1 => by simp [beU, beU_length n k]
theorem beU_str (n : Nat) : ∀ k, (beU n k).map (fun c => (c.toNat : Int)) = be n k
  | 0 => rfl
  | k + 1 => by
    simp only [beU, be, List.map_cons, beU_str n k]
    congr 1
    simp only [UInt8.toNat_ofNat']
    omega
theorem str_be (n k : Nat) : strOfNums (be n k) = str (beU n k) := by rw [← beU_str, str_nums]
/-- A tag and a length. -/
def frontL (tag n : Nat) : List UInt8 := if n < 128 then [UInt8.ofNat tag, UInt8.ofNat n] else UInt8.ofNat tag :: UInt8.ofNat (128 + lenSize n) :: beU n (lenSize n)

def putAll (f : Nd → Except Nat (List UInt8)) : List Nd → Except Nat (List UInt8)
  | [] => .ok []
  | n :: r => match f n with
    | .error e => .error e
    | .ok s => match putAll f r with
      | .error e => .error e
      | .ok t => .ok (s ++ t)

/-- What keeps a tag from being one. -/
def badTag (t : Int) : Prop := t < 0 ∨ 255 < t ∨ t % 32 = 31
def cons (t : Int) : Prop := t / 32 % 2 = 1
instance (t : Int) : Decidable (badTag t) := by unfold badTag; infer_instance
instance (t : Int) : Decidable (cons t) := by unfold cons; infer_instance

/-- A tree's bytes, so many depths being left. -/
def putL : Nat → Nd → Except Nat (List UInt8)
  | 0, _ => .error 6
  | d + 1, .mk t data kids =>
    if badTag t then .error 7
    else if cons t ∧ data ≠ [] ∨ ¬ cons t ∧ kids ≠ [] then .error 4
    else match putAll (putL d) kids with
      | .error e => .error e
      | .ok bs => if 1048576 < data.length + bs.length then .error 5 else .ok (frontL t.toNat (data.length + bs.length) ++ (data ++ bs))

theorem frontL_length (t n : Nat) : (frontL t n).length ≤ 5 ∧ 2 ≤ (frontL t n).length := by
  unfold frontL lenSize
  split
  · simp
  · split
    · simp [beU_length]
    · split <;> simp [beU_length]
theorem putL_length {d : Nat} {n : Nd} {s : List UInt8} (h : putL d n = .ok s) : s.length ≤ 1048581 := by
  match d, n with
  | 0, _ => simp [putL] at h
  | d + 1, .mk t data kids =>
    simp only [putL] at h
    split at h
    · cases h
    · split at h
      · cases h
      · split at h
        · cases h
        · split at h
          · cases h
          · simp at h
            subst h
            have := (frontL_length t.toNat (data.length + (‹List UInt8›).length)).1
            simp
            omega

/-! ### there and back -/
theorem toNat_of {n : Nat} (h : n < 256) : (UInt8.ofNat n).toNat = n := by simp [UInt8.toNat_ofNat']; omega
theorem beU1 (n : Nat) : beU n 1 = [UInt8.ofNat (n % 256)] := by simp [beU]
theorem beU2 (n : Nat) : beU n 2 = [UInt8.ofNat (n / 256 % 256), UInt8.ofNat (n % 256)] := by simp [beU]
theorem beU3 (n : Nat) : beU n 3 = [UInt8.ofNat (n / 65536 % 256), UInt8.ofNat (n / 256 % 256), UInt8.ofNat (n % 256)] := by simp [beU]
/-- A length of 128 or more is read. -/
theorem lenL_be (n k : Nat) (y : List UInt8) (hk : k = 1 ∧ n < 256 ∨ k = 2 ∧ n < 65536 ∨ k = 3 ∧ n < 16777216) (hn : n ≤ 1048576) : lenL (UInt8.ofNat (128 + k) :: (beU n k ++ y)) = .ok (n, y) := by
  have hc : (UInt8.ofNat (128 + k)).toNat = 128 + k := toNat_of (by omega)
  have hg : gn (UInt8.ofNat (128 + k) :: (beU n k ++ y)) 1 k = n := by
    rcases hk with ⟨rfl, h⟩ | ⟨rfl, h⟩ | ⟨rfl, h⟩
    · rw [beU1]
      have h1 := toNat_of (n := n % 256) (by omega)
      simp only [gn, List.cons_append, List.nil_append, List.getD_cons_succ, List.getD_cons_zero, h1]; omega
    · rw [beU2]
      have h1 := toNat_of (n := n % 256) (by omega)
      have h2 := toNat_of (n := n / 256 % 256) (by omega)
      simp only [gn, List.cons_append, List.nil_append, List.getD_cons_succ, List.getD_cons_zero, h1, h2]; omega
    · rw [beU3]
      have h1 := toNat_of (n := n % 256) (by omega)
      have h2 := toNat_of (n := n / 256 % 256) (by omega)
      have h3 := toNat_of (n := n / 65536 % 256) (by omega)
      simp only [gn, List.cons_append, List.nil_append, List.getD_cons_succ, List.getD_cons_zero, h1, h2, h3]; omega
  have hl : (beU n k ++ y).length = k + y.length := by simp [beU_length]
  have hd : (beU n k ++ y).drop k = y := by rw [List.drop_append_of_le_length (by rw [beU_length]; exact Nat.le_refl _)]; rw [List.drop_of_length_le (by rw [beU_length]; exact Nat.le_refl _)]; rfl
  simp only [lenL, hc]
  rw [if_neg (by omega), if_neg (by omega), if_neg (by omega), show 128 + k - 128 = k by omega, hg, if_neg (by omega), hd]
theorem lenSize_fits {n : Nat} (hn : n ≤ 1048576) : lenSize n = 1 ∧ n < 256 ∨ lenSize n = 2 ∧ n < 65536 ∨ lenSize n = 3 ∧ n < 16777216 := by
  unfold lenSize; split
  · exact .inl ⟨rfl, by assumption⟩
  · split
    · exact .inr (.inl ⟨rfl, by assumption⟩)
    · exact .inr (.inr ⟨rfl, by omega⟩)
/-- What a tag, a length and so many bytes are read as. -/
theorem split_front (t : Nat) (b x : List UInt8) (ht : t < 256) (h31 : t % 32 ≠ 31) (hb : b.length ≤ 1048576) : splitL (frontL t b.length ++ (b ++ x)) = .ok (t, b, x) := by
  have htn := toNat_of ht
  unfold frontL
  split
  · rename_i h
    have hn := toNat_of (n := b.length) (by omega)
    simp [splitL, lenL, htn, hn, h31, h]
  · rename_i h
    have hl := lenL_be b.length (lenSize b.length) (b ++ x) (lenSize_fits hb) hb
    simp only [List.cons_append, splitL, htn, hl]
    rw [if_neg h31, if_neg (by simp)]
    simp
theorem putL_ne {d : Nat} {n : Nd} {s : List UInt8} (h : putL d n = .ok s) : s ≠ [] := by
  match d, n with
  | 0, _ => simp [putL] at h
  | d + 1, .mk t data kids =>
    simp only [putL] at h
    split at h
    · cases h
    · split at h
      · cases h
      · split at h
        · cases h
        · split at h
          · cases h
          · simp at h
            intro e
            subst e
            have h1 := (List.append_eq_nil_iff.1 h).1
            have := (frontL_length t.toNat (data.length + (‹List UInt8›).length)).2
            rw [h1] at this
            simp at this
theorem parseL_shrinks (d : Nat) : ∀ l n x, parseL d l = .ok (n, x) → x.length < l.length := fun _ _ _ h => parseL_ok h
theorem all_put {d : Nat} (hd : ∀ n s x, putL d n = .ok s → parseL d (s ++ x) = .ok (n, x)) : ∀ (ks : List Nd) (bs : List UInt8), putAll (putL d) ks = .ok bs → allL (parseL d) bs.length bs = .ok ks
  | [], bs, h => by simp [putAll] at h; subst h; rfl
  | n :: r, bs, h => by
    simp only [putAll] at h
    split at h
    · cases h
    · rename_i s hs
      split at h
      · cases h
      · rename_i t ht
        simp at h
        subst h
        have hne : s ++ t ≠ [] := by simp [putL_ne hs]
        rw [allL_good (parseL_shrinks d) hne (hd n s t hs), all_put hd r t ht]
/-- The parts of a tree's bytes. -/
theorem putL_parts {d : Nat} {t : Int} {data s : List UInt8} {kids : List Nd} (h : putL (d + 1) (.mk t data kids) = .ok s) :
    ∃ bs, putAll (putL d) kids = .ok bs ∧ 0 ≤ t ∧ t ≤ 255 ∧ t % 32 ≠ 31 ∧ (cons t → data = []) ∧ (¬ cons t → kids = []) ∧ (data ++ bs).length ≤ 1048576 ∧ s = frontL t.toNat (data ++ bs).length ++ (data ++ bs) := by
  simp only [putL] at h
  split at h
  · cases h
  · rename_i h1
    split at h
    · cases h
    · rename_i h2
      split at h
      · cases h
      · rename_i bs hbs
        split at h
        · cases h
        · rename_i h3
          simp at h
          unfold badTag at h1
          refine ⟨bs, hbs, by omega, by omega, by omega, fun hc => ?_, fun hc => ?_, by simp; omega, by simp [← h]⟩
          · exact Classical.byContradiction fun e => h2 (.inl ⟨hc, e⟩)
          · exact Classical.byContradiction fun e => h2 (.inr ⟨hc, e⟩)
theorem parse_put : ∀ (d : Nat) (n : Nd) (s x : List UInt8), putL d n = .ok s → parseL d (s ++ x) = .ok (n, x)
  | 0, _, _, _, h => by simp [putL] at h
  | d + 1, .mk t data kids, s, x, h => by
    obtain ⟨bs, hbs, h0, h255, h31, hc, hk, hl, rfl⟩ := putL_parts h
    have hsp := split_front t.toNat (data ++ bs) x (by omega) (by omega) hl
    simp only [parseL, List.append_assoc] at hsp ⊢
    rw [hsp]
    have ht : ((t.toNat : Nat) : Int) = t := by omega
    simp only [ht]
    by_cases hcons : cons t
    · have hd := hc hcons
      subst hd
      unfold cons at hcons
      rw [if_neg (by omega)]
      simp only [List.nil_append]
      rw [all_put (parse_put d) kids bs hbs]
    · have hd := hk hcons
      subst hd
      simp [putAll] at hbs
      subst hbs
      unfold cons at hcons
      rw [if_pos (by omega)]
      simp

/-- A beginning that isn't all is too short. -/
theorem lenL_cut (n j : Nat) (b : List UInt8) (hb : b.length = n) (hn : n ≤ 1048576)
    (hj : j < ((frontL 0 n).drop 1 ++ b).length) : lenL (((frontL 0 n).drop 1 ++ b).take j) = .error 3 ∨ ∃ y, lenL (((frontL 0 n).drop 1 ++ b).take j) = .ok (n, y) ∧ y.length < n := by
  unfold frontL at *
  split at *
  · rename_i h
    have hn := toNat_of (n := n) (by omega)
    match j with
    | 0 => left; simp [lenL]
    | j + 1 =>
      right
      refine ⟨b.take j, ?_, ?_⟩
      · simp [lenL, hn, h]
      · simp at hj ⊢; omega
  · rename_i h
    match j with
    | 0 => left; simp [lenL]
    | j + 1 =>
      rw [if_neg h]
      simp only [List.drop_succ_cons, List.drop_zero, List.cons_append, List.take_succ_cons]
      simp [beU_length] at hj
      by_cases hlt : j < lenSize n
      · left
        have hf := lenSize_fits hn
        have hc : (UInt8.ofNat (128 + lenSize n)).toNat = 128 + lenSize n := toNat_of (by omega)
        simp only [lenL, hc]
        rw [if_neg (by omega), if_neg (by omega), if_pos (by simp [beU_length]; omega)]
      · right
        refine ⟨b.take (j - lenSize n), ?_, by simp; omega⟩
        rw [List.take_append, List.take_of_length_le (by rw [beU_length]; omega), beU_length]
        exact lenL_be n (lenSize n) _ (lenSize_fits hn) hn
theorem front_drop (t n : Nat) : frontL t n = UInt8.ofNat t :: (frontL 0 n).drop 1 := by
  unfold frontL; split <;> simp
theorem parse_cut {d : Nat} {n : Nd} {s : List UInt8} {k : Nat} (h : putL d n = .ok s) (hk : k < s.length) : parseL d (s.take k) = .error 3 := by
  match d, n with
  | 0, _ => simp [putL] at h
  | d + 1, .mk t data kids =>
    obtain ⟨bs, hbs, h0, h255, h31, hc, hkk, hl, rfl⟩ := putL_parts h
    have hs : splitL ((frontL t.toNat (data ++ bs).length ++ (data ++ bs)).take k) = .error 3 := by
      rw [front_drop] at hk ⊢
      match k with
      | 0 => simp [splitL]
      | j + 1 =>
        have hj : j < ((frontL 0 (data ++ bs).length).drop 1 ++ (data ++ bs)).length := by
          simp only [List.cons_append, List.length_cons] at hk; omega
        have htn := toNat_of (n := t.toNat) (by omega)
        simp only [List.cons_append, List.take_succ_cons, splitL, htn]
        rw [if_neg (by omega)]
        rcases lenL_cut _ j (data ++ bs) rfl hl hj with h3 | ⟨y, h3, hy⟩
        · rw [h3]
        · rw [h3]; simp only; rw [if_pos hy]
    simp only [parseL, hs]

/-! ### elements within one another -/
/-- So many, each in the next. -/
def nest : Nat → Nd
  | 0 => .mk 48 [] []
  | k + 1 => .mk 48 [] [nest k]
/-- Their bytes, the lengths as short as can be, or not. -/
def nestS (longer : Bool) : Nat → List UInt8
  | 0 => [48, 0]
  | k + 1 => if (nestS longer k).length < 128 ∧ longer = false then 48 :: UInt8.ofNat (nestS longer k).length :: nestS longer k
    else 48 :: 131 :: 0 :: UInt8.ofNat ((nestS longer k).length / 256) :: UInt8.ofNat (nestS longer k).length :: nestS longer k
theorem nestS_length (b : Bool) : ∀ k, (nestS b k).length ≤ 5 * k + 2
  | 0 => by simp [nestS]
  | k + 1 => by
    have := nestS_length b k
    simp only [nestS]; split <;> simp <;> omega
theorem split_nest (b : Bool) (k : Nat) (hk : k ≤ 100) : splitL (nestS b (k + 1)) = .ok (48, nestS b k, []) := by
  have hl := nestS_length b k
  have h48 : (48 : UInt8).toNat = 48 := rfl
  have h131 : (131 : UInt8).toNat = 131 := rfl
  have h00 : (0 : UInt8).toNat = 0 := rfl
  generalize hX : nestS b k = X at *
  simp only [nestS, hX]
  split
  · rename_i h
    have hn := toNat_of (n := X.length) (by omega)
    simp [splitL, lenL, hn, h48, h.1]
  · have h1 := toNat_of (n := X.length / 256) (by omega)
    have h2 : (UInt8.ofNat X.length).toNat = X.length % 256 := by simp [UInt8.toNat_ofNat']
    have hg : gn (131 :: 0 :: UInt8.ofNat (X.length / 256) :: UInt8.ofNat X.length :: X) 1 3 = X.length := by
      simp only [gn, List.getD_cons_succ, List.getD_cons_zero, h1, h2, h00]; omega
    simp only [splitL, lenL, h48, h131]
    rw [if_neg (by omega), if_neg (by omega), if_neg (by omega), if_neg (by simp), show 131 - 128 = 3 from rfl, hg, if_neg (by omega)]
    simp
theorem nestS_ne (b : Bool) (k : Nat) : nestS b k ≠ [] := by
  cases k with
  | zero => simp [nestS]
  | succ k => simp only [nestS]; split <;> simp
theorem parse_nest (b : Bool) : ∀ (d k : Nat), k ≤ 100 → parseL d (nestS b k) = if k < d then .ok (nest k, []) else .error 6
  | 0, k, _ => by simp [parseL]
  | d + 1, 0, _ => by simp [parseL, nestS, splitL, lenL, allL, nest]
  | d + 1, k + 1, hk => by
    simp only [parseL, split_nest b k (by omega)]
    rw [if_neg (by decide)]
    have ih := parse_nest b d k (by omega)
    by_cases h : k < d
    · rw [if_pos h] at ih
      rw [allL_good (parseL_shrinks d) (nestS_ne b k) ih, if_pos (by omega)]
      rfl
    · rw [if_neg h] at ih
      rw [allL_bad (nestS_ne b k) ih, if_neg (by omega)]
theorem put_nest : ∀ (d k : Nat), k ≤ 100 → (k < d → ∃ s, putL d (nest k) = .ok s ∧ s.length ≤ 5 * k + 5) ∧ (d ≤ k → putL d (nest k) = .error 6)
  | 0, k, _ => ⟨fun h => by omega, fun _ => by simp [putL]⟩
  | d + 1, 0, _ => ⟨fun _ => ⟨_, by simp [putL, nest, badTag, cons, putAll]; rfl, by simp [frontL]⟩, fun h => by omega⟩
  | d + 1, k + 1, hk => by
    obtain ⟨h1, h2⟩ := put_nest d k (by omega)
    refine ⟨fun h => ?_, fun h => ?_⟩
    · obtain ⟨s, hs, hl⟩ := h1 (by omega)
      have hf := (frontL_length 48 s.length).1
      refine ⟨frontL 48 s.length ++ s, ?_, by simp; omega⟩
      simp [putL, nest, badTag, cons, putAll, hs]
      omega
    · simp [putL, nest, badTag, cons, putAll, h2 (by omega)]

end Go.Proofs.Ytmdhioifdnaajaa.Mt
