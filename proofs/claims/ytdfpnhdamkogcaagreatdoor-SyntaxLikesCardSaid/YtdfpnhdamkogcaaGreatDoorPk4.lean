/-
  Some texts of one proof, one behind the other.
-/
import Derived.Lib.ValidLaws
import Derived.Lib.IndexMore
import Derived.Lib.Strings
import Derived.Test.YtdfpnhdamkogcaaGreatDoorPk2
import Derived.Test.YtdfpnhdamkogcaaGreatDoorPk3
set_option linter.unusedVariables false
set_option linter.unusedSimpArgs false

/-
  What a value's normal form is; which value is ahead; what has pieces.
-/
namespace Go.Proofs.YtdfpnhdamkogcaaGreatDoor.Mt
open Go.Lib

/-! ### times -/
def lastD (y m : Nat) : Nat := if m = 2 then (if (y % 4 = 0 ∧ y % 100 ≠ 0) ∨ y % 400 = 0 then 29 else 28) else if m = 4 ∨ m = 6 ∨ m = 9 ∨ m = 11 then 30 else 31
def okT (y m d h i s : Nat) : Bool := decide (1 ≤ m ∧ m ≤ 12 ∧ 1 ≤ d ∧ d ≤ lastD y m ∧ h ≤ 23 ∧ i ≤ 59 ∧ s ≤ 59)
def seg (l : List UInt8) (a b : Nat) : Nat := ten 0 ((l.drop a).take (b - a))
def okD (l : List UInt8) : Bool := okT (seg l 0 4) (seg l 4 6) (seg l 6 8) (seg l 8 10) (seg l 10 12) (seg l 12 14)
def timeB (l : List UInt8) : Bool := decide (l.length = 15) && decide (∀ c ∈ l.take 14, isD c) && decide (l.drop 14 = [90]) && okD (l.take 14)

/-! ### normal forms -/
def asciiB (l : List UInt8) : Bool := l.all fun c => decide (c.toNat < 128)
def truthB (l : List UInt8) : Bool := decide (l = [84, 82, 85, 69]) || decide (l = [70, 65, 76, 83, 69])
def validS (syn : Int) (l : List UInt8) : Bool :=
  if syn = 1 ∨ syn = 2 then decide (l ≠ []) && validD l
  else if syn = 3 then asciiB l
  else if syn = 4 then (numV l).isSome
  else if syn = 5 then truthB l
  else if syn = 7 then true
  else if syn = 8 then timeB l
  else false
def normS (syn : Int) (l : List UInt8) : Option (List UInt8) :=
  if 4096 < l.length then none
  else if syn = 6 then (match keyL l with
    | .ok k => some k
    | .error _ => none)
  else if validS syn l = false then none
  else if syn = 1 ∨ syn = 3 then some (prep l) else some l
/-- What a call answers of it. -/
def optT (o : Option (List UInt8)) : List UInt8 := o.getD []

/-! ### order -/
def orderS (syn : Int) (a b : List UInt8) : Int × Bool := match normS syn a, normS syn b with
  | some x, some y => if syn = 1 ∨ syn = 2 ∨ syn = 3 ∨ syn = 8 then (compareBytes x y, true)
    else if syn = 4 then (if (numV x).getD 0 < (numV y).getD 0 then -1 else if (numV y).getD 0 < (numV x).getD 0 then 1 else 0, true)
    else (0, false)
  | _, _ => (0, false)

/-! ### pieces -/
abbrev Pc := Int × List UInt8
def stepL (s : List UInt8) (k : Int) (t : List UInt8) : List UInt8 × Bool :=
  if k = 0 then (trimPrefix s t, hasPrefix s t)
  else if k = 2 then ([], hasSuffix s t)
  else ((cut s t).2.1, (cut s t).2.2)
def hasPs (f : List UInt8 → List UInt8) : List UInt8 → List Pc → Bool
  | _, [] => true
  | s, p :: r => if (stepL s p.1 (f p.2)).2 then hasPs f (stepL s p.1 (f p.2)).1 r else false
def pieceB (p : Pc) (first last : Bool) : Bool := decide (p.2 ≠ []) && (if p.1 = 0 then first else if p.1 = 1 then true else if p.1 = 2 then last else false)
/-- Pieces from a place on. -/
def piecesF (n : Nat) : Nat → List Pc → Bool
  | _, [] => true
  | i, p :: r => pieceB p (decide (i = 0)) (decide (i + 1 = n)) && piecesF n (i + 1) r
def soundB (ps : List Pc) : Bool := decide (0 < ps.length) && piecesF ps.length 0 ps
def likeS (syn : Int) (l : List UInt8) (ps : List Pc) : Bool × Bool := match normS syn l with
  | some s => if soundB ps then (if syn = 1 ∨ syn = 3 then (hasPs foldL s ps, true) else if syn = 2 then (hasPs id s ps, true) else (false, false)) else (false, false)
  | none => (false, false)
end Go.Proofs.YtdfpnhdamkogcaaGreatDoor.Mt

/-
  Pieces, looked for place by place.
-/
namespace Go.Proofs.YtdfpnhdamkogcaaGreatDoor
open Go.RowKit Go.Lib

theorem Mt.hasP_cons (f : List UInt8 → List UInt8) (s : List UInt8) (p : Mt.Pc) (r : List Mt.Pc) : Mt.hasPs f s (p :: r) = if (Mt.stepL s p.1 (f p.2)).2 then Mt.hasPs f (Mt.stepL s p.1 (f p.2)).1 r else false := rfl
theorem Mt.hasPs_map (f : List UInt8 → List UInt8) : ∀ (ps : List Mt.Pc) (s : List UInt8), Mt.hasPs f s ps = Mt.hasPs id s (ps.map fun p => (p.1, f p.2))
  | [], _ => rfl
  | p :: r, s => by
    rw [List.map_cons, Mt.hasP_cons, Mt.hasP_cons, Mt.hasPs_map f r]
    rfl
/-- A text stands in another one at a place. -/
def Mt.Stands (s t : List UInt8) (k : Nat) : Prop := (s.drop k).take t.length = t
instance (s t : List UInt8) (k : Nat) : Decidable (Mt.Stands s t k) := by unfold Mt.Stands; infer_instance
theorem Mt.stands_occ {s t : List UInt8} {k : Nat} : occAt s t k = true ↔ Mt.Stands s t k := by
  unfold occAt Mt.Stands
  rw [List.isPrefixOf_iff_prefix, List.prefix_iff_eq_take]
  exact eq_comm
theorem Mt.stands_no {s t : List UInt8} {k : Nat} : occAt s t k = false ↔ ¬ Mt.Stands s t k := by
  rw [← Mt.stands_occ, Bool.not_eq_true]
theorem Mt.step1_eq {s : List UInt8} {p : Int} {t : List UInt8} (h0 : p ≠ 0) (h2 : p ≠ 2) : Mt.stepL s p t = ((cut s t).2.1, (cut s t).2.2) := by
  unfold Mt.stepL; rw [if_neg h0, if_neg h2]
theorem Mt.step1_yes {s t : List UInt8} {k : Nat} (hk : Mt.Stands s t k) (hr : k + t.length ≤ s.length) (hn : ∀ j, j < k → ¬ Mt.Stands s t j) : Mt.stepL s 1 t = (s.drop (k + t.length), true) := by
  rw [Mt.step1_eq (by decide) (by decide)]
  unfold cut
  rcases index_spec s t with ⟨h1, h2⟩ | ⟨i, h1, h2, h3, h4⟩
  · exact absurd hk (Mt.stands_no.1 (h2 k (by omega)))
  · have e : i = k := by
      rcases Nat.lt_trichotomy i k with h | h | h
      · exact absurd (Mt.stands_occ.1 h3) (hn i h)
      · exact h
      · exact absurd hk (Mt.stands_no.1 (h4 k h))
    subst e
    rw [h1, if_pos (by omega)]
    simp
theorem Mt.step1_no {s t : List UInt8} (hn : ∀ j, j + t.length ≤ s.length → ¬ Mt.Stands s t j) : (Mt.stepL s 1 t).2 = false := by
  rw [Mt.step1_eq (by decide) (by decide)]
  unfold cut
  rcases index_spec s t with ⟨h1, h2⟩ | ⟨i, h1, h2, h3, h4⟩
  · rw [if_neg (by omega)]
  · have hr := index_room s t (by omega)
    exact absurd (Mt.stands_occ.1 h3) (hn i (by omega))
theorem Mt.pre_occ (s t : List UInt8) : hasPrefix s t = occAt s t 0 := rfl
theorem Mt.step0_yes {s t : List UInt8} (h : Mt.Stands s t 0) : Mt.stepL s 0 t = (s.drop (0 + t.length), true) := by
  have e : hasPrefix s t = true := (Mt.pre_occ s t).trans (Mt.stands_occ.2 h)
  show (trimPrefix s t, hasPrefix s t) = _
  unfold trimPrefix
  rw [e, if_pos rfl, Nat.zero_add]
theorem Mt.step0_no {s t : List UInt8} (h : ¬ Mt.Stands s t 0) : (Mt.stepL s 0 t).2 = false := (Mt.pre_occ s t).trans (Mt.stands_no.2 h)
theorem Mt.step2_eq {s t : List UInt8} {k : Nat} (hk : k + t.length = s.length) : Mt.stepL s 2 t = ([], decide (Mt.Stands s t k)) := by
  show ([], hasSuffix s t) = _
  have e : hasSuffix s t = decide (Mt.Stands s t k) := by
    unfold hasSuffix
    rw [Bool.eq_iff_iff, List.isSuffixOf_iff_suffix, List.suffix_iff_eq_drop, decide_eq_true_eq, show s.length - t.length = k by omega]
    unfold Mt.Stands
    rw [List.take_of_length_le (by rw [List.length_drop]; omega)]
    exact eq_comm
  rw [e]
theorem Mt.step2_short {s t : List UInt8} (h : s.length < t.length) : (Mt.stepL s 2 t).2 = false := by
  show hasSuffix s t = false
  unfold hasSuffix
  rw [Bool.eq_false_iff]
  intro h2
  have := (List.isSuffixOf_iff_suffix.1 h2).length_le
  omega
theorem Mt.step0_short {s t : List UInt8} (h : s.length < t.length) : (Mt.stepL s 0 t).2 = false := by
  refine Mt.step0_no fun h2 => ?_
  have := congrArg List.length h2
  rw [List.length_take, List.length_drop] at this
  omega
/-- What is tried at a place: the kinds as they stand, the text there. -/
theorem Mt.hasY_yes {s t : List UInt8} {k : Nat} {c : Int} {r : List Mt.Pc} (h : (Mt.stepL s c t).2 = true) (h1 : (Mt.stepL s c t).1 = s.drop (k + t.length)) : Mt.hasPs id s ((c, t) :: r) = Mt.hasPs id (s.drop (k + t.length)) r := by
  rw [Mt.hasP_cons]
  show (if (Mt.stepL s c t).2 = true then _ else _) = _
  rw [if_pos h]
  show Mt.hasPs id (Mt.stepL s c t).1 r = _
  rw [h1]
theorem Mt.hasY_no {s t : List UInt8} {c : Int} {r : List Mt.Pc} (h : (Mt.stepL s c t).2 = false) : Mt.hasPs id s ((c, t) :: r) = false := by
  rw [Mt.hasP_cons]
  show (if (Mt.stepL s c t).2 = true then _ else _) = _
  rw [if_neg (by rw [h]; decide)]
/-- What is known of a place: whatever lies ahead of it isn't where the piece stands. -/
def Mt.Past (R : Bool) (c : Int) (s t : List UInt8) (k : Nat) : Prop := (c = 0 → k = 0 ∨ R = false) ∧ (c = 1 → ∀ j, j < k → ¬ Mt.Stands s t j) ∧ (c = 2 → k + t.length ≤ s.length ∨ R = false)
section
variable {R : Bool} {c : Int} {s t : List UInt8} {r : List Mt.Pc} {k : Nat}
theorem Mt.past_zero (hR : Mt.hasPs id s ((c, t) :: r) = R) : Mt.Past R c s t 0 := by
  refine ⟨fun _ => .inl rfl, fun _ j hj => absurd hj (Nat.not_lt_zero _), fun h => ?_⟩
  rcases Nat.lt_or_ge s.length t.length with h1 | h1
  · right
    subst h
    rw [← hR]
    exact Mt.hasY_no (Mt.step2_short h1)
  · left; omega
theorem Mt.past_no (hR : Mt.hasPs id s ((c, t) :: r) = R) (h : Mt.Past R c s t k) (hk : k + t.length ≤ s.length) (hs : ¬ Mt.Stands s t k) : Mt.Past R c s t (k + 1) := by
  refine ⟨fun h0 => ?_, fun h1 j hj => ?_, fun h2 => ?_⟩
  · right
    rcases h.1 h0 with rfl | h'
    · subst h0
      rw [← hR]
      exact Mt.hasY_no (Mt.step0_no hs)
    · exact h'
  · rcases Nat.lt_or_ge j k with h' | h'
    · exact h.2.1 h1 j h'
    · obtain rfl : j = k := by omega
      exact hs
  · rcases Nat.lt_or_ge (k + t.length) s.length with h' | h'
    · left; omega
    · right
      subst h2
      rw [← hR]
      refine Mt.hasY_no ?_
      rw [Mt.step2_eq (k := k) (by omega)]
      exact decide_eq_false hs
theorem Mt.past_zero_on (h : Mt.Past R 0 s t k) (hk : 0 < k) : Mt.Past R 0 s t (k + 1) := by
  refine ⟨fun _ => .inr ?_, fun h => absurd h (by decide), fun h => absurd h (by decide)⟩
  rcases h.1 rfl with rfl | h
  · exact absurd hk (Nat.lt_irrefl _)
  · exact h
theorem Mt.past_two_on (hk : k + t.length < s.length) : Mt.Past R 2 s t (k + 1) :=
  ⟨fun h => absurd h (by decide), fun h => absurd h (by decide), fun _ => .inl (by omega)⟩
theorem Mt.past_false (hR : R = false) (h1 : c ≠ 1) : Mt.Past R c s t (k + 1) := ⟨fun _ => .inr hR, fun h => absurd h h1, fun _ => .inr hR⟩
theorem Mt.past_yes (hR : Mt.hasPs id s ((c, t) :: r) = R) (h : Mt.Past R c s t k) (hk : k + t.length ≤ s.length) (hs : Mt.Stands s t k) (hc : c = 0 ∨ c = 1 ∨ c = 2) (h0 : c = 0 → k = 0) (h2 : c = 2 → k + t.length = s.length) : Mt.hasPs id (s.drop (k + t.length)) r = R := by
  rw [← hR]
  symm
  rcases hc with rfl | rfl | rfl
  · obtain rfl := h0 rfl
    exact Mt.hasY_yes (by rw [Mt.step0_yes hs]) (by rw [Mt.step0_yes hs])
  · have e := Mt.step1_yes hs hk (h.2.1 rfl)
    exact Mt.hasY_yes (by rw [e]) (by rw [e])
  · have e := Mt.step2_eq (s := s) (t := t) (k := k) (h2 rfl)
    refine Mt.hasY_yes (by rw [e]; exact decide_eq_true hs) (by rw [e, h2 rfl, List.drop_length])
theorem Mt.past_end (hR : Mt.hasPs id s ((c, t) :: r) = R) (h : Mt.Past R c s t k) (hk : s.length < k + t.length) (hc : c = 0 ∨ c = 1 ∨ c = 2) : R = false := by
  rcases hc with rfl | rfl | rfl
  · rcases h.1 rfl with rfl | h
    · rw [← hR]
      exact Mt.hasY_no (Mt.step0_short (by omega))
    · exact h
  · rw [← hR]
    exact Mt.hasY_no (Mt.step1_no fun j hj => h.2.1 rfl j (by omega))
  · rcases h.2.2 rfl with h | h
    · omega
    · exact h
end
end Go.Proofs.YtdfpnhdamkogcaaGreatDoor

/-
  The document's UTF-8, character by character: as the library has it.
-/
namespace Go.Proofs.YtdfpnhdamkogcaaGreatDoor.Mt
open Go.Lib

/-- Is a byte one that goes on? -/
def contN (b : Nat) : Bool := decide (128 ≤ b) && decide (b < 192)
/-- One character, as the document reads it: how many bytes, if it is one (of bytes from 128 on). -/
def docN (n b0 b1 b2 b3 : Nat) : Option Nat :=
  if 240 ≤ b0 then (if 4 ≤ n ∧ contN b1 = true ∧ contN b2 = true ∧ contN b3 = true ∧ 65536 ≤ (((b0 - 240) * 64 + (b1 - 128)) * 64 + (b2 - 128)) * 64 + (b3 - 128) ∧ (((b0 - 240) * 64 + (b1 - 128)) * 64 + (b2 - 128)) * 64 + (b3 - 128) ≤ 1114111 then some 4 else none)
  else if 224 ≤ b0 then (if 3 ≤ n ∧ contN b1 = true ∧ contN b2 = true ∧ 2048 ≤ ((b0 - 224) * 64 + (b1 - 128)) * 64 + (b2 - 128) ∧ ¬ (55296 ≤ ((b0 - 224) * 64 + (b1 - 128)) * 64 + (b2 - 128) ∧ ((b0 - 224) * 64 + (b1 - 128)) * 64 + (b2 - 128) < 57344) then some 3 else none)
  else if 192 ≤ b0 then (if 2 ≤ n ∧ contN b1 = true ∧ 128 ≤ (b0 - 192) * 64 + (b1 - 128) then some 2 else none)
  else none
theorem contN_iff (b : Nat) : contN b = true ↔ 128 ≤ b ∧ b < 192 := by unfold contN; simp
theorem chk2 (n b1 b2 b3 lo hi : Nat) : checkN n b1 b2 b3 2 lo hi = if n < 2 ∨ b1 < lo ∨ hi < b1 then none else some 2 := by unfold checkN; rw [if_pos rfl]
theorem chk3 (n b1 b2 b3 lo hi : Nat) : checkN n b1 b2 b3 3 lo hi = if n < 3 ∨ b1 < lo ∨ hi < b1 ∨ b2 < 128 ∨ 191 < b2 then none else some 3 := by unfold checkN; rw [if_neg (by decide), if_pos rfl]
theorem chk4 (n b1 b2 b3 lo hi : Nat) : checkN n b1 b2 b3 4 lo hi = if n < 4 ∨ b1 < lo ∨ hi < b1 ∨ b2 < 128 ∨ 191 < b2 ∨ b3 < 128 ∨ 191 < b3 then none else some 4 := by unfold checkN; rw [if_neg (by decide), if_neg (by decide), if_pos rfl]
theorem chk1 (n b1 b2 b3 lo hi : Nat) : checkN n b1 b2 b3 1 lo hi = none := by unfold checkN; rw [if_neg (by decide), if_neg (by decide), if_neg (by decide)]
theorem some_if {p q : Prop} [Decidable p] [Decidable q] (k : Nat) (h : p ↔ ¬ q) : (if p then some k else none) = if q then none else some k := by
  by_cases hq : q
  · rw [if_pos hq, if_neg (fun hp => h.1 hp hq)]
  · rw [if_neg hq, if_pos (h.2 hq)]
/-- What the tables say of a lead byte. -/
theorem first_of : ∀ b : Fin 256, 128 ≤ b.val → (firstT b.val % 8, accLo (firstT b.val / 16), accHi (firstT b.val / 16)) =
    if b.val < 194 then (1, 0, 0) else if b.val < 224 then (2, 128, 191) else if b.val = 224 then (3, 160, 191) else if b.val = 237 then (3, 128, 159) else if b.val < 240 then (3, 128, 191) else if b.val = 240 then (4, 144, 191) else if b.val < 244 then (4, 128, 191) else if b.val = 244 then (4, 128, 143) else (1, 0, 0) := by decide +kernel
theorem doc_check (n b0 b1 b2 b3 : Nat) (h0 : 128 ≤ b0) (h0' : b0 < 256) : checkN n b1 b2 b3 (firstT b0 % 8) (accLo (firstT b0 / 16)) (accHi (firstT b0 / 16)) = docN n b0 b1 b2 b3 := by
  have hf := first_of ⟨b0, h0'⟩ h0
  dsimp only at hf
  generalize firstT b0 % 8 = sz at *
  generalize accLo (firstT b0 / 16) = lo at *
  generalize accHi (firstT b0 / 16) = hi at *
  unfold docN
  simp only [contN_iff]
  by_cases c0 : b0 < 194
  · rw [if_pos c0] at hf
    obtain ⟨rfl, rfl, rfl⟩ : sz = 1 ∧ lo = 0 ∧ hi = 0 := by simpa using hf
    rw [chk1, if_neg (by omega), if_neg (by omega)]
    split
    · rw [if_neg (by omega)]
    · rfl
  rw [if_neg c0] at hf
  by_cases c1 : b0 < 224
  · rw [if_pos c1] at hf
    obtain ⟨rfl, rfl, rfl⟩ : sz = 2 ∧ lo = 128 ∧ hi = 191 := by simpa using hf
    rw [chk2, if_neg (show ¬ 240 ≤ b0 by omega), if_neg (show ¬ 224 ≤ b0 by omega), if_pos (show 192 ≤ b0 by omega)]
    exact (some_if 2 (by omega)).symm
  rw [if_neg c1] at hf
  by_cases c2 : b0 = 224
  · rw [if_pos c2] at hf
    obtain ⟨rfl, rfl, rfl⟩ : sz = 3 ∧ lo = 160 ∧ hi = 191 := by simpa using hf
    rw [chk3, if_neg (show ¬ 240 ≤ b0 by omega), if_pos (show 224 ≤ b0 by omega)]
    exact (some_if 3 (by omega)).symm
  rw [if_neg c2] at hf
  by_cases c3 : b0 = 237
  · rw [if_pos c3] at hf
    obtain ⟨rfl, rfl, rfl⟩ : sz = 3 ∧ lo = 128 ∧ hi = 159 := by simpa using hf
    rw [chk3, if_neg (show ¬ 240 ≤ b0 by omega), if_pos (show 224 ≤ b0 by omega)]
    exact (some_if 3 (by omega)).symm
  rw [if_neg c3] at hf
  by_cases c4 : b0 < 240
  · rw [if_pos c4] at hf
    obtain ⟨rfl, rfl, rfl⟩ : sz = 3 ∧ lo = 128 ∧ hi = 191 := by simpa using hf
    rw [chk3, if_neg (show ¬ 240 ≤ b0 by omega), if_pos (show 224 ≤ b0 by omega)]
    exact (some_if 3 (by omega)).symm
  rw [if_neg c4] at hf
  by_cases c5 : b0 = 240
  · rw [if_pos c5] at hf
    obtain ⟨rfl, rfl, rfl⟩ : sz = 4 ∧ lo = 144 ∧ hi = 191 := by simpa using hf
    rw [chk4, if_pos (show 240 ≤ b0 by omega)]
    exact (some_if 4 (by omega)).symm
  rw [if_neg c5] at hf
  by_cases c6 : b0 < 244
  · rw [if_pos c6] at hf
    obtain ⟨rfl, rfl, rfl⟩ : sz = 4 ∧ lo = 128 ∧ hi = 191 := by simpa using hf
    rw [chk4, if_pos (show 240 ≤ b0 by omega)]
    exact (some_if 4 (by omega)).symm
  rw [if_neg c6] at hf
  by_cases c7 : b0 = 244
  · rw [if_pos c7] at hf
    obtain ⟨rfl, rfl, rfl⟩ : sz = 4 ∧ lo = 128 ∧ hi = 143 := by simpa using hf
    rw [chk4, if_pos (show 240 ≤ b0 by omega)]
    exact (some_if 4 (by omega)).symm
  rw [if_neg c7] at hf
  obtain ⟨rfl, rfl, rfl⟩ : sz = 1 ∧ lo = 0 ∧ hi = 0 := by simpa using hf
  rw [chk1, if_pos (by omega), if_neg (by omega)]
/-- UTF-8, one character at a time, as the document goes. -/
theorem utf_step (l : List UInt8) (hne : l ≠ []) : validD l = if (l.getD 0 0).toNat < 128 then validD (l.drop 1) else match docN l.length (l.getD 0 0).toNat (l.getD 1 0).toNat (l.getD 2 0).toNat (l.getD 3 0).toNat with
    | none => false
    | some k => validD (l.drop k) := by
  by_cases h : (l.getD 0 0).toNat < 128
  · rw [if_pos h]
    match l, hne, h with
    | c :: r, _, h => exact validD_cons c r h
  · rw [if_neg h, validD_lead l hne (by omega), doc_check _ _ _ _ _ (by omega) (UInt8.toNat_lt _)]
    generalize docN _ _ _ _ _ = o
    cases o <;> rfl
end Go.Proofs.YtdfpnhdamkogcaaGreatDoor.Mt
