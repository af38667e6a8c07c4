/-
  Filters within filters, so deep; and filters beside filters, so many: in plain lists.
-/
import Derived.Test.YtnlbhmjgeedgpaaDoorFtM
set_option linter.unusedVariables false
set_option linter.unusedSimpArgs false
namespace Go.Proofs.YtnlbhmjgeedgpaaDoor.Mt

theorem nextIs_self (c : UInt8) (l : List UInt8) : nextIs c (c :: l) = true := by simp [nextIs]
def nsgn (i : Nat) : UInt8 := if i % 3 = 0 then 38 else if i % 3 = 1 then 124 else 33
def nestF : Nat → Fl
  | 0 => .mk 7 [97] [] [] []
  | i + 1 => .mk ((i % 3 : Nat) : Int) [] [] [] [nestF i]
def nestT : Nat → List UInt8
  | 0 => [40, 97, 61, 42, 41]
  | i + 1 => 40 :: nsgn i :: (nestT i ++ [41])
theorem nestT_length : ∀ i, (nestT i).length = 5 + 3 * i
  | 0 => rfl
  | i + 1 => by simp [nestT, nestT_length i]; omega
theorem nestT_head : ∀ i x, nextIs 40 (nestT i ++ x) = true
  | 0, _ => rfl
  | i + 1, _ => rfl
theorem leaf_star (x : List UInt8) : leafL (97 :: 61 :: 42 :: 41 :: x) = .ok (.mk 7 [97] [] [] [], 41 :: x) := by
  have h1 : typPre (97 :: 61 :: 42 :: 41 :: x) = [97] := rfl
  have h2 : valP (42 :: 41 :: x) = some ([[], []], x) := by
    unfold valP
    rw [if_neg (by decide), if_pos rfl]
    unfold valP
    rw [if_pos rfl]; rfl
  have h3 : afterA ((97 :: 61 :: 42 :: 41 :: x).drop ([97] : List UInt8).length) = some (3, 42 :: 41 :: x) := rfl
  have h4 : flL 3 [[], []] = some (7, [], []) := rfl
  unfold leafL
  rw [h1, if_neg (by simp), h3]
  simp only
  rw [h2]
  simp only
  rw [h4]
theorem inner_kids {p : Nat → List UInt8 → PR} {c : UInt8} (hc : c = 38 ∨ c = 124 ∨ c = 33) {n : Nat} {l : List UInt8} (h40 : nextIs 40 l = true) : innerP p n (c :: l) = if c = 33 then (match p n l with | .error e => .error e | .ok (f, m, x) => .ok (.mk 2 [] [] [] [f], m, x)) else kidsP p (if c = 38 then 0 else 1) n l := by
  rcases hc with rfl | rfl | rfl <;> rfl
theorem kids_one {p : Nat → List UInt8 → PR} {k : Int} {n m : Nat} {l x : List UInt8} {f : Fl} (h40 : nextIs 40 l = true) (hp : p n l = .ok (f, m, 41 :: x)) : kidsP p k n l = .ok (.mk k [] [] [] [f], m, 41 :: x) := by
  unfold kidsP
  match l, h40 with
  | c :: r, h40 =>
    simp only [List.length_cons, listP]
    rw [if_pos h40, hp]
    simp only
    have : listP p r.length m (41 :: x) = .ok ([], m, 41 :: x) := by
      cases r.length with
      | zero => rfl
      | succ j => rfl
    rw [this]
theorem kids_bad {p : Nat → List UInt8 → PR} {k : Int} {n e : Nat} {l : List UInt8} (h40 : nextIs 40 l = true) (hp : p n l = .error e) : kidsP p k n l = .error e := by
  unfold kidsP
  match l, h40 with
  | c :: r, h40 =>
    simp only [List.length_cons, listP]
    rw [if_pos h40, hp]
theorem nsgn_cases (i : Nat) : nsgn i = 38 ∧ ((i % 3 : Nat) : Int) = 0 ∨ nsgn i = 124 ∧ ((i % 3 : Nat) : Int) = 1 ∨ nsgn i = 33 ∧ ((i % 3 : Nat) : Int) = 2 := by
  unfold nsgn
  have h : i % 3 = 0 ∨ i % 3 = 1 ∨ i % 3 = 2 := by omega
  rcases h with h | h | h <;> rw [h] <;> decide
theorem filt_nest : ∀ (j g n : Nat) (x : List UInt8), n + j < 1000 → filtP g n (nestT j ++ x) = if j < g then .ok (nestF j, n + j + 1, x) else .error 6
  | 0, 0, n, x, h => rfl
  | 0, g + 1, n, x, h => by
    rw [if_pos (by omega)]
    have e : nestT 0 ++ x = 40 :: 97 :: 61 :: 42 :: 41 :: x := rfl
    rw [e]
    unfold filtP
    rw [if_pos (nextIs_self _ _), if_neg (by omega)]
    have hi : innerP (filtP g) (n + 1) (40 :: 97 :: 61 :: 42 :: 41 :: x).tail = .ok (.mk 7 [97] [] [] [], n + 1, 41 :: x) := by
      unfold innerP
      rw [if_neg (by simp [nextIs]), if_neg (by simp [nextIs]), if_neg (by simp [nextIs])]
      show (match leafL (97 :: 61 :: 42 :: 41 :: x) with | .error e => _ | .ok (f, x) => _) = _
      rw [leaf_star]
    rw [hi]
    rfl
  | j + 1, 0, n, x, h => by rw [if_neg (by omega)]; rfl
  | j + 1, g + 1, n, x, h => by
    have ih := filt_nest j g (n + 1) (41 :: x) (by omega)
    have e : nestT (j + 1) ++ x = 40 :: nsgn j :: (nestT j ++ 41 :: x) := by simp [nestT]
    rw [e]
    have h40 := nestT_head j (41 :: x)
    unfold filtP
    rw [if_pos (nextIs_self _ _), if_neg (by omega)]
    show endP (innerP (filtP g) (n + 1) (nsgn j :: (nestT j ++ 41 :: x))) = _
    obtain ⟨hs, hk⟩ | ⟨hs, hk⟩ | ⟨hs, hk⟩ := nsgn_cases j
    · rw [hs, inner_kids (.inl rfl) h40, if_neg (by decide), if_pos rfl]
      by_cases hj : j < g
      · rw [if_pos hj] at ih
        rw [kids_one h40 ih, if_pos (by omega)]
        show (.ok (_, _, _) : PR) = _
        simp only [nestF, hk, show n + 1 + j + 1 = n + (j + 1) + 1 by omega]
        rfl
      · rw [if_neg hj] at ih
        rw [kids_bad h40 ih, if_neg (by omega)]; rfl
    · rw [hs, inner_kids (.inr (.inl rfl)) h40, if_neg (by decide), if_neg (by decide)]
      by_cases hj : j < g
      · rw [if_pos hj] at ih
        rw [kids_one h40 ih, if_pos (by omega)]
        simp only [nestF, hk, show n + 1 + j + 1 = n + (j + 1) + 1 by omega]
        rfl
      · rw [if_neg hj] at ih
        rw [kids_bad h40 ih, if_neg (by omega)]; rfl
    · rw [hs, inner_kids (.inr (.inr rfl)) h40, if_pos rfl]
      by_cases hj : j < g
      · rw [if_pos hj] at ih
        rw [ih, if_pos (by omega)]
        simp only [nestF, hk, show n + 1 + j + 1 = n + (j + 1) + 1 by omega]
        rfl
      · rw [if_neg hj] at ih
        rw [ih, if_neg (by omega)]; rfl
theorem parse_nest {j : Nat} (h : j < 70) : parseF (nestT j) = if j < 64 then .ok (nestF j) else .error 6 := by
  unfold parseF
  rw [if_neg (by rw [nestT_length]; omega)]
  have := filt_nest j 64 0 [] (by omega)
  rw [List.append_nil] at this
  rw [this]
  by_cases h6 : j < 64
  · rw [if_pos h6, if_pos h6]; rfl
  · rw [if_neg h6, if_neg h6]
theorem chk_nest : ∀ (j g n : Nat), n + j < 1000 → chkF g n (nestF j) = if j < g then .ok (n + j + 1) else .error 6
  | 0, 0, n, _ => rfl
  | 0, g + 1, n, h => by
    rw [if_pos (show 0 < g + 1 by omega)]
    unfold chkF
    rw [if_neg (by omega)]
    rfl
  | j + 1, 0, n, _ => by rw [if_neg (by omega)]; rfl
  | j + 1, g + 1, n, h => by
    have ih := chk_nest j g (n + 1) (by omega)
    unfold chkF
    rw [if_neg (by omega)]
    have hb : brN (nestF (j + 1)).kind = true := by
      have hk : (nestF (j + 1)).kind = ((j % 3 : Nat) : Int) := rfl
      rw [hk]
      rcases nsgn_cases j with ⟨_, e⟩ | ⟨_, e⟩ | ⟨_, e⟩ <;> rw [e] <;> rfl
    rw [if_pos hb, if_neg (by simp [nestF, Fl.kids])]
    simp only [nestF, Fl.kids, chkAll]
    rw [ih]
    by_cases hj : j < g
    · rw [if_pos hj, if_pos (by omega)]; simp only [show n + 1 + j + 1 = n + (j + 1) + 1 by omega]
    · rw [if_neg hj, if_neg (by omega)]
/-! ### many -/
def andF : Fl := .mk 0 [] [] [] []
def wideF (n : Nat) : Fl := .mk 1 [] [] [] (List.replicate n andF)
def wideK : Nat → List UInt8
  | 0 => []
  | n + 1 => wideK n ++ [40, 38, 41]
def wideT (n : Nat) : List UInt8 := [40, 124] ++ wideK n
theorem wideK_length : ∀ n, (wideK n).length = 3 * n
  | 0 => rfl
  | n + 1 => by simp [wideK, wideK_length n]; omega
theorem wideK_cons : ∀ n, wideK (n + 1) = [40, 38, 41] ++ wideK n
  | 0 => rfl
  | n + 1 => by
    show wideK (n + 1) ++ [40, 38, 41] = [40, 38, 41] ++ (wideK n ++ [40, 38, 41])
    rw [wideK_cons n]
    exact List.append_assoc _ _ _
theorem filt_and (g m : Nat) (y : List UInt8) : filtP (g + 1) m (40 :: 38 :: 41 :: y) = if 1000 ≤ m then .error 9 else .ok (andF, m + 1, y) := by
  unfold filtP
  rw [if_pos (nextIs_self _ _)]
  by_cases h : 1000 ≤ m
  · rw [if_pos h, if_pos h]
  · rw [if_neg h, if_neg h]
    have : innerP (filtP g) (m + 1) (40 :: 38 :: 41 :: y).tail = .ok (andF, m + 1, 41 :: y) := by
      show (if nextIs 38 (38 :: 41 :: y) = true then kidsP (filtP g) 0 (m + 1) (41 :: y) else _) = _
      rw [if_pos (nextIs_self _ _)]
      rfl
    rw [this]; rfl
theorem list_wide (g : Nat) : ∀ (n m k : Nat), n ≤ k → m ≤ 1000 → listP (filtP (g + 1)) k m (wideK n ++ [41]) = if m + n ≤ 1000 then .ok (List.replicate n andF, m + n, [41]) else .error 9
  | 0, m, k, _, hm => by
    rw [if_pos (by omega)]
    cases k <;> rfl
  | n + 1, m, 0, h, _ => by omega
  | n + 1, m, k + 1, h, hm => by
    have e : wideK (n + 1) ++ [41] = 40 :: 38 :: 41 :: (wideK n ++ [41]) := by rw [wideK_cons]; rfl
    rw [e]
    unfold listP
    rw [if_pos (nextIs_self _ _), filt_and]
    by_cases h1 : 1000 ≤ m
    · rw [if_pos h1, if_neg (by omega)]
    · rw [if_neg h1]
      simp only
      rw [list_wide g n (m + 1) k (by omega) (by omega)]
      by_cases h2 : m + (n + 1) ≤ 1000
      · rw [if_pos (by omega), if_pos h2]
        simp only [List.replicate_succ, show m + 1 + n = m + (n + 1) by omega]
      · rw [if_neg (by omega), if_neg h2]
theorem parse_wide {n : Nat} (h : n ≤ 1300) : parseF (wideT n ++ [41]) = if n + 1 ≤ 1000 then .ok (wideF n) else .error 9 := by
  unfold parseF
  rw [if_neg (by simp [wideT, wideK_length]; omega)]
  have hk : kidsP (filtP 63) 1 1 (wideK n ++ [41]) = if n + 1 ≤ 1000 then .ok (wideF n, n + 1, [41]) else .error 9 := by
    unfold kidsP
    rw [list_wide 62 n 1 _ (by simp [wideK_length]; omega) (by omega)]
    by_cases h2 : n + 1 ≤ 1000
    · rw [if_pos (by omega), if_pos h2]; simp only [wideF, show 1 + n = n + 1 by omega]
    · rw [if_neg (by omega), if_neg h2]
  have hf : filtP 64 0 (wideT n ++ [41]) = endP (kidsP (filtP 63) 1 1 (wideK n ++ [41])) := rfl
  rw [hf, hk]
  by_cases h2 : n + 1 ≤ 1000
  · rw [if_pos h2, if_pos h2]; rfl
  · rw [if_neg h2, if_neg h2]; rfl
theorem chk_and (g m : Nat) : chkF (g + 1) m andF = if 1000 ≤ m then .error 9 else .ok (m + 1) := by
  unfold chkF
  by_cases h : 1000 ≤ m
  · rw [if_pos h, if_pos h]
  · rw [if_neg h, if_neg h]; rfl
theorem chkAll_wide (g : Nat) : ∀ (n m : Nat), m ≤ 1000 → chkAll (chkF (g + 1)) m (List.replicate n andF) = if m + n ≤ 1000 then .ok (m + n) else .error 9
  | 0, m, hm => by rw [if_pos (by omega)]; rfl
  | n + 1, m, hm => by
    rw [List.replicate_succ]
    simp only [chkAll]
    rw [chk_and]
    by_cases h1 : 1000 ≤ m
    · rw [if_pos h1, if_neg (by omega)]
    · rw [if_neg h1]
      simp only
      rw [chkAll_wide g n (m + 1) (by omega)]
      by_cases h2 : m + (n + 1) ≤ 1000
      · rw [if_pos (by omega), if_pos h2]; simp only [show m + 1 + n = m + (n + 1) by omega]
      · rw [if_neg (by omega), if_neg h2]
theorem chk_wide (n : Nat) : errE (chkF 64 0 (wideF n)) = if n + 1 ≤ 1000 then 0 else 9 := by
  have : chkF 64 0 (wideF n) = chkAll (chkF 63) 1 (List.replicate n andF) := rfl
  rw [this, chkAll_wide 62 n 1 (by omega)]
  by_cases h2 : n + 1 ≤ 1000
  · rw [if_pos (by omega), if_pos h2]; rfl
  · rw [if_neg (by omega), if_neg h2]; rfl
end Go.Proofs.YtnlbhmjgeedgpaaDoor.Mt
