/-
  Filters as trees, and what texts say them, in plain lists. Nothing of the program stands here.
-/
import Derived.Test.YtnlbhmjgeedgpaaDoorDnMath
import Derived.Test.YtnlbhmjgeedgpaaDoorSyMath
set_option linter.unusedVariables false
set_option linter.unusedSimpArgs false
namespace Go.Proofs.YtnlbhmjgeedgpaaDoor.Mt

/-- A filter. -/
inductive Fl where
  | mk (kind : Int) (attr value : List UInt8) (pcs : List Pc) (kids : List Fl)
def Fl.kind : Fl → Int | .mk k _ _ _ _ => k
def Fl.attr : Fl → List UInt8 | .mk _ a _ _ _ => a
def Fl.value : Fl → List UInt8 | .mk _ _ v _ _ => v
def Fl.pcs : Fl → List Pc | .mk _ _ _ p _ => p
def Fl.kids : Fl → List Fl | .mk _ _ _ _ k => k

def nextIs (c : UInt8) : List UInt8 → Bool
  | [] => false
  | x :: _ => x == c
theorem nextIs_cons {c : UInt8} {l : List UInt8} (h : nextIs c l = true) : ∃ r, l = c :: r := by
  match l with
  | [] => cases h
  | x :: r => exact ⟨r, by rw [show x = c from by simpa [nextIs] using h]⟩
def guardF (c : UInt8) : Bool := c == 0 || c == 40 || c == 41 || c == 42 || c == 92
/-- What bytes a text says. -/
def readF : List UInt8 → Option (List UInt8)
  | [] => some []
  | c :: r =>
    if guardF c = false then (readF r).map (c :: ·)
    else if c = 92 then match r with
      | a :: b :: t => if (unhex [a, b]).2 = true then (readF t).map ((unhex [a, b]).1 ++ ·) else none
      | _ => none
    else none
/-- Texts with a byte between two. -/
def splitF (d : UInt8) : List UInt8 → List (List UInt8)
  | [] => [[]]
  | c :: r => if c = d then [] :: splitF d r else match splitF d r with
    | [] => [[c]]
    | p :: ps => (c :: p) :: ps
theorem splitF_ne (d : UInt8) : ∀ l, splitF d l ≠ []
  | [] => by simp [splitF]
  | c :: r => by
    unfold splitF
    split
    · simp
    · split <;> simp
def readAllF : List (List UInt8) → Option (List (List UInt8))
  | [] => some []
  | t :: r => match readF t with
    | none => none
    | some v => (readAllF r).map (v :: ·)
/-- A text on ahead of the first. -/
def onFst (t : List UInt8) : Option (List (List UInt8) × List UInt8) → Option (List (List UInt8) × List UInt8)
  | some (p :: ps, y) => some ((t ++ p) :: ps, y)
  | _ => none
def onNew : Option (List (List UInt8) × List UInt8) → Option (List (List UInt8) × List UInt8)
  | some (ps, y) => some ([] :: ps, y)
  | none => none
/-- A value up to its parenthesis: its parts, and what is behind. -/
def valP : List UInt8 → Option (List (List UInt8) × List UInt8)
  | [] => none
  | c :: r =>
    if c = 41 then some ([[]], r)
    else if c = 42 then onNew (valP r)
    else if c = 92 then match r with
      | a :: b :: t => if (unhex [a, b]).2 = true then onFst (unhex [a, b]).1 (valP t) else none
      | _ => none
    else if c = 0 ∨ c = 40 then none
    else onFst [c] (valP r)
/-- The longest type that a text begins with. -/
def typPre : List UInt8 → List UInt8
  | [] => []
  | c :: r => if letN c.toNat = true then c :: (r.takeWhile fun c => tyN c.toNat).take 31 else []
def signK (c : UInt8) : Int := if c = 62 then 5 else if c = 60 then 6 else 8
def afterA : List UInt8 → Option (Int × List UInt8)
  | [] => none
  | c :: r => if c = 61 then some (3, r) else if c = 62 ∨ c = 60 ∨ c = 126 then (match r with | [] => none | d :: x => if d = 61 then some (signK c, x) else none) else none
def pcsF (n : Nat) : Nat → List (List UInt8) → List Pc
  | _, [] => []
  | i, p :: r => if p = [] ∧ (i = 0 ∨ i + 1 = n) then pcsF n (i + 1) r else (if i = 0 then 0 else if i + 1 = n then 2 else 1, p) :: pcsF n (i + 1) r
def piecesL (ps : List (List UInt8)) : List Pc := pcsF ps.length 0 ps
/-- What is asserted by parts behind a sign. -/
def flL (k : Int) (ps : List (List UInt8)) : Option (Int × List UInt8 × List Pc) :=
  if ps.length = 1 then some (k, ps.headD [], [])
  else if k ≠ 3 then none
  else if ps = [[], []] then some (7, [], [])
  else if soundB (piecesL ps) = true then some (4, [], piecesL ps) else none
/-- A filter without others in it; the parenthesis behind it stays. -/
def leafL (l : List UInt8) : Except Nat (Fl × List UInt8) :=
  if typPre l = [] then .error 4 else
  match afterA (l.drop (typPre l).length) with
  | none => .error 4
  | some (k, x) => match valP x with
    | none => .error 4
    | some (ps, y) => match flL k ps with
      | none => .error 4
      | some (k', v, q) => .ok (.mk k' (typPre l) v q [], 41 :: y)
abbrev PR := Except Nat (Fl × Nat × List UInt8)
abbrev PS := Except Nat (List Fl × Nat × List UInt8)
def listP (p : Nat → List UInt8 → PR) : Nat → Nat → List UInt8 → PS
  | 0, n, l => .ok ([], n, l)
  | k + 1, n, l => if nextIs 40 l = true then
      match p n l with
      | .error e => .error e
      | .ok (f, m, x) => match listP p k m x with
        | .error e => .error e
        | .ok (fs, m2, y) => .ok (f :: fs, m2, y)
    else .ok ([], n, l)
def kidsP (p : Nat → List UInt8 → PR) (kind : Int) (n : Nat) (l : List UInt8) : PR := match listP p l.length n l with
  | .error e => .error e
  | .ok (fs, m, x) => .ok (.mk kind [] [] [] fs, m, x)
def innerP (p : Nat → List UInt8 → PR) (n : Nat) (l : List UInt8) : PR :=
  if nextIs 38 l = true then kidsP p 0 n l.tail
  else if nextIs 124 l = true then kidsP p 1 n l.tail
  else if nextIs 33 l = true then match p n l.tail with
    | .error e => .error e
    | .ok (f, m, x) => .ok (.mk 2 [] [] [] [f], m, x)
  else match leafL l with
    | .error e => .error e
    | .ok (f, x) => .ok (f, n, x)
def endP : PR → PR
  | .error e => .error e
  | .ok (f, m, x) => if nextIs 41 x = true then .ok (f, m, x.tail) else .error 4
/-- A filter, so many depths being left, so many filters having been met. -/
def filtP : Nat → Nat → List UInt8 → PR
  | 0, _, l => if nextIs 40 l = true then .error 6 else .error 4
  | g + 1, n, l => if nextIs 40 l = true then (if 1000 ≤ n then .error 9 else endP (innerP (filtP g) (n + 1) l.tail)) else .error 4
def parseF (l : List UInt8) : Except Nat Fl :=
  if 4096 < l.length then .error 5 else match filtP 64 0 l with
    | .error e => .error e
    | .ok (f, _, x) => if x = [] then .ok f else .error 4

/-! ### lengths -/
theorem onFst_some {t : List UInt8} {o : Option (List (List UInt8) × List UInt8)} {ps : List (List UInt8)} {y : List UInt8} (h : onFst t o = some (ps, y)) : ∃ p qs, o = some (p :: qs, y) ∧ ps = (t ++ p) :: qs := by
  match o with
  | none => cases h
  | some ([], y') => cases h
  | some (p :: qs, y') =>
    simp only [onFst, Option.some.injEq, Prod.mk.injEq] at h
    exact ⟨p, qs, by rw [h.2], h.1.symm⟩
theorem onNew_some {o : Option (List (List UInt8) × List UInt8)} {ps : List (List UInt8)} {y : List UInt8} (h : onNew o = some (ps, y)) : ∃ qs, o = some (qs, y) ∧ ps = [] :: qs := by
  match o with
  | none => cases h
  | some (qs, y') =>
    simp only [onNew, Option.some.injEq, Prod.mk.injEq] at h
    exact ⟨qs, by rw [h.2], h.1.symm⟩
theorem unhex_two' (d e : UInt8) : (Mt.unhex [d, e]) = match Mt.hv d.toNat, Mt.hv e.toNat with | some x, some y => ([UInt8.ofNat (16 * x + y)], true) | _, _ => ([], false) := by
  cases hx : Mt.hv d.toNat with
  | none =>
    rw [Mt.unhex_bad (l := [d, e]) (k := 0) (by simp) (Mt.pv_none1 (by simpa using hx))]
  | some x =>
    cases hy : Mt.hv e.toNat with
    | none => rw [Mt.unhex_bad (l := [d, e]) (k := 0) (by simp) (Mt.pv_none2 (by simpa using hy))]
    | some y =>
      have hp := Mt.pv_some (l := [d, e]) (k := 0) (x := x) (y := y) (by simpa using hx) (by simpa using hy)
      have hu := Mt.uh_some (l := [d, e]) (k := 0) (o := []) rfl hp
      rw [Mt.unhex_good (l := [d, e]) (o := [UInt8.ofNat (16 * x + y)]) (by simp) (by simpa using hu)]
theorem unhex2_len (a b : UInt8) : (unhex [a, b]).1.length ≤ 1 := by
  rw [unhex_two']
  cases hv a.toNat <;> cases hv b.toNat <;> simp
theorem valP_len : ∀ {l : List UInt8} {ps : List (List UInt8)} {y : List UInt8}, valP l = some (ps, y) → y.length < l.length ∧ ps.length ≤ l.length ∧ ps ≠ [] ∧ ∀ p ∈ ps, p.length ≤ l.length
  | [], _, _, h => by cases h
  | c :: r, ps, y, h => by
    unfold valP at h
    split at h
    · simp only [Option.some.injEq, Prod.mk.injEq] at h
      obtain ⟨rfl, rfl⟩ := h
      simp
    · split at h
      · obtain ⟨qs, h1, rfl⟩ := onNew_some h
        obtain ⟨h2, h3, h4, h5⟩ := valP_len h1
        refine ⟨by simp; omega, by simp; omega, by simp, fun p hp => ?_⟩
        rcases List.mem_cons.1 hp with rfl | hp
        · simp
        · have := h5 p hp; simp; omega
      · split at h
        · split at h
          · rename_i a b t
            split at h
            · obtain ⟨p, qs, h1, rfl⟩ := onFst_some h
              obtain ⟨h2, h3, h4, h5⟩ := valP_len h1
              have hu := unhex2_len a b
              simp only [List.length_cons] at h2 h3 ⊢
              refine ⟨by omega, by omega, by simp, fun q hq => ?_⟩
              rcases List.mem_cons.1 hq with rfl | hq
              · have := h5 p (by simp); rw [List.length_append]; omega
              · have := h5 q (by simp [hq]); omega
            · cases h
          · cases h
        · split at h
          · cases h
          · obtain ⟨p, qs, h1, rfl⟩ := onFst_some h
            obtain ⟨h2, h3, h4, h5⟩ := valP_len h1
            simp only [List.length_cons] at h2 h3 ⊢
            refine ⟨by omega, by omega, by simp, fun q hq => ?_⟩
            rcases List.mem_cons.1 hq with rfl | hq
            · have := h5 p (by simp); simp; omega
            · have := h5 q (by simp [hq]); omega
theorem pcsF_len (n : Nat) : ∀ (ps : List (List UInt8)) (i : Nat), (pcsF n i ps).length ≤ ps.length ∧ ∀ q ∈ pcsF n i ps, ∃ p ∈ ps, q.2 = p
  | [], _ => by simp [pcsF]
  | p :: r, i => by
    obtain ⟨h1, h2⟩ := pcsF_len n r (i + 1)
    unfold pcsF
    split
    · exact ⟨by simp; omega, fun q hq => by obtain ⟨p', hp', e⟩ := h2 q hq; exact ⟨p', by simp [hp'], e⟩⟩
    · refine ⟨by simp; omega, fun q hq => ?_⟩
      rcases List.mem_cons.1 hq with rfl | hq
      · exact ⟨p, by simp, rfl⟩
      · obtain ⟨p', hp', e⟩ := h2 q hq; exact ⟨p', by simp [hp'], e⟩
theorem typPre_len : ∀ l : List UInt8, (typPre l).length ≤ 32 ∧ (typPre l).length ≤ l.length
  | [] => by simp [typPre]
  | c :: r => by
    simp only [typPre]
    split
    · have h2 := (List.takeWhile_prefix (fun c : UInt8 => tyN c.toNat) (l := r)).length_le
      simp only [List.length_cons, List.length_take]; omega
    · simp
theorem afterA_len : ∀ {l : List UInt8} {k : Int} {x : List UInt8}, afterA l = some (k, x) → x.length < l.length
  | [], _, _, h => by cases h
  | c :: r, k, x, h => by
    simp only [afterA] at h
    split at h
    · simp only [Option.some.injEq, Prod.mk.injEq] at h; obtain ⟨_, rfl⟩ := h; simp
    · split at h
      · split at h
        · cases h
        · split at h
          · simp only [Option.some.injEq, Prod.mk.injEq] at h; obtain ⟨_, rfl⟩ := h; simp; omega
          · cases h
      · cases h
/-- The sizes of a leaf. -/
theorem leafL_ok {l : List UInt8} {f : Fl} {x : List UInt8} (h : leafL l = .ok (f, x)) : x.length < l.length ∧ f.attr.length ≤ 32 ∧ f.value.length ≤ l.length ∧ f.pcs.length ≤ l.length ∧ (∀ q ∈ f.pcs, q.2.length ≤ l.length) ∧ f.kids = [] := by
  unfold leafL at h
  have ht := typPre_len l
  split at h
  · cases h
  · rename_i hne
    have h0 : 0 < (typPre l).length := List.length_pos_iff.2 hne
    split at h
    · cases h
    · rename_i k x1 ha
      have h1 := afterA_len ha
      rw [List.length_drop] at h1
      split at h
      · cases h
      · rename_i ps y hv
        obtain ⟨v1, v2, v3, v4⟩ := valP_len hv
        split at h
        · cases h
        · rename_i k' v q hf
          simp only [Except.ok.injEq, Prod.mk.injEq] at h
          obtain ⟨rfl, rfl⟩ := h
          simp only [Fl.attr, Fl.value, Fl.pcs, Fl.kids, List.length_cons]
          unfold flL at hf
          split at hf
          · simp only [Option.some.injEq, Prod.mk.injEq] at hf
            obtain ⟨_, rfl, rfl⟩ := hf
            refine ⟨by omega, ht.1, ?_, by simp, by simp, trivial⟩
            match ps, v3 with
            | p :: r, _ => have := v4 p (by simp); simp; omega
          · split at hf
            · cases hf
            · split at hf
              · simp only [Option.some.injEq, Prod.mk.injEq] at hf
                obtain ⟨_, rfl, rfl⟩ := hf
                exact ⟨by omega, ht.1, by simp, by simp, by simp, trivial⟩
              · split at hf
                · simp only [Option.some.injEq, Prod.mk.injEq] at hf
                  obtain ⟨_, rfl, rfl⟩ := hf
                  obtain ⟨p1, p2⟩ := pcsF_len ps.length ps 0
                  refine ⟨by omega, ht.1, by simp, by unfold piecesL; omega, fun q hq => ?_, trivial⟩
                  obtain ⟨p, hp, e⟩ := p2 q hq
                  have := v4 p hp
                  rw [e]; omega
                · cases hf
/-- Each reads a byte at least. -/
def Eats (p : Nat → List UInt8 → PR) : Prop := ∀ n l f m x, p n l = .ok (f, m, x) → x.length < l.length
theorem listP_len {p : Nat → List UInt8 → PR} (hp : Eats p) : ∀ {k n : Nat} {l : List UInt8} {fs : List Fl} {m : Nat} {x : List UInt8}, listP p k n l = .ok (fs, m, x) → x.length + fs.length ≤ l.length
  | 0, n, l, fs, m, x, h => by
    simp only [listP, Except.ok.injEq, Prod.mk.injEq] at h
    obtain ⟨rfl, _, rfl⟩ := h; simp
  | k + 1, n, l, fs, m, x, h => by
    unfold listP at h
    split at h
    · split at h
      · cases h
      · rename_i f m1 x1 h1
        have := hp _ _ _ _ _ h1
        split at h
        · cases h
        · rename_i fs2 m2 y h2
          have := listP_len hp h2
          simp only [Except.ok.injEq, Prod.mk.injEq] at h
          obtain ⟨rfl, _, rfl⟩ := h
          simp; omega
    · simp only [Except.ok.injEq, Prod.mk.injEq] at h
      obtain ⟨rfl, _, rfl⟩ := h; simp
/-- More fuel than bytes makes no difference. -/
theorem listP_fuel {p : Nat → List UInt8 → PR} (hp : Eats p) : ∀ (k n : Nat) (l : List UInt8), l.length ≤ k → listP p k n l = listP p l.length n l
  | 0, n, l, h => by rw [show l.length = 0 by omega]
  | k + 1, n, l, h => by
    match l with
    | [] => rfl
    | c :: r =>
      rw [List.length_cons]
      unfold listP
      split
      · split
        · rfl
        · rename_i f m x h1
          have := hp _ _ _ _ _ h1
          simp at this h
          rw [listP_fuel hp k m x (by omega), listP_fuel hp r.length m x (by omega)]
      · rfl
/-- What is still to come, behind those that are there already. -/
def ontoF (ls : List Fl) : PS → PS
  | .error e => .error e
  | .ok (fs, m, x) => .ok (ls ++ fs, m, x)
theorem ontoF_nil (x : PS) : ontoF [] x = x := by cases x <;> rfl
theorem listP_no {p : Nat → List UInt8 → PR} {n : Nat} {l : List UInt8} (ls : List Fl) (h : nextIs 40 l = false) : ontoF ls (listP p l.length n l) = .ok (ls, n, l) := by
  match l with
  | [] => simp [listP, ontoF]
  | c :: r => simp [listP, h, ontoF]
theorem listP_bad {p : Nat → List UInt8 → PR} {n : Nat} {l : List UInt8} {e : Nat} (ls : List Fl) (h : nextIs 40 l = true) (hp : p n l = .error e) : ontoF ls (listP p l.length n l) = .error e := by
  match l with
  | [] => cases h
  | c :: r => simp [listP, h, hp, ontoF]
theorem listP_good {p : Nat → List UInt8 → PR} (hE : Eats p) {n m : Nat} {l x : List UInt8} {f : Fl} (ls : List Fl) (h : nextIs 40 l = true) (hp : p n l = .ok (f, m, x)) : ontoF ls (listP p l.length n l) = ontoF (ls ++ [f]) (listP p x.length m x) := by
  match l with
  | [] => cases h
  | c :: r =>
    have := hE _ _ _ _ _ hp
    simp at this
    simp only [List.length_cons, listP, h, hp, if_true]
    rw [listP_fuel hE r.length m x (by omega)]
    cases listP p x.length m x with
    | error e => rfl
    | ok t => obtain ⟨fs, m2, y⟩ := t; simp [ontoF]
theorem innerP_len {p : Nat → List UInt8 → PR} (hp : Eats p) {n : Nat} {l : List UInt8} {f : Fl} {m : Nat} {x : List UInt8} (h : innerP p n l = .ok (f, m, x)) : x.length ≤ l.length := by
  unfold innerP at h
  split at h
  · unfold kidsP at h
    split at h
    · cases h
    · rename_i fs m1 x1 h1
      have := listP_len hp h1
      rw [List.length_tail] at this
      simp only [Except.ok.injEq, Prod.mk.injEq] at h
      obtain ⟨_, _, rfl⟩ := h; omega
  · split at h
    · unfold kidsP at h
      split at h
      · cases h
      · rename_i fs m1 x1 h1
        have := listP_len hp h1
        rw [List.length_tail] at this
        simp only [Except.ok.injEq, Prod.mk.injEq] at h
        obtain ⟨_, _, rfl⟩ := h; omega
    · split at h
      · split at h
        · cases h
        · rename_i f1 m1 x1 h1
          have := hp _ _ _ _ _ h1
          rw [List.length_tail] at this
          simp only [Except.ok.injEq, Prod.mk.injEq] at h
          obtain ⟨_, _, rfl⟩ := h; omega
      · split at h
        · cases h
        · rename_i f1 x1 h1
          have := (leafL_ok h1).1
          simp only [Except.ok.injEq, Prod.mk.injEq] at h
          obtain ⟨_, _, rfl⟩ := h; omega
theorem filtP_eats : ∀ g : Nat, Eats (filtP g)
  | 0, n, l, f, m, x, h => by unfold filtP at h; split at h <;> cases h
  | g + 1, n, l, f, m, x, h => by
    unfold filtP at h
    split at h
    · rename_i h40
      split at h
      · cases h
      · unfold endP at h
        split at h
        · cases h
        · rename_i f1 m1 x1 h1
          have := innerP_len (filtP_eats g) h1
          obtain ⟨r, rfl⟩ := nextIs_cons h40
          split at h
          · simp only [Except.ok.injEq, Prod.mk.injEq] at h
            obtain ⟨_, _, rfl⟩ := h
            simp at this ⊢; omega
          · cases h
    · cases h
end Go.Proofs.YtnlbhmjgeedgpaaDoor.Mt
