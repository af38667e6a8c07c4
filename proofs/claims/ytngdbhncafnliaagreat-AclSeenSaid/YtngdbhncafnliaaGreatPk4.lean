/-
  Some texts of one proof, one behind the other.
-/
import Derived.Test.YtngdbhncafnliaaGreatPk0
import Derived.Test.YtngdbhncafnliaaGreatPk3
set_option linter.unusedVariables false
set_option linter.unusedSimpArgs false

/-
  Rules of access in plain lists: how they are read, of what they speak; the same by the document.
-/
namespace Go.Proofs.YtngdbhncafnliaaGreat.Mt

/-- A rule; also one that is read: keys in the places of its names. -/
structure Ru where
  who : Int
  dn : List UInt8
  wh : List UInt8
  att : List UInt8
  rights : Int
  allow : Bool

def okP (d : List (List Av)) : Bool := match printD d with
  | .ok _ => true
  | .error _ => false
def kyL (d : List (List Av)) : List UInt8 := textL normL d
theorem okP_iff {d : List (List Av)} : okP d = true ↔ ∃ t, printD d = .ok t := by
  unfold okP
  cases h : printD d with
  | error e => simp
  | ok t => simp
theorem key_ok {d : List (List Av)} (h : okP d = true) : keyD d = .ok (kyL d) := by
  obtain ⟨t, ht⟩ := okP_iff.1 h
  unfold keyD; rw [ht]; rfl
theorem ok_key {d : List (List Av)} {k : List UInt8} (h : keyD d = .ok k) : okP d = true ∧ k = kyL d := by
  unfold keyD at h
  cases hp : printD d with
  | error e => rw [hp] at h; cases h
  | ok t =>
    rw [hp] at h
    have hk : textL normL d = k := by injection h
    exact ⟨okP_iff.2 ⟨t, hp⟩, hk.symm⟩
theorem text_tailP (f : List Av → List (List UInt8)) (r : List Av) (t : List (List Av)) : (textL f t).length ≤ (textL f (r :: t)).length := by
  cases t with
  | nil => simp [textL]
  | cons q t =>
    unfold textL
    simp only [List.map_cons, inter_lenP, List.sum_cons, List.length_cons, List.length_nil]
    omega
theorem ok_tail {r : List Av} {t : List (List Av)} (h : okP (r :: t) = true) : okP t = true := by
  obtain ⟨x, hx⟩ := okP_iff.1 h
  obtain ⟨h32, hv, ht, hl⟩ := printD_good hx
  have hlong := print_long hx
  rw [okP_iff]
  refine ⟨_, printD_of (by simp at h32; omega) (fun q hq => hv q (List.mem_cons_of_mem _ hq)) ?_ ?_⟩
  · have := text_tailP speltL r t
    rw [← ht] at this
    omega
  · rw [List.any_eq_false] at hlong ⊢
    exact fun q hq => hlong q (List.mem_cons_of_mem _ hq)
theorem ok_drop : ∀ {d : List (List Av)} (k : Nat), okP d = true → okP (d.drop k) = true
  | [], k, h => by simpa using h
  | r :: t, 0, h => h
  | r :: t, k + 1, h => ok_drop (d := t) k (ok_tail h)
theorem ky_len {a b : List (List Av)} (ha : okP a = true) (hb : okP b = true) (h : kyL a = kyL b) : a.length = b.length := by
  have h1 := (key_reads (key_ok ha)).1
  have h2 := (key_reads (key_ok hb)).1
  rw [h, h2] at h1
  have h3 : b.map sortA = a.map sortA := by injection h1
  have := congrArg List.length h3
  simpa using this.symm
theorem okP_nil : okP [] = true := by rw [okP_iff]; exact ⟨[], by unfold printD; simp [askD, askF, textL]⟩
theorem ky_nil : kyL [] = [] := by simp [kyL, textL]
theorem ky_ne {d : List (List Av)} (h : okP d = true) : kyL d = [] ↔ d = [] := by
  constructor
  · intro he
    have := ky_len h okP_nil (by rw [he, ky_nil])
    exact List.eq_nil_of_length_eq_zero this
  · rintro rfl; exact ky_nil
/-- The keys of a name and of all above it. -/
def keysD (d : List (List Av)) : List (List UInt8) := if okP d = true then (List.range (d.length + 1)).map (fun i => kyL (d.drop i)) else []
theorem keys_ok {d : List (List Av)} (h : okP d = true) : keysD d = (List.range (d.length + 1)).map (fun i => kyL (d.drop i)) := if_pos h
theorem keys_no {d : List (List Av)} (h : okP d = false) : keysD d = [] := if_neg (by rw [h]; decide)
theorem keys_head {d : List (List Av)} (h : okP d = true) : (keysD d).headD [] = kyL d := by
  rw [keys_ok h, List.range_succ_eq_map]; simp
theorem keys_len (d : List (List Av)) : (keysD d).length ≤ d.length + 1 := by
  unfold keysD; split <;> simp
theorem keys_len_ok {d : List (List Av)} (h : okP d = true) : (keysD d).length = d.length + 1 := by rw [keys_ok h]; simp
theorem under_key {d b : List (List Av)} (hd : okP d = true) (hb : okP b = true) : underD d b = decide (kyL b ∈ keysD d) := by
  obtain ⟨t, ht⟩ := okP_iff.1 hd
  have hk := key_ok hb
  rw [Bool.eq_iff_iff, decide_eq_true_eq, keys_ok hd, List.mem_map]
  unfold underD
  rw [ht, hk]
  simp only [Bool.and_eq_true, decide_eq_true_eq]
  constructor
  · rintro ⟨h1, h2⟩
    exact ⟨d.length - b.length, by rw [List.mem_range]; omega, h2⟩
  · rintro ⟨i, hi, he⟩
    rw [List.mem_range] at hi
    have h1 := ky_len (ok_drop i hd) hb he
    rw [List.length_drop] at h1
    refine ⟨by omega, ?_⟩
    rw [show d.length - b.length = i by omega]
    exact he
theorem under_no {d b : List (List Av)} (h : okP d = false) : underD d b = false := by
  unfold underD okP at *
  cases hp : printD d with
  | error e => rfl
  | ok t => rw [hp] at h; cases h
def rightB (k : Int) : Bool := decide (k = 1 ∨ k = 2 ∨ k = 4 ∨ k = 8)
/-- Go's `&` of two ints. -/
def andI (x y : Int) : Int := IntKind.i64.wrap ((BitVec.ofInt 64 x &&& BitVec.ofInt 64 y).toNat : Int)
def bitB (x y : Int) : Bool := decide (andI x y ≠ 0)
theorem bit_div {x y : Int} (h1 : 1 ≤ x) (h2 : x ≤ 15) (hy : rightB y = true) : bitB x y = decide (Int.tmod (Int.tdiv x y) 2 = 1) := by
  have hn : ∀ n : Fin 16, ∀ m : Fin 4, bitB (n.val : Int) ((2 ^ m.val : Nat) : Int) = decide (Int.tmod (Int.tdiv (n.val : Int) ((2 ^ m.val : Nat) : Int)) 2 = 1) := by decide +kernel
  obtain ⟨n, rfl⟩ := Int.eq_ofNat_of_zero_le (show 0 ≤ x by omega)
  have hlt : n < 16 := by omega
  unfold rightB at hy
  rw [decide_eq_true_eq] at hy
  rcases hy with rfl | rfl | rfl | rfl
  · exact hn ⟨n, hlt⟩ 0
  · exact hn ⟨n, hlt⟩ 1
  · exact hn ⟨n, hlt⟩ 2
  · exact hn ⟨n, hlt⟩ 3
/-- A rule that is read, or what is wrong with it first. -/
def rdRu (s : Sc) (r : Ru) : Except Nat Ru :=
  if r.who < 0 ∨ 4 < r.who then .error 24 else
  match keyL r.dn with
  | .error e => .error e
  | .ok k => if r.dn ≠ [] ∧ r.who < 3 then .error 2 else
    match keyL r.wh with
    | .error e => .error e
    | .ok w => if r.att ≠ [] ∧ tyAt s r.att < 0 then .error 20 else if r.rights < 1 ∨ 15 < r.rights then .error 23 else .ok ⟨r.who, k, w, foldL r.att, r.rights, r.allow⟩
def rdF (s : Sc) : List Ru → List Ru → Except Nat (List Ru)
  | acc, [] => .ok acc
  | acc, r :: t => match rdRu s r with
    | .error e => .error e
    | .ok c => rdF s (acc ++ [c]) t
def adminC (d : List (List Av)) : List Ru := if d = [] then [] else [⟨3, kyL d, [], [], 15, true⟩]
def newA (s : Sc) (admin : List (List Av)) (rs : List Ru) : Except Nat (List Ru) := match keyD admin with
  | .error e => .error e
  | .ok _ => rdF s (adminC admin) rs
/-- The document's. -/
def rchkR (s : Sc) : List Ru → Nat
  | [] => 0
  | r :: t => if r.who < 0 ∨ 4 < r.who then 24 else match dnL r.dn with
    | .error e => e
    | .ok _ => if r.who < 3 ∧ r.dn ≠ [] then 2 else match dnL r.wh with
      | .error e => e
      | .ok _ => if r.att ≠ [] ∧ tyAt s r.att < 0 then 20 else if r.rights < 1 ∨ 15 < r.rights then 23 else rchkR s t
def rchkA (s : Sc) (admin : List (List Av)) (rs : List Ru) : Nat := match printD admin with
  | .error e => e
  | .ok _ => rchkR s rs
def errOf {α : Type} : Except Nat α → Nat
  | .error e => e
  | .ok _ => 0
theorem key_dn (l : List UInt8) : errOf (keyL l) = errOf (dnL l) := by
  cases h : dnL l with
  | error e => unfold keyL; rw [h]; rfl
  | ok d => rw [(read_key h).1]; rfl
theorem dn_err_pos {l : List UInt8} {d : List (List Av)} (h : dnL l = .ok d) : ∃ k, keyL l = .ok k := ⟨_, (read_key h).1⟩
theorem rdF_chk (s : Sc) : ∀ (rs acc : List Ru), errOf (rdF s acc rs) = rchkR s rs
  | [], acc => rfl
  | r :: t, acc => by
    unfold rdF rchkR
    have h1 := key_dn r.dn
    have h2 := key_dn r.wh
    by_cases hw : r.who < 0 ∨ 4 < r.who
    · have : rdRu s r = .error 24 := by unfold rdRu; rw [if_pos hw]
      rw [this, if_pos hw]; rfl
    rw [if_neg hw]
    cases hd : dnL r.dn with
    | error e =>
      have hk : keyL r.dn = .error e := by unfold keyL; rw [hd]
      have : rdRu s r = .error e := by unfold rdRu; rw [if_neg hw, hk]
      rw [this]; rfl
    | ok d =>
      obtain ⟨k, hk⟩ := dn_err_pos hd
      by_cases hne : r.who < 3 ∧ r.dn ≠ []
      · have : rdRu s r = .error 2 := by unfold rdRu; rw [if_neg hw, hk]; simp only; rw [if_pos hne.symm]
        rw [this]; simp only; rw [if_pos hne]; rfl
      have hne2 : ¬ (r.dn ≠ [] ∧ r.who < 3) := fun h => hne h.symm
      cases hd2 : dnL r.wh with
      | error e =>
        have hk2 : keyL r.wh = .error e := by unfold keyL; rw [hd2]
        have : rdRu s r = .error e := by unfold rdRu; rw [if_neg hw, hk]; simp only; rw [if_neg hne2, hk2]
        rw [this]; simp only; rw [if_neg hne]; rfl
      | ok d2 =>
        obtain ⟨k2, hk2⟩ := dn_err_pos hd2
        simp only
        rw [if_neg hne]
        by_cases ha : r.att ≠ [] ∧ tyAt s r.att < 0
        · have : rdRu s r = .error 20 := by unfold rdRu; rw [if_neg hw, hk]; simp only; rw [if_neg hne2, hk2]; simp only; rw [if_pos ha]
          rw [this, if_pos ha]; rfl
        rw [if_neg ha]
        by_cases hr : r.rights < 1 ∨ 15 < r.rights
        · have : rdRu s r = .error 23 := by unfold rdRu; rw [if_neg hw, hk]; simp only; rw [if_neg hne2, hk2]; simp only; rw [if_neg ha, if_pos hr]
          rw [this, if_pos hr]; rfl
        rw [if_neg hr]
        have : rdRu s r = .ok ⟨r.who, k, k2, foldL r.att, r.rights, r.allow⟩ := by unfold rdRu; rw [if_neg hw, hk]; simp only; rw [if_neg hne2, hk2]; simp only; rw [if_neg ha, if_neg hr]
        rw [this]
        exact rdF_chk s t _
/-- What is wrong with rules first is what the document says. -/
theorem new_chk (s : Sc) (admin : List (List Av)) (rs : List Ru) : errOf (newA s admin rs) = rchkA s admin rs := by
  unfold newA rchkA keyD
  cases printD admin with
  | error e => rfl
  | ok t => exact rdF_chk s rs _
/-! ### of what a rule speaks -/
def isOfA (c : Ru) (whose its : List (List UInt8)) : Bool :=
  if c.who = 0 then true else if c.who = 1 then !decide (whose.headD [] = []) else if c.who = 2 then decide (whose.headD [] = its.headD []) else if c.who = 3 then decide (whose.headD [] = c.dn) else if c.who = 4 then !decide (whose.headD [] = []) && decide (c.dn ∈ whose) else false
def aboutP (c : Ru) (whose its : List (List UInt8)) (right : Int) : Bool := bitB c.rights right && decide (c.wh ∈ its) && isOfA c whose its
def goodA (who entry : List (List Av)) (right : Int) : Bool := rightB right && okP who && okP entry
def aboutA (cs : List Ru) (who entry : List (List Av)) (right : Int) : List Ru := if goodA who entry right = true then cs.filter (fun c => aboutP c (keysD who) (keysD entry) right) else []
def attP (a : List UInt8) (c : Ru) : Bool := decide (c.att = []) || decide (c.att = foldL a)
def allowsA (cs : List Ru) (a : List UInt8) : Bool := match cs.find? (attP a) with
  | some c => c.allow
  | none => false
def mayA (cs : List Ru) (who entry : List (List Av)) (a : List UInt8) (right : Int) : Bool := allowsA (aboutA cs who entry right) a
def sameA (a b : List (List Av)) : Bool := okP a && okP b && decide (kyL a = kyL b)
def dnOf (l : List UInt8) : List (List Av) := match dnL l with
  | .ok d => d
  | .error _ => []
def speaksA (r : Ru) (who entry : List (List Av)) (a : List UInt8) (right : Int) : Bool :=
  let ok := underD entry (dnOf r.wh) && (decide (r.att = []) || decide (foldL r.att = foldL a)) && decide (Int.tmod (Int.tdiv r.rights right) 2 = 1)
  if r.who = 1 then ok && !decide (who = []) else if r.who = 2 then ok && sameA who entry else if r.who = 3 then ok && sameA who (dnOf r.dn) else if r.who = 4 then ok && !decide (who = []) && underD who (dnOf r.dn) else ok
def findA (rs : List Ru) (who entry : List (List Av)) (a : List UInt8) (right : Int) : Bool := match rs.find? (fun r => speaksA r who entry a right) with
  | some r => r.allow
  | none => false
def rmayA (admin : List (List Av)) (rs : List Ru) (who entry : List (List Av)) (a : List UInt8) (right : Int) : Bool :=
  if goodA who entry right = true then (if who ≠ [] ∧ sameA who admin = true then true else findA rs who entry a right) else false
theorem rd_ok {s : Sc} {r c : Ru} (h : rdRu s r = .ok c) : (0 ≤ r.who ∧ r.who ≤ 4) ∧ okP (dnOf r.dn) = true ∧ okP (dnOf r.wh) = true ∧ (1 ≤ r.rights ∧ r.rights ≤ 15) ∧ c = ⟨r.who, kyL (dnOf r.dn), kyL (dnOf r.wh), foldL r.att, r.rights, r.allow⟩ := by
  unfold rdRu at h
  by_cases hw : r.who < 0 ∨ 4 < r.who
  · rw [if_pos hw] at h; cases h
  rw [if_neg hw] at h
  cases hd : dnL r.dn with
  | error e =>
    have hk : keyL r.dn = .error e := by unfold keyL; rw [hd]
    rw [hk] at h; cases h
  | ok d =>
    obtain ⟨hk, hk'⟩ := read_key hd
    rw [hk] at h
    simp only at h
    by_cases hne : r.dn ≠ [] ∧ r.who < 3
    · rw [if_pos hne] at h; cases h
    rw [if_neg hne] at h
    cases hd2 : dnL r.wh with
    | error e =>
      have hk2 : keyL r.wh = .error e := by unfold keyL; rw [hd2]
      rw [hk2] at h; cases h
    | ok d2 =>
      obtain ⟨hk2, hk2'⟩ := read_key hd2
      rw [hk2] at h
      simp only at h
      by_cases ha : r.att ≠ [] ∧ tyAt s r.att < 0
      · rw [if_pos ha] at h; cases h
      rw [if_neg ha] at h
      by_cases hr : r.rights < 1 ∨ 15 < r.rights
      · rw [if_pos hr] at h; cases h
      rw [if_neg hr] at h
      have e1 : dnOf r.dn = d := by unfold dnOf; rw [hd]
      have e2 : dnOf r.wh = d2 := by unfold dnOf; rw [hd2]
      rw [e1, e2]
      exact ⟨by omega, (ok_key hk').1, (ok_key hk2').1, by omega, by injection h with h; exact h.symm⟩
theorem fold_nil (l : List UInt8) : foldL l = [] ↔ l = [] := by unfold foldL; simp
/-- A rule that is read speaks of what the document says. -/
theorem about_speaks {s : Sc} {r c : Ru} (h : rdRu s r = .ok c) {who entry : List (List Av)} {right : Int} (hg : goodA who entry right = true) (a : List UInt8) : (aboutP c (keysD who) (keysD entry) right && attP a c) = speaksA r who entry a right := by
  obtain ⟨hw, ho, ho2, hr, rfl⟩ := rd_ok h
  unfold goodA at hg
  simp only [Bool.and_eq_true] at hg
  obtain ⟨⟨hrt, hwo⟩, heo⟩ := hg
  have e1 := bit_div hr.1 hr.2 hrt
  have e2 := under_key heo ho2
  have e3 := under_key hwo ho
  have e4 := keys_head hwo
  have e5 := keys_head heo
  have e6 := ky_ne hwo
  have e7 : sameA who entry = decide (kyL who = kyL entry) := by unfold sameA; rw [hwo, heo]; rfl
  have e8 : sameA who (dnOf r.dn) = decide (kyL who = kyL (dnOf r.dn)) := by unfold sameA; rw [hwo, ho]; rfl
  have e9 : decide (kyL who = []) = decide (who = []) := by rw [Bool.eq_iff_iff]; simp [e6]
  have e10 : attP a ⟨r.who, kyL (dnOf r.dn), kyL (dnOf r.wh), foldL r.att, r.rights, r.allow⟩ = (decide (r.att = []) || decide (foldL r.att = foldL a)) := by
    unfold attP
    show (decide (foldL r.att = []) || decide (foldL r.att = foldL a)) = _
    congr 1
    rw [Bool.eq_iff_iff]; simp [fold_nil]
  unfold aboutP speaksA isOfA
  simp only
  rw [e10, e1, e2, e3, e4, e5, e7, e8, e9]
  generalize (decide (r.att = []) || decide (foldL r.att = foldL a)) = B1
  generalize decide (Int.tmod (Int.tdiv r.rights right) 2 = 1) = B2
  generalize decide (kyL (dnOf r.wh) ∈ keysD entry) = B3
  generalize decide (kyL (dnOf r.dn) ∈ keysD who) = B4
  generalize decide (kyL who = kyL entry) = B5
  generalize decide (kyL who = kyL (dnOf r.dn)) = B6
  generalize decide (who = []) = B7
  obtain ⟨n, hn⟩ := Int.eq_ofNat_of_zero_le hw.1
  have hlt : n < 5 := by omega
  rw [hn]
  have hc : n = 0 ∨ n = 1 ∨ n = 2 ∨ n = 3 ∨ n = 4 := by omega
  rcases hc with rfl | rfl | rfl | rfl | rfl
  all_goals (revert B1 B2 B3 B4 B5 B6 B7; decide)
theorem rdF_find {s : Sc} {who entry : List (List Av)} {right : Int} (hg : goodA who entry right = true) (a : List UInt8) : ∀ (rs acc cs : List Ru), rdF s acc rs = .ok cs →
    allowsA (cs.filter (fun c => aboutP c (keysD who) (keysD entry) right)) a = match (acc.filter (fun c => aboutP c (keysD who) (keysD entry) right)).find? (attP a) with
      | some c => c.allow
      | none => findA rs who entry a right
  | [], acc, cs, h => by
    have : acc = cs := by unfold rdF at h; injection h
    subst this
    unfold allowsA findA
    cases (acc.filter (fun c => aboutP c (keysD who) (keysD entry) right)).find? (attP a) <;> rfl
  | r :: t, acc, cs, h => by
    unfold rdF at h
    cases hr : rdRu s r with
    | error e => rw [hr] at h; cases h
    | ok c =>
      rw [hr] at h
      rw [rdF_find hg a t (acc ++ [c]) cs h, List.filter_append, List.find?_append]
      cases (acc.filter (fun c => aboutP c (keysD who) (keysD entry) right)).find? (attP a) with
      | some x => rfl
      | none =>
        have hs := about_speaks hr hg a
        show (match (List.filter (fun c => aboutP c (keysD who) (keysD entry) right) [c]).find? (attP a) with
          | some c => c.allow
          | none => findA t who entry a right) = findA (r :: t) who entry a right
        have hal : c.allow = r.allow := by rw [(rd_ok hr).2.2.2.2]
        unfold findA
        rw [List.find?_cons, ← hs]
        cases h1 : aboutP c (keysD who) (keysD entry) right with
        | false => simp [h1]
        | true =>
          cases h2 : attP a c with
          | false => simp [h1, h2]
          | true => simp [h1, h2, hal]
/-- Rules that are read allow what the document says. -/
theorem may_eq {s : Sc} {admin : List (List Av)} {rs cs : List Ru} (h : newA s admin rs = .ok cs) (who entry : List (List Av)) (a : List UInt8) (right : Int) : mayA cs who entry a right = rmayA admin rs who entry a right := by
  unfold newA at h
  cases hk : keyD admin with
  | error e => rw [hk] at h; cases h
  | ok k =>
    rw [hk] at h
    obtain ⟨hao, -⟩ := ok_key hk
    unfold mayA aboutA rmayA
    by_cases hg : goodA who entry right = true
    · rw [if_pos hg, if_pos hg, rdF_find hg a rs _ cs h]
      have hg2 := hg
      unfold goodA at hg2
      simp only [Bool.and_eq_true] at hg2
      obtain ⟨⟨hrt, hwo⟩, heo⟩ := hg2
      unfold adminC
      by_cases had : admin = []
      · subst had
        rw [if_pos rfl, if_neg]
        · rfl
        · rintro ⟨h1, h2⟩
          unfold sameA at h2
          rw [hwo, okP_nil, ky_nil] at h2
          simp only [Bool.true_and, decide_eq_true_eq] at h2
          exact h1 ((ky_ne hwo).1 h2)
      · rw [if_neg had]
        have hb : bitB 15 right = true := by
          rw [bit_div (by omega) (by omega) hrt]
          unfold rightB at hrt
          rw [decide_eq_true_eq] at hrt
          rcases hrt with rfl | rfl | rfl | rfl <;> decide
        have hm : ([] : List UInt8) ∈ keysD entry := by
          rw [keys_ok heo, List.mem_map]
          exact ⟨entry.length, by simp, by simp [ky_nil]⟩
        have hab : aboutP ⟨3, kyL admin, [], [], 15, true⟩ (keysD who) (keysD entry) right = decide (kyL who = kyL admin) := by
          unfold aboutP isOfA
          simp only
          rw [hb, decide_eq_true hm, keys_head hwo]
          simp
        have hat : attP a ⟨3, kyL admin, [], [], 15, true⟩ = true := by unfold attP; simp
        have hsame : sameA who admin = decide (kyL who = kyL admin) := by unfold sameA; rw [hwo, hao]; rfl
        rw [hsame]
        by_cases he : kyL who = kyL admin
        · have hwn : who ≠ [] := fun hw => by
            rw [hw, ky_nil] at he
            exact had ((ky_ne hao).1 he.symm)
          rw [if_pos ⟨hwn, decide_eq_true he⟩]
          rw [decide_eq_true he] at hab
          simp [hab, hat]
        · rw [if_neg (fun hh => he (of_decide_eq_true hh.2))]
          rw [decide_eq_false he] at hab
          simp [hab]
    · rw [if_neg hg, if_neg hg]; rfl
end Go.Proofs.YtngdbhncafnliaaGreat.Mt
