/-
  Places of connections, as lists.
-/
import Derived.Test.YtmdhioifdnaajaaMath
set_option linter.unusedVariables false
set_option linter.unusedSimpArgs false
namespace Go.Proofs.Ytmdhioifdnaajaa
/-- A place. -/
structure Mt.Pl where
  num : Nat
  key : ByteArray
  ver : Int
  at' : Int
abbrev Mt.Bk := List (Int × Mt.Pl)
/-- A connection's. -/
def Mt.rowB (c : Int) (L : Mt.Bk) : List Mt.Pl := (L.filter fun q => decide (q.1 = c)).map (·.2)
theorem Mt.rowB_nil (c : Int) : Mt.rowB c [] = [] := rfl
theorem Mt.rowB_cons (c : Int) (q : Int × Mt.Pl) (L : Mt.Bk) : Mt.rowB c (q :: L) = if q.1 = c then q.2 :: Mt.rowB c L else Mt.rowB c L := by
  unfold Mt.rowB
  by_cases h : q.1 = c
  · rw [List.filter_cons_of_pos (by simpa using h), if_pos h]; rfl
  · rw [List.filter_cons_of_neg (by simpa using h), if_neg h]
theorem Mt.rowB_append (c : Int) (A B : Mt.Bk) : Mt.rowB c (A ++ B) = Mt.rowB c A ++ Mt.rowB c B := by simp [Mt.rowB]
theorem Mt.rowB_mem {c : Int} {L : Mt.Bk} {p : Mt.Pl} : p ∈ Mt.rowB c L ↔ (c, p) ∈ L := by
  unfold Mt.rowB
  rw [List.mem_map]
  constructor
  · rintro ⟨⟨a, b⟩, h, rfl⟩
    rw [List.mem_filter] at h
    obtain ⟨h1, h2⟩ := h
    have : a = c := by simpa using h2
    subst this; exact h1
  · intro h; exact ⟨(c, p), by rw [List.mem_filter]; exact ⟨h, by simp⟩, rfl⟩
theorem Mt.rowB_ne {c : Int} {L : Mt.Bk} : Mt.rowB c L ≠ [] ↔ ∃ q ∈ L, q.1 = c := by
  constructor
  · intro h
    obtain ⟨p, hp⟩ := List.exists_mem_of_ne_nil _ h
    exact ⟨(c, p), Mt.rowB_mem.1 hp, rfl⟩
  · rintro ⟨⟨a, p⟩, hq, rfl⟩ h
    have := Mt.rowB_mem.2 hq
    rw [h] at this; cases this
/-- Without the first of a connection's, where these are more than four. -/
def Mt.cutB (c : Int) : Nat → Mt.Bk → Mt.Bk
  | _, [] => []
  | n, q :: r => if q.1 = c ∧ 4 < n then Mt.cutB c 0 r else q :: Mt.cutB c n r
theorem Mt.cutB_low (c : Int) {n : Nat} (hn : n ≤ 4) : ∀ L : Mt.Bk, Mt.cutB c n L = L
  | [] => rfl
  | q :: r => by rw [Mt.cutB, if_neg (by omega), Mt.cutB_low c hn r]
theorem Mt.cutB_same (c : Int) {n : Nat} (hn : 4 < n) : ∀ L : Mt.Bk, Mt.rowB c (Mt.cutB c n L) = (Mt.rowB c L).drop 1
  | [] => rfl
  | q :: r => by
    rw [Mt.cutB, Mt.rowB_cons]
    by_cases h : q.1 = c
    · rw [if_pos ⟨h, hn⟩, if_pos h, Mt.cutB_low c (Nat.zero_le _)]; rfl
    · rw [if_neg (fun e => h e.1), if_neg h, Mt.rowB_cons, if_neg h, Mt.cutB_same c hn r]
theorem Mt.cutB_other {c c' : Int} (hc : c' ≠ c) (n : Nat) : ∀ L : Mt.Bk, Mt.rowB c' (Mt.cutB c n L) = Mt.rowB c' L
  | [] => rfl
  | q :: r => by
    rw [Mt.cutB, Mt.rowB_cons]
    by_cases h : q.1 = c ∧ 4 < n
    · rw [if_pos h, Mt.cutB_low c (Nat.zero_le _), if_neg (by rw [h.1]; exact fun e => hc e.symm)]
    · rw [if_neg h, Mt.rowB_cons, Mt.cutB_other hc n r]
theorem Mt.cutB_sub (c : Int) (n : Nat) : ∀ L : Mt.Bk, (Mt.cutB c n L).Sublist L
  | [] => List.Sublist.refl _
  | q :: r => by
    rw [Mt.cutB]
    by_cases h : q.1 = c ∧ 4 < n
    · rw [if_pos h, Mt.cutB_low c (Nat.zero_le _)]; exact List.sublist_cons_self q r
    · rw [if_neg h]; exact (Mt.cutB_sub c n r).cons_cons q
/-- One more. -/
def Mt.keepB (c : Int) (p : Mt.Pl) (L : Mt.Bk) : Mt.Bk := Mt.cutB c ((Mt.rowB c L).length + 1) (L ++ [(c, p)])
theorem Mt.keepB_same {c : Int} {p : Mt.Pl} {L : Mt.Bk} (h4 : (Mt.rowB c L).length ≤ 4) : Mt.rowB c (Mt.keepB c p L) = (Mt.rowB c L ++ [p]).drop ((Mt.rowB c L).length + 1 - 4) := by
  have hr : Mt.rowB c (L ++ [(c, p)]) = Mt.rowB c L ++ [p] := by rw [Mt.rowB_append, Mt.rowB_cons, if_pos rfl]; rfl
  unfold Mt.keepB
  by_cases h : 4 < (Mt.rowB c L).length + 1
  · rw [Mt.cutB_same c h, hr]
    have : (Mt.rowB c L).length + 1 - 4 = 1 := by omega
    rw [this]
  · rw [Mt.cutB_low c (by omega), hr, show (Mt.rowB c L).length + 1 - 4 = 0 by omega]; rfl
theorem Mt.keepB_other {c c' : Int} (hc : c' ≠ c) (p : Mt.Pl) (L : Mt.Bk) : Mt.rowB c' (Mt.keepB c p L) = Mt.rowB c' L := by
  unfold Mt.keepB
  rw [Mt.cutB_other hc, Mt.rowB_append, Mt.rowB_cons, if_neg (fun e => hc e.symm)]
  simp [Mt.rowB_nil]
/-- What is so of all places. -/
structure Mt.BkOk (last : Nat) (L : Mt.Bk) : Prop where
  rise : (L.map (·.2.num)).Pairwise (· < ·)
  le : ∀ q ∈ L, q.2.num ≤ last
  few : ∀ c, (Mt.rowB c L).length ≤ 4
theorem Mt.BkOk.nil (last : Nat) : Mt.BkOk last [] := ⟨List.Pairwise.nil, (fun _ h => nomatch h), (fun c => by simp [Mt.rowB_nil])⟩
theorem Mt.BkOk.sub {last : Nat} {L M : Mt.Bk} (h : Mt.BkOk last L) (hs : M.Sublist L) : Mt.BkOk last M :=
  ⟨h.rise.sublist (hs.map _), fun q hq => h.le q (hs.mem hq), fun c => Nat.le_trans ((hs.filter _).map _).length_le (h.few c)⟩
theorem Mt.BkOk.keep {last : Nat} {L : Mt.Bk} (h : Mt.BkOk last L) (c : Int) (p : Mt.Pl) (hp : p.num = last + 1) : Mt.BkOk (last + 1) (Mt.keepB c p L) := by
  have hsub := Mt.cutB_sub c ((Mt.rowB c L).length + 1) (L ++ [(c, p)])
  refine ⟨?_, ?_, ?_⟩
  · refine List.Pairwise.sublist (hsub.map _) ?_
    rw [List.map_append, List.pairwise_append]
    refine ⟨h.rise, by simp, ?_⟩
    intro a ha b hb
    obtain ⟨q, hq, rfl⟩ := List.mem_map.1 ha
    have := h.le q hq
    simp at hb
    omega
  · intro q hq
    rcases List.mem_append.1 (hsub.mem hq) with h1 | h1
    · have := h.le q h1; omega
    · simp at h1; rw [h1]; simp only; omega
  · intro c'
    by_cases hc : c' = c
    · subst hc
      rw [Mt.keepB_same (h.few c'), List.length_drop, List.length_append]
      have := h.few c'
      simp; omega
    · rw [Mt.keepB_other hc]; exact h.few c'
/-- Without the places of a cookie. -/
def Mt.takeB (m : Mt.Pl → Bool) (c : Int) (L : Mt.Bk) : Mt.Bk := L.filter fun q => !(decide (q.1 = c) && m q.2)
theorem Mt.takeB_same (m : Mt.Pl → Bool) (c : Int) (L : Mt.Bk) : Mt.rowB c (Mt.takeB m c L) = (Mt.rowB c L).filter fun p => !m p := by
  induction L with
  | nil => rfl
  | cons q r ih =>
    unfold Mt.takeB at ih ⊢
    rw [Mt.rowB_cons]
    by_cases h : q.1 = c
    · rw [if_pos h]
      by_cases hm : m q.2 = true
      · rw [List.filter_cons_of_neg (by simp [h, hm]), List.filter_cons_of_neg (by simp [hm]), ih]
      · rw [List.filter_cons_of_pos (by simp [h, hm]), List.filter_cons_of_pos (by simp [hm]), Mt.rowB_cons, if_pos h, ih]
    · rw [if_neg h, List.filter_cons_of_pos (by simp [h]), Mt.rowB_cons, if_neg h, ih]
theorem Mt.takeB_other (m : Mt.Pl → Bool) {c c' : Int} (hc : c' ≠ c) (L : Mt.Bk) : Mt.rowB c' (Mt.takeB m c L) = Mt.rowB c' L := by
  induction L with
  | nil => rfl
  | cons q r ih =>
    unfold Mt.takeB at ih ⊢
    rw [Mt.rowB_cons]
    by_cases h : q.1 = c'
    · rw [if_pos h, List.filter_cons_of_pos (by simp [h, hc]), Mt.rowB_cons, if_pos h, ih]
    · rw [if_neg h]
      by_cases h2 : (!(decide (q.1 = c) && m q.2)) = true
      · rw [List.filter_cons_of_pos (by exact h2), Mt.rowB_cons, if_neg h, ih]
      · rw [List.filter_cons_of_neg (by exact h2), ih]
/-- Without a connection's. -/
def Mt.dropB (c : Int) (L : Mt.Bk) : Mt.Bk := L.filter fun q => !decide (q.1 = c)
theorem Mt.dropB_eq (c : Int) (L : Mt.Bk) : Mt.dropB c L = Mt.takeB (fun _ => true) c L := by unfold Mt.dropB Mt.takeB; simp
theorem Mt.dropB_same (c : Int) (L : Mt.Bk) : Mt.rowB c (Mt.dropB c L) = [] := by rw [Mt.dropB_eq, Mt.takeB_same]; simp
theorem Mt.dropB_other {c c' : Int} (hc : c' ≠ c) (L : Mt.Bk) : Mt.rowB c' (Mt.dropB c L) = Mt.rowB c' L := by rw [Mt.dropB_eq, Mt.takeB_other _ hc]
/-- What is so where the one place is that m tells. -/
theorem Mt.filter_one {α : Type} {l : List α} {m : α → Bool} {i : Nat} (hi : i < l.length) (h1 : m l[i] = true) (h2 : ∀ j (hj : j < l.length), j ≠ i → m l[j] = false) : l.filter (fun p => !m p) = l.take i ++ l.drop (i + 1) := by
  have hl : l = l.take i ++ l[i] :: l.drop (i + 1) := by rw [List.getElem_cons_drop]; simp
  have ha : (l.take i).filter (fun p => !m p) = l.take i := by
    rw [List.filter_eq_self]
    intro x hx
    obtain ⟨j, hj, rfl⟩ := List.mem_iff_getElem.1 hx
    rw [List.length_take] at hj
    rw [List.getElem_take, h2 j (by omega) (by omega)]; rfl
  have hb : (l.drop (i + 1)).filter (fun p => !m p) = l.drop (i + 1) := by
    rw [List.filter_eq_self]
    intro x hx
    obtain ⟨j, hj, rfl⟩ := List.mem_iff_getElem.1 hx
    rw [List.length_drop] at hj
    rw [List.getElem_drop, h2 (i + 1 + j) (by omega) (by omega)]; rfl
  conv => lhs; rw [hl]
  rw [List.filter_append, List.filter_cons_of_neg (by simp [h1]), ha, hb]
theorem Mt.filter_none {α : Type} {l : List α} {m : α → Bool} (h : ∀ j (hj : j < l.length), m l[j] = false) : l.filter (fun p => !m p) = l := by
  rw [List.filter_eq_self]
  intro x hx
  obtain ⟨j, hj, rfl⟩ := List.mem_iff_getElem.1 hx
  rw [h j hj]; rfl
/-- A connection's numbers rise. -/
theorem Mt.BkOk.row {last : Nat} {L : Mt.Bk} (h : Mt.BkOk last L) (c : Int) : ((Mt.rowB c L).map (·.num)).Pairwise (· < ·) := by
  unfold Mt.rowB
  rw [List.map_map]
  exact h.rise.sublist ((List.filter_sublist).map _)
theorem Mt.BkOk.rowLe {last : Nat} {L : Mt.Bk} (h : Mt.BkOk last L) (c : Int) : ∀ p ∈ Mt.rowB c L, p.num ≤ last := fun _ hp => h.le _ (Mt.rowB_mem.1 hp)
/-- Where the numbers are all different, one at most is that of a cookie. -/
theorem Mt.BkOk.one {last : Nat} {L : Mt.Bk} (h : Mt.BkOk last L) (c : Int) {ck : Nat → ByteArray} (hck : ∀ n m, n ≤ last → m ≤ last → ck n = ck m → n = m) {s : ByteArray} {i j : Nat} (hi : i < (Mt.rowB c L).length) (hj : j < (Mt.rowB c L).length)
    (h1 : decide (ck (Mt.rowB c L)[i].num = s) = true) (h2 : decide (ck (Mt.rowB c L)[j].num = s) = true) : i = j := by
  have hr := h.row c
  have hn : (Mt.rowB c L)[i].num = (Mt.rowB c L)[j].num := hck _ _ (h.rowLe c _ (List.getElem_mem _)) (h.rowLe c _ (List.getElem_mem _)) ((of_decide_eq_true h1).trans (of_decide_eq_true h2).symm)
  rw [List.pairwise_iff_getElem] at hr
  rcases Nat.lt_trichotomy i j with hl | hl | hl
  · have := hr i j (by simpa using hi) (by simpa using hj) hl
    simp only [List.getElem_map] at this; omega
  · exact hl
  · have := hr j i (by simpa using hj) (by simpa using hi) hl
    simp only [List.getElem_map] at this; omega
/-- What taking answers. -/
def Mt.tookB (m good : Mt.Pl → Bool) (c : Int) (L : Mt.Bk) : Int × Bool := L.foldl (fun r q => if (decide (q.1 = c) && m q.2) = true then (if good q.2 = true then (q.2.at', true) else r) else r) (0, false)
theorem Mt.tookB_row (m good : Mt.Pl → Bool) (c : Int) : ∀ (L : Mt.Bk) (r : Int × Bool), L.foldl (fun r q => if (decide (q.1 = c) && m q.2) = true then (if good q.2 = true then (q.2.at', true) else r) else r) r = (Mt.rowB c L).foldl (fun r p => if m p = true then (if good p = true then (p.at', true) else r) else r) r
  | [], r => rfl
  | q :: t, r => by
    rw [List.foldl_cons, Mt.tookB_row m good c t, Mt.rowB_cons]
    by_cases h : q.1 = c
    · rw [if_pos h, List.foldl_cons]
      simp [h]
    · rw [if_neg h, if_neg (by simp [h])]
theorem Mt.took_none {m good : Mt.Pl → Bool} : ∀ (l : List Mt.Pl) (r : Int × Bool), (∀ p ∈ l, m p = false) → l.foldl (fun r p => if m p = true then (if good p = true then (p.at', true) else r) else r) r = r
  | [], r, _ => rfl
  | p :: t, r, h => by
    rw [List.foldl_cons, if_neg (by rw [h p (by simp)]; decide)]
    exact Mt.took_none t r fun q hq => h q (by simp [hq])
theorem Mt.took_one {m good : Mt.Pl → Bool} {l : List Mt.Pl} {i : Nat} (hi : i < l.length) (h1 : m l[i] = true) (h2 : ∀ j (hj : j < l.length), j ≠ i → m l[j] = false) : l.foldl (fun r p => if m p = true then (if good p = true then (p.at', true) else r) else r) ((0 : Int), false) = if good l[i] = true then (l[i].at', true) else (0, false) := by
  have hl : l = l.take i ++ l[i] :: l.drop (i + 1) := by rw [List.getElem_cons_drop]; simp
  conv => lhs; rw [hl]
  rw [List.foldl_append, Mt.took_none (l.take i) _ (by
    intro p hp
    obtain ⟨j, hj, rfl⟩ := List.mem_iff_getElem.1 hp
    rw [List.length_take] at hj
    rw [List.getElem_take]; exact h2 j (by omega) (by omega)), List.foldl_cons, if_pos h1, Mt.took_none (l.drop (i + 1)) _ (by
    intro p hp
    obtain ⟨j, hj, rfl⟩ := List.mem_iff_getElem.1 hp
    rw [List.length_drop] at hj
    rw [List.getElem_drop]; exact h2 _ (by omega) (by omega))]
/-- The first that m tells. -/
def Mt.idxP {α : Type} (p : α → Bool) (l : List α) : Int := match l.findIdx? p with
  | some i => i
  | none => -1
theorem Mt.idxP_spec {α : Type} (p : α → Bool) (l : List α) : (Mt.idxP p l = -1 ∧ ∀ j (hj : j < l.length), p l[j] = false) ∨ ∃ m : Nat, Mt.idxP p l = m ∧ ∃ hm : m < l.length, p l[m] = true ∧ ∀ j (hj : j < m), p (l[j]'(by omega)) = false := by
  unfold Mt.idxP
  cases hf : l.findIdx? p with
  | none =>
    rw [List.findIdx?_eq_none_iff] at hf
    exact .inl ⟨rfl, fun j hj => hf _ (List.getElem_mem hj)⟩
  | some m =>
    rw [List.findIdx?_eq_some_iff_getElem] at hf
    obtain ⟨hm, h1, h2⟩ := hf
    exact .inr ⟨m, rfl, hm, h1, fun j hj => by have := h2 j hj; simpa using this⟩
end Go.Proofs.Ytmdhioifdnaajaa
