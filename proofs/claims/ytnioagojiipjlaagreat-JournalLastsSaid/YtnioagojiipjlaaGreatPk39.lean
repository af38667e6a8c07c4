/-
  Some texts of one proof, one behind the other.
-/
import Derived.Test.YtnioagojiipjlaaGreatPk34
import Derived.Test.YtnioagojiipjlaaGreatPk38
set_option linter.unusedVariables false
set_option linter.unusedSimpArgs false

/-
  What a journal on such a disk comes to, whatever a loss of power leaves.
-/
namespace Go.Proofs.YtnioagojiipjlaaGreat.Mt

theorem Lost.view {d d' : Dk} {a : Nat} {l : List (List UInt8)} (h : Lost d d' a l) (hc : d'.Clear) {i : Nat} (hi : i < d.lasts.length) (hm : a ≤ i ∧ i < a + l.length) :
    d'.at i = d.at i ∨ d'.at i = l.getD (i - a) [] ∨ (rdCell (d'.at i) = Cl.zero ∧ rdHead (d'.at i) = (0, 0)) := by
  rcases h.mid i hi hm with e | e | e
  · exact .inl e
  · exact .inr (.inl e)
  · rcases hc _ e with e | e | e
    · exact .inl e
    · exact .inr (.inl e)
    · refine .inr (.inr ⟨?_, ?_⟩)
      · unfold rdCell; rw [if_neg e.1]
      · unfold rdHead; rw [if_neg e.2]
theorem Lost.on {d d' : Dk} {a : Nat} {l : List (List UInt8)} (hd : On d) (h : Lost d d' a l) : On d'.on := ⟨h.ok.on, rfl, h.quiet, by show d'.room = d'.lasts.length; rw [h.room, hd.room, h.len]⟩

def Dk.hd (d : Dk) (k : Nat) : Nat × Nat := rdHead (d.at k)
def Dk.cl (d : Dk) (i : Nat) : Cl := rdCell (d.at i)
def cellsAt (d : Dk) (a m : Nat) : List Cl := (List.range m).map fun i => d.cl (a + i)
theorem cellsAt_length (d : Dk) (a m : Nat) : (cellsAt d a m).length = m := by unfold cellsAt; rw [List.length_map, List.length_range]
theorem cellsAt_get (d : Dk) (a m i : Nat) (h : i < m) : (cellsAt d a m)[i]'(by rw [cellsAt_length]; exact h) = d.cl (a + i) := by unfold cellsAt; rw [List.getElem_map, List.getElem_range]
def UpA (d : Dk) (g : Nat) : Prop := (d.hd 0).1 ≤ g ∧ (d.hd 1).1 ≤ g ∧ ∀ i, 2 ≤ i → i < 2 + 2 * hsize d.lasts.length → (d.cl i).gen ≤ g
theorem UpA.mono {d : Dk} {g g' : Nat} (h : UpA d g) (hg : g ≤ g') : UpA d g' := ⟨Nat.le_trans h.1 hg, Nat.le_trans h.2.1 hg, fun i h1 h2 => Nat.le_trans (h.2.2 i h1 h2) hg⟩
theorem hsize_two (n : Nat) (h : 4 ≤ n) : 2 + 2 * hsize n ≤ n ∧ 1 ≤ hsize n := by unfold hsize; omega
theorem On.cellsFrom {d : Dk} (h : On d) {a m : Nat} (hb : a + m ≤ d.lasts.length) : d.cellsFrom a m = cellsAt d a m := by
  unfold Dk.cellsFrom cellsAt Dk.cl
  apply List.map_congr_left
  intro i hi
  rw [h.sec (by have := List.mem_range.1 hi; omega)]

/-- The current head and its records. -/
def Cur (d : Dk) (half head : Nat) (T : List (List UInt8)) : Prop :=
  ((d.hd 0).1 = 0 ∧ (d.hd 1).1 = 0 ∧ half = 1 ∧ head = 1 ∧ T = []) ∨
  (head = 0 ∧ 0 < (d.hd 0).1 ∧ (d.hd 1).1 ≤ (d.hd 0).1 ∧ half = (d.hd 0).2 ∧ T = records (cellsAt d (2 + half * hsize d.lasts.length) (hsize d.lasts.length)) (d.hd 0).1) ∨
  (head = 1 ∧ (d.hd 0).1 < (d.hd 1).1 ∧ half = (d.hd 1).2 ∧ T = records (cellsAt d (2 + half * hsize d.lasts.length) (hsize d.lasts.length)) (d.hd 1).1)
theorem half_le (d : Dk) (k : Nat) : (d.hd k).2 ≤ 1 := (rdHead_gen _).2
theorem half_mul {h z : Nat} (hh : h ≤ 1) : h * z + z ≤ 2 * z := by
  rcases Nat.le_one_iff_eq_zero_or_eq_one.1 hh with rfl | rfl <;> omega
theorem find_cur {d : Dk} (h : On d) (h4 : 4 ≤ d.lasts.length) : Cur d (findJ d).1.half (findJ d).1.head (findJ d).2 := by
  have hz := hsize_two _ h4
  have s0 : rdHead (d.sec 0) = d.hd 0 := by rw [h.sec (by omega)]; rfl
  have s1 : rdHead (d.sec 1) = d.hd 1 := by rw [h.sec (by omega)]; rfl
  unfold findJ
  simp only [s0, s1]
  by_cases ha : (d.hd 1).1 ≤ (d.hd 0).1 ∧ 0 < (d.hd 0).1
  · rw [if_pos ha]
    refine .inr (.inl ⟨rfl, ha.2, ha.1, rfl, ?_⟩)
    rw [← h.cellsFrom (a := 2 + (d.hd 0).2 * hsize d.lasts.length) (m := hsize d.lasts.length) (by have := half_mul (z := hsize d.lasts.length) (half_le d 0); omega)]
  · rw [if_neg ha]
    by_cases hb : (d.hd 1).1 = 0
    · rw [if_pos hb]
      exact .inl ⟨by omega, hb, rfl, rfl, rfl⟩
    · rw [if_neg hb]
      refine .inr (.inr ⟨rfl, by omega, rfl, ?_⟩)
      rw [← h.cellsFrom (a := 2 + (d.hd 1).2 * hsize d.lasts.length) (m := hsize d.lasts.length) (by have := half_mul (z := hsize d.lasts.length) (half_le d 1); omega)]
theorem Cur.inj {d : Dk} {a b a' b' : Nat} {T T' : List (List UInt8)} (h : Cur d a b T) (h' : Cur d a' b' T') : a = a' ∧ b = b' ∧ T = T' := by
  rcases h with ⟨h1, h2, rfl, rfl, rfl⟩ | ⟨rfl, h1, h2, rfl, rfl⟩ | ⟨rfl, h1, rfl, rfl⟩ <;> rcases h' with ⟨k1, k2, rfl, rfl, rfl⟩ | ⟨rfl, k1, k2, rfl, rfl⟩ | ⟨rfl, k1, rfl, rfl⟩ <;> first | exact ⟨rfl, rfl, rfl⟩ | (exfalso; omega)
theorem find_of {d : Dk} (h : On d) (h4 : 4 ≤ d.lasts.length) {a b : Nat} {T : List (List UInt8)} (hc : Cur d a b T) : (findJ d).1.half = a ∧ (findJ d).1.head = b ∧ (findJ d).2 = T := (find_cur h h4).inj hc
theorem Cur.le {d : Dk} {a b : Nat} {T : List (List UInt8)} (h : Cur d a b T) : a ≤ 1 ∧ b ≤ 1 := by
  have h0 := half_le d 0
  have h1 := half_le d 1
  rcases h with ⟨_, _, rfl, rfl, rfl⟩ | ⟨rfl, _, _, rfl, rfl⟩ | ⟨rfl, _, rfl, rfl⟩ <;> omega
/-- Nothing of what the current head names is turned. -/
theorem Cur.keep {d d' : Dk} {a b : Nat} {T : List (List UInt8)} (h : Cur d a b T) (hl : d'.lasts.length = d.lasts.length) (h0 : d'.hd 0 = d.hd 0 ∨ (b = 1 ∧ d'.hd 0 = (0, 0))) (h1 : d'.hd 1 = d.hd 1 ∨ (b = 0 ∧ d'.hd 1 = (0, 0)))
    (hs : ∀ i, i < hsize d.lasts.length → d'.at (2 + a * hsize d.lasts.length + i) = d.at (2 + a * hsize d.lasts.length + i)) : Cur d' a b T := by
  have hcells : cellsAt d' (2 + a * hsize d.lasts.length) (hsize d.lasts.length) = cellsAt d (2 + a * hsize d.lasts.length) (hsize d.lasts.length) := by
    unfold cellsAt Dk.cl
    exact List.map_congr_left fun i hi => by rw [hs i (List.mem_range.1 hi)]
  rcases h with ⟨k1, k2, rfl, rfl, rfl⟩ | ⟨rfl, k1, k2, k3, rfl⟩ | ⟨rfl, k1, k3, rfl⟩
  · refine .inl ⟨?_, ?_, rfl, rfl, rfl⟩
    · rcases h0 with e | e
      · rw [e]; exact k1
      · rw [e.2]
    · rcases h1 with e | e
      · rw [e]; exact k2
      · rw [e.2]
  · have e0 : d'.hd 0 = d.hd 0 := by
      rcases h0 with e | e
      · exact e
      · exact absurd e.1 (by decide)
    refine .inr (.inl ⟨rfl, by rw [e0]; exact k1, ?_, by rw [e0]; exact k3, by rw [hl, hcells, e0]⟩)
    rcases h1 with e | e
    · rw [e, e0]; exact k2
    · rw [e.2]; exact Nat.zero_le _
  · have e1 : d'.hd 1 = d.hd 1 := by
      rcases h1 with e | e
      · exact e
      · exact absurd e.1 (by decide)
    refine .inr (.inr ⟨rfl, ?_, by rw [e1]; exact k3, by rw [hl, hcells, e1]⟩)
    rcases h0 with e | e
    · rw [e, e1]; exact k1
    · rw [e.2, e1]; show 0 < _; omega

/-! ### the sectors that are laid -/
theorem secsOf_map (gen n : Nat) (b : List UInt8) : secsOf gen n b = ((List.range (cellsN b.length)).map (cellAt gen n b)).map Cl.sector := by unfold secsOf; rw [List.map_map]; rfl
theorem allSecs_map (gen : Nat) : ∀ (bs : List (List UInt8)) (n : Nat), allSecs gen n bs = (cellsB gen n bs).map Cl.sector
  | [], _ => rfl
  | b :: r, n => by rw [allSecs, cellsB, List.map_append, secsOf_map, allSecs_map gen r]
theorem cellsB_append (gen : Nat) (b : List UInt8) : ∀ (bs : List (List UInt8)) (n : Nat), cellsB gen n (bs ++ [b]) = cellsB gen n bs ++ (List.range (cellsN b.length)).map (cellAt gen (n + bs.length) b)
  | [], n => by simp [cellsB]
  | x :: r, n => by
    rw [List.cons_append, cellsB, cellsB_append gen b r, cellsB, List.append_assoc, List.length_cons, show n + 1 + r.length = n + (r.length + 1) by omega]
theorem needs_snoc2 (b : List UInt8) : ∀ (bs : List (List UInt8)), needs (bs ++ [b]) = needs bs + cellsN b.length
  | [] => by simp [needs]
  | x :: r => by rw [List.cons_append, needs, needs_snoc2 b r, needs]; omega
/-- Bodies that have room in cells. -/
def Fine (bs : List (List UInt8)) : Prop := (∀ b ∈ bs, b.length ≤ 1048576) ∧ bs.length < 4294967296
theorem rd_cellAt {gen n : Nat} {b : List UInt8} {i : Nat} (hg : 0 < gen) (hg2 : gen < 4294967296) (hn : n < 4294967296) (hb : b.length ≤ 1048576) (hi : i < cellsN b.length) : rdCell (cellAt gen n b i).sector = cellAt gen n b i :=
  rdCell_sector (cellAt_fits gen n b i hg2 hn hb hi) (cellAt_sound gen n b i hg hi)
theorem secs128 {gen : Nat} {n : Nat} {bs : List (List UInt8)} : ∀ s ∈ allSecs gen n bs, s.length = 128 := by
  intro s hs
  rw [allSecs_map, List.mem_map] at hs
  obtain ⟨c, hc, rfl⟩ := hs
  obtain ⟨b, _, m, i, _, _, rfl⟩ := mem_cellsB gen n bs c hc
  exact Cl.sector_length (cellAt_body _ _ _ _)
theorem rd_secs {gen : Nat} (hg : 0 < gen) (hg2 : gen < 4294967296) {bs : List (List UInt8)} (hf : Fine bs) : (allSecs gen 0 bs).map rdCell = cellsB gen 0 bs := by
  rw [allSecs_map, List.map_map]
  conv => rhs; rw [← List.map_id (cellsB gen 0 bs)]
  apply List.map_congr_left
  intro c hc
  obtain ⟨b, hb, m, i, hm, hi, rfl⟩ := mem_cellsB gen 0 bs c hc
  exact rd_cellAt hg hg2 (by have := hf.2; omega) (hf.1 b hb) hi
/-- Behind sectors that were laid. -/
theorem Done.cells {d d' : Dk} {a u z : Nat} {l : List (List UInt8)} (h : Done d d' (a + u) l) (hz : a + z ≤ d.lasts.length) (hl : u + l.length ≤ z) : cellsAt d' a z = (cellsAt d a z).take u ++ (l.map rdCell ++ (cellsAt d a z).drop (u + l.length)) := by
  apply List.ext_getElem
  · simp only [List.length_append, List.length_take, List.length_drop, List.length_map, cellsAt_length]; omega
  · intro i h1 h2
    rw [cellsAt_length] at h1
    rw [cellsAt_get _ _ _ _ h1]
    have hs := h.sec (a + i) (by omega)
    unfold Dk.cl
    rw [hs]
    by_cases hi : i < u
    · rw [if_neg (by omega), List.getElem_append_left (by rw [List.length_take, cellsAt_length]; omega), List.getElem_take, cellsAt_get _ _ _ _ h1]; rfl
    · rw [List.getElem_append_right (by rw [List.length_take, cellsAt_length]; omega)]
      have hlt : (List.take u (cellsAt d a z)).length = u := by rw [List.length_take, cellsAt_length]; omega
      by_cases hi2 : i < u + l.length
      · rw [if_pos (by omega), List.getElem_append_left (by rw [List.length_map, hlt]; omega), List.getElem_map]
        congr 1
        have e : a + i - (a + u) = i - u := by omega
        rw [e, List.getD_eq_getElem?_getD, List.getElem?_eq_getElem (by omega), Option.getD_some]
        congr 1
        rw [hlt]
      · rw [if_neg (by omega), List.getElem_append_right (by rw [List.length_map, hlt]; omega), List.getElem_drop]
        simp only [hlt, List.length_map]
        have e : u + l.length + (i - u - l.length) = i := by omega
        simp only [e]
        rw [cellsAt_get _ _ _ _ h1]; rfl

/-- A journal at rest: all that it has told lies on the disk. -/
structure Rest (d : Dk) (j : Jn) (T : List (List UInt8)) : Prop where
  on : On d
  up : UpA d j.gen
  pos : 0 < j.gen
  lt : j.gen < 4294967296
  half : j.half ≤ 1
  head : j.head = 0 ∧ (d.hd 1).1 < j.gen ∧ d.hd 0 = (j.gen, j.half) ∨ j.head = 1 ∧ (d.hd 0).1 < j.gen ∧ d.hd 1 = (j.gen, j.half)
  cells : ∃ rest, cellsAt d (2 + j.half * hsize d.lasts.length) (hsize d.lasts.length) = cellsB j.gen 0 T ++ rest ∧ ∀ c ∈ rest, c.gen ≠ j.gen
  used : j.used = needs T
  count : j.count = T.length
  opened : j.closed = false
  fine : Fine T
theorem Rest.cur {d : Dk} {j : Jn} {T : List (List UInt8)} (h : Rest d j T) : Cur d j.half j.head T := by
  obtain ⟨rest, h1, h2⟩ := h.cells
  have hr : records (cellsAt d (2 + j.half * hsize d.lasts.length) (hsize d.lasts.length)) j.gen = T := by
    rw [h1]; unfold records
    exact records_laid j.gen T 0 rest _ (Nat.le_refl _) (fun c hc => .inl (h2 c hc))
  rcases h.head with ⟨k1, k2, k3⟩ | ⟨k1, k2, k3⟩
  · refine .inr (.inl ⟨k1, ?_, ?_, ?_, ?_⟩) <;> rw [k3]
    · exact h.pos
    · exact Nat.le_of_lt k2
    · exact hr.symm
  · refine .inr (.inr ⟨k1, ?_, ?_, ?_⟩) <;> rw [k3]
    · exact k2
    · exact hr.symm

/-! ### records are laid anew -/
theorem hd_cell_sector (c : Cl) : rdHead c.sector = (0, 0) := rdHead_mark (by rw [mark_sector]; decide)
theorem up_next {d d' : Dk} {g a : Nat} {l : List (List UInt8)} (h : UpA d g) (hl : d'.lasts.length = d.lasts.length) (hs : ∀ i, i < d.lasts.length → d'.at i = d.at i ∨ (a ≤ i ∧ i < a + l.length ∧ d'.at i = l.getD (i - a) []) ∨ (rdCell (d'.at i) = Cl.zero ∧ rdHead (d'.at i) = (0, 0)))
    (h4 : 4 ≤ d.lasts.length) (hg : ∀ s ∈ l, (rdCell s).gen ≤ g + 1 ∧ (rdHead s).1 ≤ g + 1) : UpA d' (g + 1) := by
  have hz := hsize_two _ h4
  have H : ∀ i, i < d.lasts.length → ((d'.cl i).gen ≤ (d.cl i).gen ∨ (d'.cl i).gen ≤ g + 1) ∧ ((d'.hd i).1 ≤ (d.hd i).1 ∨ (d'.hd i).1 ≤ g + 1) := fun i hi => by
    unfold Dk.cl Dk.hd
    rcases hs i hi with e | ⟨e1, e2, e3⟩ | e
    · rw [e]; exact ⟨.inl (Nat.le_refl _), .inl (Nat.le_refl _)⟩
    · have hm : l.getD (i - a) [] ∈ l := by
        rw [List.getD_eq_getElem?_getD, List.getElem?_eq_getElem (by omega), Option.getD_some]
        exact List.getElem_mem _
      rw [e3]
      exact ⟨.inr (hg _ hm).1, .inr (hg _ hm).2⟩
    · rw [e.1, e.2]; exact ⟨.inr (Nat.zero_le _), .inr (Nat.zero_le _)⟩
  refine ⟨?_, ?_, fun i h1 h2 => ?_⟩
  · have := h.1; rcases (H 0 (by omega)).2 with e | e <;> omega
  · have := h.2.1; rcases (H 1 (by omega)).2 with e | e <;> omega
  · rw [hl] at h2
    have := h.2.2 i h1 h2
    rcases (H i (by omega)).1 with e | e <;> omega
end Go.Proofs.YtnioagojiipjlaaGreat.Mt
