/-
  Some texts of one proof, one behind the other.
-/
import Derived.Test.YtnioagojiipjlaaGreatPk39
import Derived.Test.YtnioagojiipjlaaGreatPk40
set_option linter.unusedVariables false
set_option linter.unusedSimpArgs false

/-
  Records laid anew, and one more, whatever a loss of power leaves.
-/
namespace Go.Proofs.YtnioagojiipjlaaGreat.Mt

theorem up_keep {d d' : Dk} {G a : Nat} {l : List (List UInt8)} (h : UpA d G) (hl : d'.lasts.length = d.lasts.length) (hs : ∀ i, i < d.lasts.length → d'.at i = d.at i ∨ (a ≤ i ∧ i < a + l.length ∧ d'.at i = l.getD (i - a) []) ∨ (rdCell (d'.at i) = Cl.zero ∧ rdHead (d'.at i) = (0, 0)))
    (h4 : 4 ≤ d.lasts.length) (hg : ∀ s ∈ l, (rdCell s).gen ≤ G ∧ (rdHead s).1 ≤ G) : UpA d' G := by
  have hz := hsize_two _ h4
  have H : ∀ i, i < d.lasts.length → ((d'.cl i).gen ≤ (d.cl i).gen ∨ (d'.cl i).gen ≤ G) ∧ ((d'.hd i).1 ≤ (d.hd i).1 ∨ (d'.hd i).1 ≤ G) := fun i hi => by
    unfold Dk.cl Dk.hd
    rcases hs i hi with e | ⟨e1, e2, e3⟩ | e
    · rw [e]; exact ⟨.inl (Nat.le_refl _), .inl (Nat.le_refl _)⟩
    · have hm : l.getD (i - a) [] ∈ l := by
        rw [List.getD_eq_getElem?_getD, List.getElem?_eq_getElem (by omega), Option.getD_some]
        exact List.getElem_mem _
      rw [e3]
      exact ⟨.inr (hg _ hm).1, .inr (hg _ hm).2⟩
    · rw [e.1, e.2]; exact ⟨.inr (Nat.zero_le _), .inr (Nat.zero_le _)⟩
  refine ⟨?_, ?_, fun i h1 h2 => ?_⟩
  · have := h.1; rcases (H 0 (by omega)).2 with e | e <;> omega
  · have := h.2.1; rcases (H 1 (by omega)).2 with e | e <;> omega
  · rw [hl] at h2
    have := h.2.2 i h1 h2
    rcases (H i (by omega)).1 with e | e <;> omega
theorem secs_gen {gen : Nat} (hg : 0 < gen) (hg2 : gen < 4294967296) {bs : List (List UInt8)} (hf : Fine bs) : ∀ s ∈ allSecs gen 0 bs, (rdCell s).gen ≤ gen ∧ (rdHead s).1 ≤ gen := by
  intro s hs
  rw [allSecs_map, List.mem_map] at hs
  obtain ⟨c, hc, rfl⟩ := hs
  obtain ⟨b, hb, m, i, hm, hi, rfl⟩ := mem_cellsB gen 0 bs c hc
  rw [hd_cell_sector, rd_cellAt hg hg2 (by have := hf.2; omega) (hf.1 b hb) hi]
  exact ⟨Nat.le_refl _, Nat.zero_le _⟩
theorem Lost.three {d d' : Dk} {a : Nat} {l : List (List UInt8)} (h : Lost d d' a l) (hc : d'.Clear) : ∀ i, i < d.lasts.length → d'.at i = d.at i ∨ (a ≤ i ∧ i < a + l.length ∧ d'.at i = l.getD (i - a) []) ∨ (rdCell (d'.at i) = Cl.zero ∧ rdHead (d'.at i) = (0, 0)) := fun i hi => by
  by_cases hm : a ≤ i ∧ i < a + l.length
  · rcases h.view hc hi hm with e | e | e
    · exact .inl e
    · exact .inr (.inl ⟨hm.1, hm.2, e⟩)
    · exact .inr (.inr e)
  · exact .inl (h.out i hi hm)
theorem Done.three {d d' : Dk} {a : Nat} {l : List (List UInt8)} (h : Done d d' a l) : ∀ i, i < d.lasts.length → d'.at i = d.at i ∨ (a ≤ i ∧ i < a + l.length ∧ d'.at i = l.getD (i - a) []) ∨ (rdCell (d'.at i) = Cl.zero ∧ rdHead (d'.at i) = (0, 0)) := fun i hi => by
  have hs := h.sec i hi
  by_cases hm : a ≤ i ∧ i < a + l.length
  · rw [if_pos hm] at hs; exact .inr (.inl ⟨hm.1, hm.2, hs⟩)
  · rw [if_neg hm] at hs; exact .inl hs
/-- The other half lies elsewhere. -/
theorem halves {h z i k : Nat} (hh : h ≤ 1) (hi : i < z) (hk : k ≤ z) : ¬ (2 + (1 - h) * z ≤ 2 + h * z + i ∧ 2 + h * z + i < 2 + (1 - h) * z + k) := by
  rcases Nat.le_one_iff_eq_zero_or_eq_one.1 hh with rfl | rfl <;> simp <;> omega
theorem half_top {h z n : Nat} (hh : h ≤ 1) (hz : 2 + 2 * z ≤ n) : 2 + (1 - h) * z + z ≤ n ∧ 2 + h * z + z ≤ n := by
  rcases Nat.le_one_iff_eq_zero_or_eq_one.1 hh with rfl | rfl <;> simp <;> omega
/-- The head is written. -/
theorem rest_new {d d1 d2 : Dk} {j : Jn} {bs : List (List UInt8)} (h4 : 4 ≤ d.lasts.length) (hh : j.half ≤ 1) (hk : j.head ≤ 1) (hup : UpA d j.gen) (hg : j.gen + 1 ≤ 4294967295) (hf : Fine bs) (hn : needs bs ≤ hsize d.lasts.length)
    (h1 : Done d d1 (2 + (1 - j.half) * hsize d.lasts.length) (allSecs (j.gen + 1) 0 bs)) (hu1 : UpA d2 (j.gen + 1)) (ho : On d2) (hl : d2.lasts.length = d.lasts.length)
    (hs : d2.at (1 - j.head) = hdSector (j.gen + 1) (1 - j.half)) (hr : ∀ i, i < d.lasts.length → i ≠ 1 - j.head → d2.at i = d1.at i) :
    Rest d2 ⟨j.gen + 1, 1 - j.half, 1 - j.head, bs.length, needs bs, false⟩ bs := by
  have hz := hsize_two _ h4
  have ht := half_top hh hz.1
  have hlen : (allSecs (j.gen + 1) 0 bs).length = needs bs := allSecs_length _ _ _
  have hd : rdHead (hdSector (j.gen + 1) (1 - j.half)) = (j.gen + 1, 1 - j.half) := rdHead_sector (by omega) (by omega) (by omega)
  have h01 : ∀ k, k < 2 → k ≠ 1 - j.head → d2.hd k = d.hd k := fun k hk2 hne => by
    unfold Dk.hd
    rw [hr k (by omega) hne]
    have := h1.sec k (by omega)
    rw [if_neg (by omega)] at this
    rw [this]
  refine ⟨ho, hu1, by show 0 < j.gen + 1; omega, by show j.gen + 1 < _; omega, by show 1 - j.half ≤ 1; omega, ?_, ?_, rfl, rfl, rfl, hf⟩
  · show (1 - j.head = 0 ∧ (d2.hd 1).1 < j.gen + 1 ∧ d2.hd 0 = (j.gen + 1, 1 - j.half)) ∨ (1 - j.head = 1 ∧ (d2.hd 0).1 < j.gen + 1 ∧ d2.hd 1 = (j.gen + 1, 1 - j.half))
    have hh2 : d2.hd (1 - j.head) = (j.gen + 1, 1 - j.half) := by unfold Dk.hd; rw [hs, hd]
    rcases Nat.le_one_iff_eq_zero_or_eq_one.1 hk with e | e
    · rw [e] at hh2 h01
      have := h01 0 (by omega) (by omega)
      refine .inr ⟨by omega, ?_, hh2⟩
      rw [this]; exact Nat.lt_succ_of_le hup.1
    · rw [e] at hh2 h01
      have := h01 1 (by omega) (by omega)
      refine .inl ⟨by omega, ?_, hh2⟩
      rw [this]; exact Nat.lt_succ_of_le hup.2.1
  · show ∃ rest, cellsAt d2 (2 + (1 - j.half) * hsize d2.lasts.length) (hsize d2.lasts.length) = cellsB (j.gen + 1) 0 bs ++ rest ∧ _
    rw [hl]
    have e1 : cellsAt d2 (2 + (1 - j.half) * hsize d.lasts.length) (hsize d.lasts.length) = cellsAt d1 (2 + (1 - j.half) * hsize d.lasts.length) (hsize d.lasts.length) := by
      unfold cellsAt Dk.cl
      refine List.map_congr_left fun i hi => ?_
      rw [hr _ (by have := List.mem_range.1 hi; omega) (by omega)]
    have e2 := Done.cells (a := 2 + (1 - j.half) * hsize d.lasts.length) (u := 0) (z := hsize d.lasts.length) h1 ht.1 (by rw [hlen]; omega)
    rw [List.take_zero, List.nil_append, rd_secs (by omega) (by omega) hf] at e2
    refine ⟨_, e1.trans e2, fun c hc => ?_⟩
    show c.gen ≠ j.gen + 1
    have hm := List.mem_of_mem_drop hc
    unfold cellsAt at hm
    rw [List.mem_map] at hm
    obtain ⟨i, hi, rfl⟩ := hm
    have := hup.2.2 (2 + (1 - j.half) * hsize d.lasts.length + i) (by omega) (by have := List.mem_range.1 hi; have := half_mul (z := hsize d.lasts.length) (show 1 - j.half ≤ 1 by omega); omega)
    omega

theorem lay_way {d : Dk} (hd : On d) (h4 : 4 ≤ d.lasts.length) {j : Jn} {T : List (List UInt8)} (hc : Cur d j.half j.head T) (hup : UpA d j.gen) (hg : j.gen + 1 ≤ 4294967295) {bs : List (List UInt8)} (hf : Fine bs) (hn : needs bs ≤ hsize d.lasts.length) :
    ((layJ d j bs).2.2 = 0 ∧ Rest (layJ d j bs).1 (layJ d j bs).2.1 bs ∧ (layJ d j bs).2.1.gen = j.gen + 1 ∧ (layJ d j bs).1.lasts.length = d.lasts.length ∧ (layJ d j bs).1.tears = d.tears ∧ (d.cut = 0 → (layJ d j bs).1.cut = 0)) ∨
    ((layJ d j bs).2.2 = 10 ∧ d.cut ≠ 0 ∧ On (layJ d j bs).1.on ∧ (layJ d j bs).1.lasts.length = d.lasts.length ∧ (∀ x ∈ d.tears, x ∈ (layJ d j bs).1.tears) ∧
      ((layJ d j bs).1.Clear → UpA (layJ d j bs).1.on (j.gen + 1) ∧ ∃ a b, Cur (layJ d j bs).1.on a b T ∨ Cur (layJ d j bs).1.on a b bs)) := by
  obtain ⟨hh, hk⟩ := hc.le
  have hz := hsize_two _ h4
  have ht := half_top hh hz.1
  have hlen : (allSecs (j.gen + 1) 0 bs).length = needs bs := allSecs_length _ _ _
  have hy := layJ_yes d j bs hg (by rw [hd.room]; omega) (by rw [hd.room, Nat.min_eq_left ht.1]; omega)
  have hw1 : ((lay1 d j bs).2 = 0 ∧ Done d (lay1 d j bs).1 (2 + (1 - j.half) * hsize d.lasts.length) (allSecs (j.gen + 1) 0 bs)) ∨ ((lay1 d j bs).2 = 10 ∧ Lost d (lay1 d j bs).1 (2 + (1 - j.half) * hsize d.lasts.length) (allSecs (j.gen + 1) 0 bs)) :=
    wrF_way (a := 2 + (1 - j.half) * hsize d.lasts.length) (l := allSecs (j.gen + 1) 0 bs) hd secs128 (by rw [hlen]; omega)
  have hgs := secs_gen (gen := j.gen + 1) (by omega) (by omega) hf
  rcases hw1 with ⟨e1, h1⟩ | ⟨e1, h1⟩
  · have hu1 : UpA (lay1 d j bs).1 (j.gen + 1) := up_keep (hup.mono (Nat.le_succ _)) h1.len h1.three h4 hgs
    have hc1 : Cur (lay1 d j bs).1 j.half j.head T := by
      refine hc.keep h1.len (.inl ?_) (.inl ?_) (fun i hi => ?_)
      · have := h1.sec 0 (by omega); rw [if_neg (by omega)] at this; unfold Dk.hd; rw [this]
      · have := h1.sec 1 (by omega); rw [if_neg (by omega)] at this; unfold Dk.hd; rw [this]
      · have := h1.sec (2 + j.half * hsize d.lasts.length + i) (by omega)
        rw [hlen, if_neg (halves hh hi hn)] at this; exact this
    have hw2 : ((lay2 d j bs).2 = 0 ∧ Done (lay1 d j bs).1 (lay2 d j bs).1 (1 - j.head) [hdSector (j.gen + 1) (1 - j.half)]) ∨ ((lay2 d j bs).2 = 10 ∧ Lost (lay1 d j bs).1 (lay2 d j bs).1 (1 - j.head) [hdSector (j.gen + 1) (1 - j.half)]) :=
      wrF_way h1.on (fun s hs => by rw [List.mem_singleton.1 hs]; exact hdSector_length _ _) (by rw [h1.len, List.length_singleton]; omega)
    have hgh : ∀ s ∈ [hdSector (j.gen + 1) (1 - j.half)], (rdCell s).gen ≤ j.gen + 1 ∧ (rdHead s).1 ≤ j.gen + 1 := fun s hs => by
      rw [List.mem_singleton.1 hs, rdHead_sector (by omega) (by omega) (by omega), rdCell_mark (by rw [mark_head]; decide)]
      exact ⟨Nat.zero_le _, Nat.le_refl _⟩
    rcases hw2 with ⟨e2, h2⟩ | ⟨e2, h2⟩
    · rw [lay_good hy e1 e2]
      refine .inl ⟨rfl, ?_, rfl, by show (lay2 d j bs).1.lasts.length = _; rw [h2.len, h1.len], by show (lay2 d j bs).1.tears = _; rw [h2.tears, h1.tears], fun h => h2.cut (h1.cut h)⟩
      refine rest_new h4 hh hk hup hg hf hn h1 (up_keep hu1 h2.len h2.three (by rw [h1.len]; exact h4) hgh) h2.on (by rw [h2.len, h1.len]) ?_ (fun i hi hne => ?_)
      · have := h2.sec (1 - j.head) (by rw [h1.len]; omega)
        rw [if_pos (by simp), Nat.sub_self] at this; exact this
      · have := h2.sec i (by rw [h1.len]; exact hi)
        rw [if_neg (by rw [List.length_singleton]; omega)] at this; exact this
    · rw [lay_bad2 hy e1 (by rw [e2]; decide)]
      refine .inr ⟨e2, fun h => h2.cut (h1.cut h), h2.on h1.on, by show (lay2 d j bs).1.lasts.length = _; rw [h2.len, h1.len], fun x hx => h2.tears x (by rw [h1.tears]; exact hx), fun hcl => ?_⟩
      have hcl' : (lay2 d j bs).1.Clear := hcl
      have hu2 : UpA (lay2 d j bs).1 (j.gen + 1) := up_keep hu1 h2.len (h2.three hcl') (by rw [h1.len]; exact h4) hgh
      have hout : ∀ i, i < d.lasts.length → i ≠ 1 - j.head → (lay2 d j bs).1.at i = (lay1 d j bs).1.at i := fun i hi hne => h2.out i (by rw [h1.len]; exact hi) (by rw [List.length_singleton]; omega)
      have hkeep : (lay2 d j bs).1.hd (1 - j.head) = (lay1 d j bs).1.hd (1 - j.head) ∨ (lay2 d j bs).1.hd (1 - j.head) = (0, 0) → Cur (lay2 d j bs).1 j.half j.head T := fun hx => by
        refine hc1.keep h2.len ?_ ?_ (fun i hi => hout _ (by rw [h1.len] at hi; rw [h1.len]; omega) (by omega))
        · rcases Nat.le_one_iff_eq_zero_or_eq_one.1 hk with e | e
          · refine .inl ?_; unfold Dk.hd; rw [hout 0 (by omega) (by omega)]
          · rw [e] at hx
            rcases hx with hx | hx
            · exact .inl hx
            · exact .inr ⟨e, hx⟩
        · rcases Nat.le_one_iff_eq_zero_or_eq_one.1 hk with e | e
          · rw [e] at hx
            rcases hx with hx | hx
            · exact .inl hx
            · exact .inr ⟨e, hx⟩
          · refine .inl ?_; unfold Dk.hd; rw [hout 1 (by omega) (by omega)]
      refine ⟨hu2, ?_⟩
      rcases h2.view hcl' (i := 1 - j.head) (by rw [h1.len]; omega) (by simp) with e | e | e
      · exact ⟨_, _, .inl (hkeep (.inl (by unfold Dk.hd; rw [e])))⟩
      · rw [Nat.sub_self] at e
        exact ⟨_, _, .inr (rest_new (d2 := (lay2 d j bs).1.on) h4 hh hk hup hg hf hn h1 hu2 (h2.on h1.on) (by show (lay2 d j bs).1.lasts.length = _; rw [h2.len, h1.len]) e hout).cur⟩
      · exact ⟨_, _, .inl (hkeep (.inr e.2))⟩
  · rw [lay_bad1 hy (by rw [e1]; decide)]
    refine .inr ⟨e1, h1.cut, h1.on hd, h1.len, h1.tears, fun hcl => ⟨?_, j.half, j.head, .inl ?_⟩⟩
    · exact up_keep (d' := (lay1 d j bs).1) (hup.mono (Nat.le_succ _)) h1.len (h1.three hcl) h4 hgs
    · refine Cur.keep (d' := (lay1 d j bs).1) hc h1.len (.inl ?_) (.inl ?_) (fun i hi => ?_)
      · unfold Dk.hd; rw [h1.out 0 (by omega) (by omega)]
      · unfold Dk.hd; rw [h1.out 1 (by omega) (by omega)]
      · exact h1.out _ (by omega) (by rw [hlen]; exact halves hh hi hn)
end Go.Proofs.YtnioagojiipjlaaGreat.Mt

/-
  One record more, whatever a loss of power leaves; what is opened then.
-/
namespace Go.Proofs.YtnioagojiipjlaaGreat.Mt

theorem recordsF_stop (f : Nat) (l : List Cl) (gen n : Nat) (h : l = [] ∨ (record l gen n).2 = 0) : recordsF f l gen n = [] := by
  cases f with
  | zero => rfl
  | succ f =>
    unfold recordsF
    rw [if_pos]
    rcases h with rfl | h
    · exact .inl rfl
    · exact .inr h
theorem records_stop (gen : Nat) : ∀ (bs : List (List UInt8)) (n : Nat) (rest : List Cl) (f : Nat), (cellsB gen n bs ++ rest).length ≤ f → (rest = [] ∨ (record rest gen (n + bs.length)).2 = 0) → recordsF f (cellsB gen n bs ++ rest) gen n = bs
  | [], n, rest, f, _, hr => recordsF_stop f rest gen n hr
  | b :: r, n, rest, f, hf, hr => by
    have e : cellsB gen n (b :: r) ++ rest = (List.range (cellsN b.length)).map (cellAt gen n b) ++ (cellsB gen (n + 1) r ++ rest) := by
      show ((List.range (cellsN b.length)).map (cellAt gen n b) ++ cellsB gen (n + 1) r) ++ rest = _
      rw [List.append_assoc]
    rw [e] at hf ⊢
    have h1 : 1 ≤ cellsN b.length := by unfold cellsN; omega
    cases f with
    | zero => simp at hf; omega
    | succ f =>
      unfold recordsF
      have hne : ¬ (((List.range (cellsN b.length)).map (cellAt gen n b) ++ (cellsB gen (n + 1) r ++ rest)).length = 0 ∨ ((b, cellsN b.length) : List UInt8 × Nat).2 = 0) := by
        rintro (h | h)
        · rw [List.length_append, List.length_map, List.length_range] at h; omega
        · have h' : cellsN b.length = 0 := h
          omega
      rw [record_laid, if_neg hne]
      simp only
      rw [List.drop_left' (by simp), records_stop gen r (n + 1) rest f (by simp at hf ⊢; omega) (by rw [show n + 1 + r.length = n + (r.length + 1) by omega]; exact hr)]
/-- A record of which a part isn't there. -/
theorem record_part {R : List Cl} {gen n k : Nat} {b : List UInt8} (hk : k < cellsN b.length) (hkl : k < R.length) (h0 : R.getD 0 Cl.zero = cellAt gen n b 0 ∨ (R.getD 0 Cl.zero).gen ≠ gen) (hg : (R.getD k Cl.zero).gen ≠ gen) : (record R gen n).2 = 0 := by
  unfold record
  split
  · rfl
  · split
    · rename_i h1 h2
      show (R.getD 0 Cl.zero).parts = 0
      unfold recOk at h2
      rw [List.all_eq_true] at h2
      rcases h0 with h0 | h0
      · exfalso
        have hp : (R.getD 0 Cl.zero).parts = cellsN b.length := by rw [h0]; rfl
        have := h2 k (List.mem_range.2 (by omega))
        simp only [Bool.and_eq_true, decide_eq_true_eq] at this
        exact hg this.1.1.1
      · rcases Nat.eq_zero_or_pos (R.getD 0 Cl.zero).parts with hz | hz
        · exact hz
        · exfalso
          have := h2 0 (List.mem_range.2 hz)
          simp only [Bool.and_eq_true, decide_eq_true_eq] at this
          exact h0 this.1.1.1
    · rfl

theorem app_way {d : Dk} {j : Jn} {T : List (List UInt8)} (h : Rest d j T) (h4 : 4 ≤ d.lasts.length) {b : List UInt8} (hb : b.length ≤ 262144) (hn : T.length + 1 < 4294967296) :
    (appendJ d j b = (d, j, 11)) ∨
    ((appendJ d j b).2.2 = 0 ∧ Rest (appendJ d j b).1 (appendJ d j b).2.1 (T ++ [b]) ∧ (appendJ d j b).2.1.gen = j.gen ∧ (appendJ d j b).1.lasts.length = d.lasts.length ∧ (appendJ d j b).1.tears = d.tears ∧ (d.cut = 0 → (appendJ d j b).1.cut = 0)) ∨
    ((appendJ d j b).2.2 = 10 ∧ d.cut ≠ 0 ∧ On (appendJ d j b).1.on ∧ (appendJ d j b).1.lasts.length = d.lasts.length ∧ (∀ x ∈ d.tears, x ∈ (appendJ d j b).1.tears) ∧
      ((appendJ d j b).1.Clear → UpA (appendJ d j b).1.on j.gen ∧ ∃ p q, Cur (appendJ d j b).1.on p q T ∨ Cur (appendJ d j b).1.on p q (T ++ [b]))) := by
  have hd := h.on
  have hz := hsize_two _ h4
  have ht := half_top h.half hz.1
  have hask : askJ j [b] = 0 := by unfold askJ; rw [h.opened]; simp [hb]
  obtain ⟨rest, hcells, hrest⟩ := h.cells
  have hcl : (cellsB j.gen 0 T).length = j.used := by rw [cellsB_length, h.used]
  have huz : j.used + rest.length = hsize d.lasts.length := by
    have := congrArg List.length hcells
    rw [cellsAt_length, List.length_append, hcl] at this
    exact this.symm
  by_cases hleft : cellsN b.length ≤ j.left d
  · have hl2 : j.used + cellsN b.length ≤ hsize d.lasts.length := by
      unfold Jn.left Jn.first at hleft
      rw [hd.room, Nat.min_eq_left ht.2] at hleft
      have : 1 ≤ cellsN b.length := by unfold cellsN; omega
      omega
    have hfm : (T ++ [b]).length < 4294967296 := by rw [List.length_append]; exact hn
    have hfine : Fine (T ++ [b]) := ⟨fun x hx => by
      rcases List.mem_append.1 hx with hx | hx
      · exact h.fine.1 x hx
      · rw [List.mem_singleton.1 hx]; omega, hfm⟩
    have hlen : (secsOf j.gen j.count b).length = cellsN b.length := secsOf_length _ _ _
    have hrd : ∀ i, i < cellsN b.length → rdCell (cellAt j.gen j.count b i).sector = cellAt j.gen j.count b i := fun i hi => rd_cellAt h.pos h.lt (by rw [h.count]; have := h.fine.2; omega) (by omega) hi
    have hget : ∀ i, i < cellsN b.length → (secsOf j.gen j.count b).getD i [] = (cellAt j.gen j.count b i).sector := fun i hi => by
      rw [List.getD_eq_getElem?_getD, List.getElem?_eq_getElem (by rw [hlen]; exact hi), Option.getD_some]
      unfold secsOf
      rw [List.getElem_map, List.getElem_range]
    have hmap : (secsOf j.gen j.count b).map rdCell = (List.range (cellsN b.length)).map (cellAt j.gen j.count b) := by
      rw [secsOf_map, List.map_map, List.map_map]
      exact List.map_congr_left fun i hi => hrd i (List.mem_range.1 hi)
    have hs128 : ∀ s ∈ secsOf j.gen j.count b, s.length = 128 := fun s hs => by
      unfold secsOf at hs
      rw [List.mem_map] at hs
      obtain ⟨i, _, rfl⟩ := hs
      exact Cl.sector_length (cellAt_body _ _ _ _)
    have hgs : ∀ s ∈ secsOf j.gen j.count b, (rdCell s).gen ≤ j.gen ∧ (rdHead s).1 ≤ j.gen := fun s hs => by
      unfold secsOf at hs
      rw [List.mem_map] at hs
      obtain ⟨i, hi, rfl⟩ := hs
      rw [hrd i (List.mem_range.1 hi), hd_cell_sector]
      exact ⟨Nat.le_refl _, Nat.zero_le _⟩
    have hw : ((app1 d j b).2 = 0 ∧ Done d (app1 d j b).1 (2 + j.half * hsize d.lasts.length + j.used) (secsOf j.gen j.count b)) ∨ ((app1 d j b).2 = 10 ∧ Lost d (app1 d j b).1 (2 + j.half * hsize d.lasts.length + j.used) (secsOf j.gen j.count b)) :=
      wrF_way (a := 2 + j.half * hsize d.lasts.length + j.used) (l := secsOf j.gen j.count b) hd hs128 (by rw [hlen]; omega)
    have hcb : cellsB j.gen 0 (T ++ [b]) = cellsB j.gen 0 T ++ (List.range (cellsN b.length)).map (cellAt j.gen j.count b) := by rw [cellsB_append, Nat.zero_add, h.count]
    rcases hw with ⟨e1, h1⟩ | ⟨e1, h1⟩
    · rw [append_good hask hleft e1]
      refine .inr (.inl ⟨rfl, ?_, rfl, h1.len, h1.tears, h1.cut⟩)
      have hhd : ∀ k, k < 2 → (app1 d j b).1.hd k = d.hd k := fun k hk => by
        have := h1.sec k (by omega); rw [if_neg (by omega)] at this; unfold Dk.hd; rw [this]
      refine ⟨h1.on, up_keep (d' := (app1 d j b).1) h.up h1.len h1.three h4 hgs, h.pos, h.lt, h.half, ?_, ?_, ?_, ?_, h.opened, hfine⟩
      · show j.head = 0 ∧ ((app1 d j b).1.hd 1).1 < j.gen ∧ (app1 d j b).1.hd 0 = (j.gen, j.half) ∨ j.head = 1 ∧ ((app1 d j b).1.hd 0).1 < j.gen ∧ (app1 d j b).1.hd 1 = (j.gen, j.half)
        rw [hhd 0 (by omega), hhd 1 (by omega)]; exact h.head
      · show ∃ rest', cellsAt (app1 d j b).1 (2 + j.half * hsize (app1 d j b).1.lasts.length) (hsize (app1 d j b).1.lasts.length) = cellsB j.gen 0 (T ++ [b]) ++ rest' ∧ ∀ c ∈ rest', c.gen ≠ j.gen
        rw [h1.len]
        have e2 := Done.cells (a := 2 + j.half * hsize d.lasts.length) (u := j.used) (z := hsize d.lasts.length) h1 ht.2 (by rw [hlen]; exact hl2)
        rw [hmap, hlen, hcells, List.take_left' hcl, ← hcl, List.drop_append, List.drop_eq_nil_of_le (by omega), List.nil_append, ← List.append_assoc, ← hcb] at e2
        exact ⟨_, e2, fun c hc => hrest c (List.mem_of_mem_drop hc)⟩
      · show j.used + cellsN b.length = needs (T ++ [b])
        rw [h.used, needs_snoc2]
      · show j.count + 1 = (T ++ [b]).length
        rw [h.count, List.length_append]; rfl
    · rw [append_bad hask hleft (by rw [e1]; decide)]
      refine .inr (.inr ⟨e1, h1.cut, h1.on hd, h1.len, h1.tears, fun hclr => ⟨?_, j.half, j.head, ?_⟩⟩)
      · exact up_keep (d' := (app1 d j b).1) h.up h1.len (h1.three hclr) h4 hgs
      · have hclr' : (app1 d j b).1.Clear := hclr
        have hout : ∀ i, i < d.lasts.length → ¬ (2 + j.half * hsize d.lasts.length + j.used ≤ i ∧ i < 2 + j.half * hsize d.lasts.length + j.used + cellsN b.length) → (app1 d j b).1.cl i = d.cl i := fun i hi hne => by
          unfold Dk.cl; rw [h1.out i hi (by rw [hlen]; exact hne)]
        have hhd : ∀ k, k < 2 → (app1 d j b).1.hd k = d.hd k := fun k hk => by
          unfold Dk.hd; rw [h1.out k (by omega) (by omega)]
        -- the cells behind those that were told
        obtain ⟨R, hR⟩ : ∃ R, (cellsAt (app1 d j b).1 (2 + j.half * hsize d.lasts.length) (hsize d.lasts.length)).drop j.used = R := ⟨_, rfl⟩
        have hRl : R.length = hsize d.lasts.length - j.used := by rw [← hR, List.length_drop, cellsAt_length]
        have hRg : ∀ i (hi : i < R.length), R[i] = (app1 d j b).1.cl (2 + j.half * hsize d.lasts.length + j.used + i) := fun i hi => by
          simp only [← hR]
          rw [List.getElem_drop, cellsAt_get _ _ _ _ (by omega)]
          congr 1; omega
        have hC : cellsAt (app1 d j b).1 (2 + j.half * hsize d.lasts.length) (hsize d.lasts.length) = cellsB j.gen 0 T ++ R := by
          rw [← List.take_append_drop j.used (cellsAt (app1 d j b).1 (2 + j.half * hsize d.lasts.length) (hsize d.lasts.length)), hR]
          congr 1
          have e3 : cellsB j.gen 0 T = (cellsAt d (2 + j.half * hsize d.lasts.length) (hsize d.lasts.length)).take j.used := by rw [hcells, List.take_left' hcl]
          rw [e3]
          apply List.ext_getElem
          · rw [List.length_take, List.length_take, cellsAt_length, cellsAt_length]
          · intro i i1 i2
            rw [List.length_take, cellsAt_length] at i1
            rw [List.getElem_take, List.getElem_take, cellsAt_get _ _ _ _ (by omega), cellsAt_get _ _ _ _ (by omega), hout _ (by omega) (by omega)]
        have hold : ∀ i (hi : i < rest.length), rest[i] = d.cl (2 + j.half * hsize d.lasts.length + j.used + i) := fun i hi => by
          have e4 : rest = (cellsAt d (2 + j.half * hsize d.lasts.length) (hsize d.lasts.length)).drop j.used := by rw [hcells, List.drop_left' hcl]
          simp only [e4]
          rw [List.getElem_drop, cellsAt_get _ _ _ _ (by omega)]
          congr 1; omega
        have hmid : ∀ i, i < cellsN b.length → (app1 d j b).1.cl (2 + j.half * hsize d.lasts.length + j.used + i) = cellAt j.gen j.count b i ∨ ((app1 d j b).1.cl (2 + j.half * hsize d.lasts.length + j.used + i)).gen ≠ j.gen := fun i hi => by
          unfold Dk.cl
          rcases h1.view hclr' (i := 2 + j.half * hsize d.lasts.length + j.used + i) (by omega) (by rw [hlen]; omega) with e | e | e
          · right
            rw [e]
            have := hrest rest[i] (List.getElem_mem (by omega))
            rw [hold i (by omega)] at this
            exact this
          · left
            rw [e, show 2 + j.half * hsize d.lasts.length + j.used + i - (2 + j.half * hsize d.lasts.length + j.used) = i by omega, hget i hi]
            exact hrd i hi
          · right
            rw [e.1]
            have := h.pos
            show 0 ≠ j.gen
            omega
        have hcur : ∀ S, records (cellsB j.gen 0 T ++ R) j.gen = S → Cur (app1 d j b).1.on j.half j.head S := fun S hS => by
          have hr : records (cellsAt (app1 d j b).1 (2 + j.half * hsize (app1 d j b).1.lasts.length) (hsize (app1 d j b).1.lasts.length)) j.gen = S := by rw [h1.len, hC]; exact hS
          rcases h.head with ⟨k1, k2, k3⟩ | ⟨k1, k2, k3⟩
          · have a0 : (app1 d j b).1.hd 0 = (j.gen, j.half) := by rw [hhd 0 (by omega)]; exact k3
            have a1 : ((app1 d j b).1.hd 1).1 < j.gen := by rw [hhd 1 (by omega)]; exact k2
            refine .inr (.inl ⟨k1, ?_, ?_, ?_, ?_⟩)
            · show 0 < ((app1 d j b).1.hd 0).1; rw [a0]; exact h.pos
            · show ((app1 d j b).1.hd 1).1 ≤ ((app1 d j b).1.hd 0).1; rw [a0]; exact Nat.le_of_lt a1
            · show j.half = ((app1 d j b).1.hd 0).2; rw [a0]
            · show S = records (cellsAt (app1 d j b).1 _ _) ((app1 d j b).1.hd 0).1; rw [a0]; exact hr.symm
          · have a0 : (app1 d j b).1.hd 1 = (j.gen, j.half) := by rw [hhd 1 (by omega)]; exact k3
            have a1 : ((app1 d j b).1.hd 0).1 < j.gen := by rw [hhd 0 (by omega)]; exact k2
            refine .inr (.inr ⟨k1, ?_, ?_, ?_⟩)
            · show ((app1 d j b).1.hd 0).1 < ((app1 d j b).1.hd 1).1; rw [a0]; exact a1
            · show j.half = ((app1 d j b).1.hd 1).2; rw [a0]
            · show S = records (cellsAt (app1 d j b).1 _ _) ((app1 d j b).1.hd 1).1; rw [a0]; exact hr.symm
        have hkk : 1 ≤ cellsN b.length := by unfold cellsN; omega
        by_cases hall : ∀ i, i < cellsN b.length → (app1 d j b).1.cl (2 + j.half * hsize d.lasts.length + j.used + i) = cellAt j.gen j.count b i
        · right
          refine hcur _ ?_
          have hR2 : R = (List.range (cellsN b.length)).map (cellAt j.gen j.count b) ++ rest.drop (cellsN b.length) := by
            apply List.ext_getElem
            · rw [List.length_append, List.length_map, List.length_range, List.length_drop, hRl]; omega
            · intro i i1 i2
              rw [hRg i i1]
              by_cases hi : i < cellsN b.length
              · rw [List.getElem_append_left (by rw [List.length_map, List.length_range]; exact hi), List.getElem_map, List.getElem_range]
                exact hall i hi
              · rw [List.getElem_append_right (by rw [List.length_map, List.length_range]; omega), List.getElem_drop]
                simp only [List.length_map, List.length_range]
                rw [hold _ (by omega), hout _ (by omega) (by omega)]
                congr 1
                omega
          rw [hR2, ← List.append_assoc, ← hcb]
          unfold records
          exact records_laid j.gen (T ++ [b]) 0 _ _ (Nat.le_refl _) (fun c hc => .inl (hrest c (List.mem_of_mem_drop hc)))
        · left
          refine hcur _ ?_
          have hex : ∃ i, i < cellsN b.length ∧ (app1 d j b).1.cl (2 + j.half * hsize d.lasts.length + j.used + i) ≠ cellAt j.gen j.count b i := by
            simpa using hall
          obtain ⟨k, hk, hne⟩ := hex
          have hgk := (hmid k hk).resolve_left hne
          have hD : ∀ i, i < R.length → R.getD i Cl.zero = (app1 d j b).1.cl (2 + j.half * hsize d.lasts.length + j.used + i) := fun i hi => by
            rw [List.getD_eq_getElem?_getD, List.getElem?_eq_getElem hi, Option.getD_some, hRg i hi]
          unfold records
          refine records_stop j.gen T 0 R _ (Nat.le_refl _) (.inr ?_)
          rw [Nat.zero_add, ← h.count]
          refine record_part hk (by omega) ?_ ?_
          · rw [hD 0 (by omega)]; exact hmid 0 hkk
          · rw [hD k (by omega)]; exact hgk
  · left
    unfold appendJ
    rw [if_pos hask, if_neg hleft]
end Go.Proofs.YtnioagojiipjlaaGreat.Mt
