/-
  Some texts of one proof, one behind the other.
-/
import Derived.Test.YtnioagojiipjlaaGreatPk32
set_option linter.unusedVariables false
set_option linter.unusedSimpArgs false

/-
  A journal laid on a disk with power and room, read again: the same records, and the next generation. Nothing of the program stands here.
-/
namespace Go.Proofs.YtnioagojiipjlaaGreat.Mt

/-- A disk with power and room, and no loss asked for. -/
structure Dk.Calm (d : Dk) : Prop where
  ok : d.Ok
  off : d.off = false
  cut : d.cut = 0
  room : d.room = d.lasts.length
theorem sec_eq {d : Dk} (h : d.off = false) {i : Nat} (hi : i < d.lasts.length) : d.sec i = (d.waits.getD i none).getD (d.lasts.getD i []) := by
  have : d.ask (i : Int) = 0 := by unfold Dk.ask; rw [h]; simp; omega
  unfold Dk.sec Dk.read
  rw [if_pos this]
  simp
theorem Dk.Calm.write {d : Dk} (h : d.Calm) {a : Nat} {s : List UInt8} (ha : a < d.lasts.length) (hs : s.length = 128) :
    (d.write (a : Int) s).2 = 0 ∧ (d.write (a : Int) s).1.Calm ∧ (d.write (a : Int) s).1.lasts.length = d.lasts.length ∧ ∀ i, i < d.lasts.length → (d.write (a : Int) s).1.sec i = if i = a then s else d.sec i := by
  have hask : d.ask (a : Int) = 0 := by unfold Dk.ask; rw [h.off]; simp; omega
  have hlt : (a : Int) < (d.room : Int) := by rw [h.room]; omega
  have hw : d.write (a : Int) s = ({ d with waits := d.waits.set a (some s) }, 0) := by
    unfold Dk.write
    rw [if_pos hask, if_pos hs, if_pos hlt]
    unfold Dk.count
    simp [h.cut]
  have hokc : ({ d with waits := d.waits.set a (some s) } : Dk).Ok := h.ok.wait a s hs
  rw [hw]
  refine ⟨rfl, ⟨hokc, h.off, h.cut, h.room⟩, rfl, fun i hi => ?_⟩
  rw [sec_eq (d := { d with waits := d.waits.set a (some s) }) h.off hi, sec_eq h.off hi]
  simp only [List.getD_eq_getElem?_getD, List.getElem?_set]
  by_cases e : i = a
  · subst e
    rw [if_pos rfl, if_pos rfl, if_pos (by rw [h.ok.len]; exact hi)]
    rfl
  · rw [if_neg (fun x => e x.symm), if_neg e]
theorem Dk.Calm.flush {d : Dk} (h : d.Calm) : d.flush.2 = 0 ∧ d.flush.1.Calm ∧ d.flush.1.lasts.length = d.lasts.length ∧ (∀ i, i < d.lasts.length → d.flush.1.sec i = d.sec i) ∧ d.flush.1.waits = noWaits d.lasts.length := by
  have hc : d.count = (d, 0) := by unfold Dk.count; simp [h.cut]
  have hw : d.flush = (d.flushed, 0) := by
    unfold Dk.flush
    rw [h.off, hc]; rfl
  have hl : d.flushed.lasts.length = d.lasts.length := over_length _ _ h.ok.len
  rw [hw]
  refine ⟨rfl, ⟨h.ok.flushed, h.off, h.cut, by show d.room = d.flushed.lasts.length; rw [hl]; exact h.room⟩, hl, fun i hi => ?_, rfl⟩
  rw [sec_eq (d := d.flushed) h.off (by rw [hl]; exact hi), sec_eq h.off hi]
  show ((noWaits d.lasts.length).getD i none).getD ((over d.lasts d.waits).getD i []) = _
  have h1 : (noWaits d.lasts.length).getD i none = none := by unfold noWaits; rw [List.getD_eq_getElem?_getD, List.getElem?_replicate]; split <;> rfl
  have hwi : i < d.waits.length := by rw [h.ok.len]; exact hi
  rw [h1]
  simp only [Option.getD_none, over, List.getD_eq_getElem?_getD, List.getElem?_zipWith, List.getElem?_eq_getElem hi, List.getElem?_eq_getElem hwi, Option.getD_some]
theorem Dk.Calm.wrS : ∀ (l : List (List UInt8)) (d : Dk) (a : Nat), d.Calm → (∀ s ∈ l, s.length = 128) → a + l.length ≤ d.lasts.length →
    (wrS d a l).2 = 0 ∧ (Mt.wrS d a l).1.Calm ∧ ∀ i, i < d.lasts.length → (Mt.wrS d a l).1.sec i = if a ≤ i ∧ i < a + l.length then l.getD (i - a) [] else d.sec i
  | [], d, a, h, _, _ => ⟨rfl, h, fun i _ => by rw [if_neg (by simp)]; rfl⟩
  | s :: r, d, a, h, hs, hl => by
    have hw := h.write (a := a) (s := s) (by simp at hl; omega) (hs s (List.mem_cons_self ..))
    have ih := Dk.Calm.wrS r (d.write (a : Int) s).1 (a + 1) hw.2.1 (fun x hx => hs x (List.mem_cons_of_mem _ hx)) (by rw [hw.2.2.1]; simp at hl; omega)
    have e : Mt.wrS d a (s :: r) = Mt.wrS (d.write (a : Int) s).1 (a + 1) r := by
      conv => lhs; unfold Mt.wrS
      rw [if_pos hw.1]
    rw [e]
    refine ⟨ih.1, ih.2.1, fun i hi => ?_⟩
    rw [ih.2.2 i (by rw [hw.2.2.1]; exact hi), hw.2.2.2 i hi]
    by_cases h1 : a + 1 ≤ i ∧ i < a + 1 + r.length
    · rw [if_pos h1, if_pos (by simp; omega), show i - a = (i - (a + 1)) + 1 by omega, List.getD_cons_succ]
    · rw [if_neg h1]
      by_cases h2 : i = a
      · subst h2
        rw [if_pos rfl, if_pos (by simp), Nat.sub_self, List.getD_cons_zero]
      · rw [if_neg h2, if_neg (by simp; omega)]

theorem getD_left (a b : List Cl) (i : Nat) (h : i < a.length) (x : Cl) : (a ++ b).getD i x = a.getD i x := by
  rw [List.getD_eq_getElem?_getD, List.getD_eq_getElem?_getD, List.getElem?_append_left h]
theorem getD_right (a b : List Cl) (i : Nat) (h : a.length ≤ i) (x : Cl) : (a ++ b).getD i x = b.getD (i - a.length) x := by
  rw [List.getD_eq_getElem?_getD, List.getD_eq_getElem?_getD, List.getElem?_append_right h]
/-- All cells of bodies. -/
def cellsB (gen : Nat) : Nat → List (List UInt8) → List Cl
  | _, [] => []
  | n, b :: r => (List.range (cellsN b.length)).map (cellAt gen n b) ++ cellsB gen (n + 1) r
theorem cellsB_length (gen : Nat) : ∀ (n : Nat) (bs : List (List UInt8)), (cellsB gen n bs).length = needs bs
  | _, [] => rfl
  | n, b :: r => by simp [cellsB, needs, cellsB_length gen (n + 1) r]
theorem cellAt_body (gen n : Nat) (b : List UInt8) (i : Nat) : (cellAt gen n b i).body.length ≤ 110 := by
  show ((b.drop _).take _).length ≤ 110
  rw [List.length_take]; omega
theorem Dk.Calm.putsJ : ∀ (bs : List (List UInt8)) (d : Dk) (j : Jn), d.Calm → j.first d.lasts.length + j.used + needs bs ≤ d.lasts.length →
    (Mt.putsJ d j bs).2.2 = 0 ∧ (Mt.putsJ d j bs).1.Calm ∧ ∀ i, i < d.lasts.length → (Mt.putsJ d j bs).1.sec i = if j.first d.lasts.length + j.used ≤ i ∧ i < j.first d.lasts.length + j.used + needs bs then ((cellsB j.gen j.count bs).getD (i - (j.first d.lasts.length + j.used)) Cl.zero).sector else d.sec i
  | [], d, j, h, _ => ⟨rfl, h, fun i _ => by rw [if_neg (by simp [needs])]; rfl⟩
  | b :: r, d, j, h, hl => by
    have hn : needs (b :: r) = cellsN b.length + needs r := rfl
    rw [hn] at hl ⊢
    have hsl : (secsOf j.gen j.count b).length = cellsN b.length := by simp [secsOf]
    have hw := Dk.Calm.wrS (secsOf j.gen j.count b) d (j.first d.lasts.length + j.used) h (fun s hs => by
      unfold secsOf at hs
      rw [List.mem_map] at hs
      obtain ⟨i, _, rfl⟩ := hs
      exact Cl.sector_length (cellAt_body _ _ _ _)) (by rw [hsl]; omega)
    rw [hsl] at hw
    have hp : Mt.putJ d j b = ((Mt.wrS d (j.first d.lasts.length + j.used) (secsOf j.gen j.count b)).1, { j with count := j.count + 1, used := j.used + cellsN b.length }, 0) := by
      unfold Mt.putJ
      rw [if_pos hw.1]
    have hlen := wrS_len (secsOf j.gen j.count b) d (j.first d.lasts.length + j.used)
    have ih := Dk.Calm.putsJ r (Mt.putJ d j b).1 (Mt.putJ d j b).2.1 (by rw [hp]; exact hw.2.1) (by
      rw [hp]
      show 2 + j.half * hsize (Mt.wrS _ _ _).1.lasts.length + (j.used + cellsN b.length) + needs r ≤ (Mt.wrS _ _ _).1.lasts.length
      rw [hlen]
      have : j.first d.lasts.length = 2 + j.half * hsize d.lasts.length := rfl
      omega)
    have e : Mt.putsJ d j (b :: r) = Mt.putsJ (Mt.putJ d j b).1 (Mt.putJ d j b).2.1 r := by
      conv => lhs; unfold Mt.putsJ
      rw [if_pos (by rw [hp])]
    rw [e]
    refine ⟨ih.1, ih.2.1, fun i hi => ?_⟩
    have hl1 : (Mt.putJ d j b).1.lasts.length = d.lasts.length := by rw [hp]; exact hlen
    have hf : (Mt.putJ d j b).2.1.first (Mt.putJ d j b).1.lasts.length = j.first d.lasts.length := by rw [hl1, hp]; rfl
    have hu : (Mt.putJ d j b).2.1.used = j.used + cellsN b.length := by rw [hp]
    have hc : (Mt.putJ d j b).2.1.count = j.count + 1 := by rw [hp]
    have hg : (Mt.putJ d j b).2.1.gen = j.gen := by rw [hp]
    have ih2 := ih.2.2 i (by rw [hl1]; exact hi)
    rw [hf, hu, hc, hg] at ih2
    rw [ih2, show (Mt.putJ d j b).1.sec i = (Mt.wrS d (j.first d.lasts.length + j.used) (secsOf j.gen j.count b)).1.sec i by rw [hp], hw.2.2 i hi]
    have hA : j.first d.lasts.length + (j.used + cellsN b.length) = j.first d.lasts.length + j.used + cellsN b.length := by omega
    have hml : ((List.range (cellsN b.length)).map (cellAt j.gen j.count b)).length = cellsN b.length := by simp
    rw [hA]
    generalize j.first d.lasts.length + j.used = A
    have hcb : cellsB j.gen j.count (b :: r) = (List.range (cellsN b.length)).map (cellAt j.gen j.count b) ++ cellsB j.gen (j.count + 1) r := rfl
    rw [hcb]
    by_cases h1 : A + cellsN b.length ≤ i ∧ i < A + cellsN b.length + needs r
    · rw [if_pos h1, if_pos (by omega), getD_right _ _ _ (by rw [hml]; omega), hml, show i - A - cellsN b.length = i - (A + cellsN b.length) by omega]
    · rw [if_neg h1]
      by_cases h2 : A ≤ i ∧ i < A + cellsN b.length
      · rw [if_pos h2, if_pos (by omega), getD_left _ _ _ (by rw [hml]; omega)]
        have hk : i - A < cellsN b.length := by omega
        unfold secsOf
        simp only [List.getD_eq_getElem?_getD, List.getElem?_map, List.getElem?_range hk, Option.map_some, Option.getD_some]
      · rw [if_neg h2, if_neg (by omega)]

/-! ### what was laid is read -/
theorem cellAt_sound (gen n : Nat) (b : List UInt8) (i : Nat) (hg : 0 < gen) (hi : i < cellsN b.length) : (cellAt gen n b i).sound = true := by
  have hbl : (cellAt gen n b i).body.length = min 110 (b.length - 110 * i) := by
    show ((b.drop _).take _).length = _
    rw [List.length_take, List.length_drop]
  have hN : cellsN b.length = max 1 ((b.length + 109) / 110) := rfl
  unfold Cl.sound
  rw [if_neg (by show ¬ (gen = 0 ∨ cellsN b.length ≤ i); omega)]
  show (if i + 1 < cellsN b.length then decide ((cellAt gen n b i).body.length = 110) else (decide (0 < (cellAt gen n b i).body.length) || decide (cellsN b.length = 1))) = true
  rw [hbl]
  split
  · rw [decide_eq_true_eq]; omega
  · rw [Bool.or_eq_true, decide_eq_true_eq, decide_eq_true_eq]; omega
theorem cellAt_fits (gen n : Nat) (b : List UInt8) (i : Nat) (hg : gen < 4294967296) (hn : n < 4294967296) (hb : b.length ≤ 1048576) (hi : i < cellsN b.length) : (cellAt gen n b i).Fits :=
  have h9 : cellsN b.length ≤ 9534 := by unfold cellsN; omega
  ⟨hg, hn, by show i < 65536; omega, by show cellsN b.length < 65536; omega, cellAt_body _ _ _ _⟩
theorem body_parts (gen n : Nat) (b : List UInt8) : ∀ k, (((List.range k).map (cellAt gen n b)).map (·.body)).flatten = b.take (110 * k)
  | 0 => by simp
  | k + 1 => by
    rw [List.range_succ, List.map_append, List.map_append, List.flatten_append, body_parts gen n b k]
    show b.take (110 * k) ++ [((b.drop (110 * k)).take 110)].flatten = _
    rw [List.flatten_cons, List.flatten_nil, List.append_nil, show 110 * (k + 1) = 110 * k + 110 by omega, List.take_add]
theorem bodyOf_laid (gen n : Nat) (b : List UInt8) (rest : List Cl) : bodyOf ((List.range (cellsN b.length)).map (cellAt gen n b) ++ rest) (cellsN b.length) = b := by
  unfold bodyOf
  rw [List.take_left' (by simp), body_parts]
  exact List.take_of_length_le (by unfold cellsN; omega)
/-- A body that was laid is the record there. -/
theorem record_laid (gen n : Nat) (b : List UInt8) (rest : List Cl) : record ((List.range (cellsN b.length)).map (cellAt gen n b) ++ rest) gen n = (b, cellsN b.length) := by
  have h1 : 1 ≤ cellsN b.length := by unfold cellsN; omega
  have hg : ∀ i, i < cellsN b.length → ((List.range (cellsN b.length)).map (cellAt gen n b) ++ rest).getD i Cl.zero = cellAt gen n b i := fun i hi => by
    rw [getD_left _ _ _ (by simpa using hi)]
    simp only [List.getD_eq_getElem?_getD, List.getElem?_map, List.getElem?_range hi, Option.map_some, Option.getD_some]
  have hp : (((List.range (cellsN b.length)).map (cellAt gen n b) ++ rest).getD 0 Cl.zero).parts = cellsN b.length := by rw [hg 0 (by omega)]; rfl
  unfold record
  rw [hp, if_neg (by rw [List.length_append, List.length_map, List.length_range]; omega), if_pos, bodyOf_laid]
  unfold recOk
  rw [List.all_eq_true]
  intro i hi
  rw [List.mem_range] at hi
  rw [hg i hi]
  simp [cellAt]
/-- Bodies that were laid are the records there, up to the first cell of another generation. -/
theorem records_laid (gen : Nat) : ∀ (bs : List (List UInt8)) (n : Nat) (rest : List Cl) (f : Nat), (cellsB gen n bs ++ rest).length ≤ f → (∀ c ∈ rest, c.gen ≠ gen ∨ c.parts = 0) → recordsF f (cellsB gen n bs ++ rest) gen n = bs
  | [], n, rest, f, hf, hr => by
    cases f with
    | zero => rfl
    | succ f =>
      unfold recordsF
      rw [if_pos]
      cases rest with
      | nil => left; rfl
      | cons c r =>
        right
        show (record (c :: r) gen n).2 = 0
        unfold record
        have hc : ((c :: r).getD 0 Cl.zero) = c := rfl
        rw [hc]
        split
        · rfl
        · split
          · rename_i h1 h2
            show c.parts = 0
            rcases Nat.eq_zero_or_pos c.parts with h0 | h0
            · exact h0
            · rcases hr c (List.mem_cons_self ..) with h3 | h3
              · exfalso
                unfold recOk at h2
                rw [List.all_eq_true] at h2
                have := h2 0 (List.mem_range.2 h0)
                rw [hc] at this
                simp only [Bool.and_eq_true, decide_eq_true_eq] at this
                exact h3 this.1.1.1
              · exact h3
          · rfl
  | b :: r, n, rest, f, hf, hr => by
    have e : cellsB gen n (b :: r) ++ rest = (List.range (cellsN b.length)).map (cellAt gen n b) ++ (cellsB gen (n + 1) r ++ rest) := by
      show ((List.range (cellsN b.length)).map (cellAt gen n b) ++ cellsB gen (n + 1) r) ++ rest = _
      rw [List.append_assoc]
    rw [e] at hf ⊢
    have h1 : 1 ≤ cellsN b.length := by unfold cellsN; omega
    cases f with
    | zero => simp at hf; omega
    | succ f =>
      unfold recordsF
      have hne : ¬ (((List.range (cellsN b.length)).map (cellAt gen n b) ++ (cellsB gen (n + 1) r ++ rest)).length = 0 ∨ ((b, cellsN b.length) : List UInt8 × Nat).2 = 0) := by
        rintro (h | h)
        · rw [List.length_append, List.length_map, List.length_range] at h; omega
        · have h' : cellsN b.length = 0 := h
          omega
      rw [record_laid, if_neg hne]
      simp only
      rw [List.drop_left' (by simp), records_laid gen r (n + 1) rest f (by simp at hf ⊢; omega) hr]
end Go.Proofs.YtnioagojiipjlaaGreat.Mt

/-
  A journal laid on a disk with power and room, opened again. Nothing of the program stands here.
-/
namespace Go.Proofs.YtnioagojiipjlaaGreat.Mt

theorem greatest_ge (l : List Cl) (a b : Nat) : a ≤ greatest l a b ∧ b ≤ greatest l a b ∧ ∀ c ∈ l, c.gen ≤ greatest l a b := by
  unfold greatest
  have : ∀ (l : List Cl) (m : Nat), m ≤ l.foldl (fun m c => max m c.gen) m ∧ ∀ c ∈ l, c.gen ≤ l.foldl (fun m c => max m c.gen) m := by
    intro l
    induction l with
    | nil => intro m; exact ⟨Nat.le_refl _, fun c hc => by cases hc⟩
    | cons x r ih =>
      intro m
      obtain ⟨h1, h2⟩ := ih (max m x.gen)
      simp only [List.foldl_cons]
      refine ⟨by omega, fun c hc => ?_⟩
      rw [List.mem_cons] at hc
      rcases hc with rfl | hc
      · omega
      · exact h2 c hc
  have h := this l (max a b)
  exact ⟨by have := h.1; omega, by have := h.1; omega, h.2⟩
theorem greatest_le (l : List Cl) (a b M : Nat) (ha : a ≤ M) (hb : b ≤ M) (hl : ∀ c ∈ l, c.gen ≤ M) : greatest l a b ≤ M := by
  unfold greatest
  have : ∀ (l : List Cl) (m : Nat), m ≤ M → (∀ c ∈ l, c.gen ≤ M) → l.foldl (fun m c => max m c.gen) m ≤ M := by
    intro l
    induction l with
    | nil => intro m hm _; exact hm
    | cons x r ih =>
      intro m hm h
      have := h x (List.mem_cons_self ..)
      exact ih _ (by show max m x.gen ≤ M; omega) (fun c hc => h c (List.mem_cons_of_mem _ hc))
  exact this l _ (by omega) hl

/-- All heads and cells of a disk are of generations up to one. -/
def UpTo (d : Dk) (g : Nat) : Prop := (rdHead (d.sec 0)).1 ≤ g ∧ (rdHead (d.sec 1)).1 ≤ g ∧ ∀ i, 2 ≤ i → i < 2 + 2 * hsize d.lasts.length → (rdCell (d.sec i)).gen ≤ g
theorem upTo_find (d : Dk) : UpTo d (findJ d).1.gen := by
  have hg : (findJ d).1.gen = greatest (d.cellsFrom 2 (2 * hsize d.lasts.length)) (rdHead (d.sec 0)).1 (rdHead (d.sec 1)).1 := by
    unfold findJ
    simp only
    split
    · rfl
    · split <;> rfl
  have h := greatest_ge (d.cellsFrom 2 (2 * hsize d.lasts.length)) (rdHead (d.sec 0)).1 (rdHead (d.sec 1)).1
  rw [hg]
  refine ⟨h.1, h.2.1, fun i h2 hi => h.2.2 _ ?_⟩
  unfold Dk.cellsFrom
  rw [List.mem_map]
  exact ⟨i - 2, List.mem_range.2 (by omega), by rw [show 2 + (i - 2) = i by omega]⟩

theorem mem_cellsB (gen : Nat) : ∀ (n : Nat) (bs : List (List UInt8)) (c : Cl), c ∈ cellsB gen n bs → ∃ b ∈ bs, ∃ m i, m < n + bs.length ∧ i < cellsN b.length ∧ c = cellAt gen m b i
  | _, [], c, h => by cases h
  | n, b :: r, c, h => by
    unfold cellsB at h
    rw [List.mem_append, List.mem_map] at h
    rcases h with ⟨i, hi, rfl⟩ | h
    · exact ⟨b, List.mem_cons_self .., n, i, by simp, List.mem_range.1 hi, rfl⟩
    · obtain ⟨b', hb, m, i, h1, h2, h3⟩ := mem_cellsB gen (n + 1) r c h
      exact ⟨b', List.mem_cons_of_mem _ hb, m, i, by simp; omega, h2, h3⟩

theorem lay_calm {d : Dk} (hc : d.Calm) (h4 : 4 ≤ d.lasts.length) {j : Jn} (hh : j.half ≤ 1) (hk : j.head ≤ 1) {bs : List (List UInt8)} (hb : ∀ b ∈ bs, b.length ≤ 1048576) :
    ((layJ d j bs).2.2 = 0 ↔ j.gen + 1 ≤ 4294967295 ∧ needs bs ≤ hsize d.lasts.length) ∧ ((layJ d j bs).2.2 ≠ 0 → (layJ d j bs).2.2 = 11) ∧
    ((layJ d j bs).2.2 = 0 → (layJ d j bs).1.Calm ∧ (layJ d j bs).1.lasts.length = d.lasts.length ∧ (layJ d j bs).2.1 = ⟨j.gen + 1, 1 - j.half, 1 - j.head, bs.length, needs bs, false⟩ ∧
      ∀ i, i < d.lasts.length → (layJ d j bs).1.sec i = if i = 1 - j.head then hdSector (j.gen + 1) (1 - j.half) else if 2 + (1 - j.half) * hsize d.lasts.length ≤ i ∧ i < 2 + (1 - j.half) * hsize d.lasts.length + needs bs then ((cellsB (j.gen + 1) 0 bs).getD (i - (2 + (1 - j.half) * hsize d.lasts.length)) Cl.zero).sector else d.sec i) := by
  obtain ⟨z, hz⟩ : ∃ z, hsize d.lasts.length = z := ⟨_, rfl⟩
  have hz2 : 2 + 2 * z ≤ d.lasts.length := by rw [← hz]; unfold hsize; omega
  have hH : (1 - j.half) * z + z ≤ 2 * z := by
    have : 1 - j.half = 0 ∨ 1 - j.half = 1 := by omega
    rcases this with e | e <;> rw [e] <;> omega
  have hleft : j.next.left d = z := by
    show min (2 + (1 - j.half) * hsize d.lasts.length + hsize d.lasts.length) d.room - (2 + (1 - j.half) * hsize d.lasts.length) - 0 = z
    rw [hz, hc.room]
    omega
  have hroom : 2 ≤ d.room := by rw [hc.room]; omega
  have hholds : j.next.holds d bs = decide (needs bs ≤ z) := by
    unfold Jn.holds
    rw [hleft, decide_eq_true hroom]; rfl
  rw [hz]
  by_cases hcond : j.gen + 1 ≤ 4294967295 ∧ needs bs ≤ z
  · have hcc : j.next.gen ≤ 4294967295 ∧ j.next.holds d bs = true := ⟨hcond.1, by rw [hholds]; exact decide_eq_true hcond.2⟩
    have hput := Dk.Calm.putsJ bs d j.next hc (by
      show 2 + (1 - j.half) * hsize d.lasts.length + 0 + needs bs ≤ _
      rw [hz]; omega)
    have hkeep := putsJ_keeps bs d j.next
    have hpk := putsJ_ok bs d j.next hput.1
    have hlen := hkeep.2.2.2.2
    have hfl := hput.2.1.flush
    have hhl : (1 - j.head : Nat) < (putsJ d j.next bs).1.flush.1.lasts.length := by rw [hfl.2.2.1, hlen]; omega
    have hwr := hfl.2.1.write (a := 1 - j.head) (s := hdSector (j.gen + 1) (1 - j.half)) hhl (hdSector_length _ _)
    have hfl2 := hwr.2.1.flush
    have hjh : (putsJ d j.next bs).2.1.head = 1 - j.head := hkeep.2.2.1
    have hjg : (putsJ d j.next bs).2.1.gen = j.gen + 1 := hkeep.1
    have hjf : (putsJ d j.next bs).2.1.half = 1 - j.half := hkeep.2.1
    have hend : endJ (putsJ d j.next bs).1 (putsJ d j.next bs).2.1 = (((putsJ d j.next bs).1.flush.1.write ((1 - j.head : Nat) : Int) (hdSector (j.gen + 1) (1 - j.half))).1.flush) := by
      unfold endJ
      rw [if_pos hfl.1, hjh, hjg, hjf, if_pos hwr.1]
    have hfill : fillJ d j.next bs = ((endJ (putsJ d j.next bs).1 (putsJ d j.next bs).2.1).1, (putsJ d j.next bs).2.1, (endJ (putsJ d j.next bs).1 (putsJ d j.next bs).2.1).2) := by
      unfold fillJ
      rw [if_pos hput.1]
    have hlay : layJ d j bs = ((endJ (putsJ d j.next bs).1 (putsJ d j.next bs).2.1).1, (putsJ d j.next bs).2.1, 0) := by
      unfold layJ
      rw [if_pos hcc, hfill, hend]
      simp only
      rw [hfl2.1]
      rfl
    have hjn : (putsJ d j.next bs).2.1 = ⟨j.gen + 1, 1 - j.half, 1 - j.head, bs.length, needs bs, false⟩ := by
      have e1 := hpk.1
      have e2 := hpk.2
      have e3 := hkeep.2.2.2.1
      have e1' : (putsJ d j.next bs).2.1.count = bs.length := by rw [e1]; show 0 + _ = _; omega
      have e2' : (putsJ d j.next bs).2.1.used = needs bs := by rw [e2]; show 0 + _ = _; omega
      have e3' : (putsJ d j.next bs).2.1.closed = false := e3
      generalize (putsJ d j.next bs).2.1 = q at *
      obtain ⟨a, b, c, e, f, g⟩ := q
      simp only at *
      subst hjh hjg hjf e1' e2' e3'
      rfl
    rw [hlay, hend]
    refine ⟨⟨fun _ => hcond, fun _ => rfl⟩, fun h => absurd rfl h, fun _ => ⟨hfl2.2.1, by show _ = _; rw [hfl2.2.2.1, hwr.2.2.1, hfl.2.2.1, hlen], hjn, fun i hi => ?_⟩⟩
    show ((putsJ d j.next bs).1.flush.1.write ((1 - j.head : Nat) : Int) (hdSector (j.gen + 1) (1 - j.half))).1.flush.1.sec i = _
    rw [hfl2.2.2.2.1 i (by rw [hwr.2.2.1, hfl.2.2.1, hlen]; exact hi), hwr.2.2.2 i (by rw [hfl.2.2.1, hlen]; exact hi)]
    by_cases e : i = 1 - j.head
    · rw [if_pos e, if_pos e]
    · rw [if_neg e, if_neg e, hfl.2.2.2.1 i (by rw [hlen]; exact hi), hput.2.2 i hi]
      show (if 2 + (1 - j.half) * hsize d.lasts.length + 0 ≤ i ∧ i < 2 + (1 - j.half) * hsize d.lasts.length + 0 + needs bs then ((cellsB (j.gen + 1) 0 bs).getD (i - (2 + (1 - j.half) * hsize d.lasts.length + 0)) Cl.zero).sector else d.sec i) = _
      rw [hz, Nat.add_zero]
  · have hlay : layJ d j bs = (d, j, 11) := by
      unfold layJ
      rw [if_neg]
      rintro ⟨h1, h2⟩
      rw [hholds, decide_eq_true_eq] at h2
      exact hcond ⟨h1, h2⟩
    rw [hlay]
    exact ⟨⟨fun h => absurd h (show ¬ ((11 : Int) = 0) by decide), fun h => absurd h hcond⟩, fun _ => rfl, fun h => absurd h (show ¬ ((11 : Int) = 0) by decide)⟩
/-- What was laid is found. -/
theorem find_laid {d : Dk} (hc : d.Calm) (h4 : 4 ≤ d.lasts.length) {j : Jn} (hh : j.half ≤ 1) (hk : j.head ≤ 1) {bs : List (List UInt8)} (hb : ∀ b ∈ bs, b.length ≤ 1048576) (hn : bs.length ≤ 8192) (hU : UpTo d j.gen) (h0 : (layJ d j bs).2.2 = 0) :
    findJ (layJ d j bs).1 = (⟨j.gen + 1, 1 - j.half, 1 - j.head, 0, 0, false⟩, bs) := by
  obtain ⟨hiff, -, hres⟩ := lay_calm hc h4 hh hk hb
  obtain ⟨hg, hnz⟩ := hiff.1 h0
  obtain ⟨-, hlen, -, hsec⟩ := hres h0
  obtain ⟨z, hz⟩ : ∃ z, hsize d.lasts.length = z := ⟨_, rfl⟩
  have hz2 : 2 + 2 * z ≤ d.lasts.length := by rw [← hz]; unfold hsize; omega
  obtain ⟨H, hHe⟩ : ∃ H, 1 - j.half = H := ⟨_, rfl⟩
  obtain ⟨K, hKe⟩ : ∃ K, 1 - j.head = K := ⟨_, rfl⟩
  obtain ⟨G, hGe⟩ : ∃ G, j.gen + 1 = G := ⟨_, rfl⟩
  have hH1 : H ≤ 1 := by omega
  have hK1 : K ≤ 1 := by omega
  have hHz : H * z + z ≤ 2 * z := by
    have : H = 0 ∨ H = 1 := by omega
    rcases this with e | e <;> rw [e] <;> omega
  unfold UpTo at hU
  rw [hz] at hU hsec hnz
  rw [hHe, hKe, hGe] at hsec
  generalize (layJ d j bs).1 = e at *
  have hsecK : rdHead (e.sec K) = (G, H) := by
    rw [hsec K (by omega), if_pos rfl]
    exact rdHead_sector (by omega) (by omega) hH1
  have hsecO : ∀ i, i ≤ 1 → i ≠ K → (rdHead (e.sec i)).1 < G := fun i hi hne => by
    rw [hsec i (by omega), if_neg hne, if_neg (by omega)]
    have : i = 0 ∨ i = 1 := by omega
    rcases this with rfl | rfl
    · have := hU.1; omega
    · have := hU.2.1; omega
  -- the cells of the new half
  have hcell : ∀ i, i < z → rdCell (e.sec (2 + H * z + i)) = if i < needs bs then (cellsB G 0 bs).getD i Cl.zero else rdCell (d.sec (2 + H * z + i)) := fun i hi => by
    rw [hsec (2 + H * z + i) (by omega), if_neg (by omega)]
    by_cases hin : i < needs bs
    · rw [if_pos (by omega), if_pos hin, show 2 + H * z + i - (2 + H * z) = i by omega]
      have hl : i < (cellsB G 0 bs).length := by rw [cellsB_length]; exact hin
      have hgd : (cellsB G 0 bs).getD i Cl.zero = (cellsB G 0 bs)[i] := by rw [List.getD_eq_getElem?_getD, List.getElem?_eq_getElem hl]; rfl
      rw [hgd]
      obtain ⟨b, hbm, m, k, hm, hk2, he⟩ := mem_cellsB G 0 bs _ (List.getElem_mem hl)
      rw [he]
      exact rdCell_sector (cellAt_fits G m b k (by omega) (by omega) (hb b hbm) hk2) (cellAt_sound G m b k (by omega) hk2)
    · rw [if_neg (by omega), if_neg hin]
  have hold : ∀ i, 2 ≤ i → i < 2 + 2 * z → (rdCell (e.sec i)).gen ≤ G := fun i h2 hi => by
    by_cases hin : 2 + H * z ≤ i ∧ i < 2 + H * z + z
    · have := hcell (i - (2 + H * z)) (by omega)
      rw [show 2 + H * z + (i - (2 + H * z)) = i by omega] at this
      rw [this]
      split
      · rename_i hx
        have hl : i - (2 + H * z) < (cellsB G 0 bs).length := by rw [cellsB_length]; exact hx
        rw [List.getD_eq_getElem?_getD, List.getElem?_eq_getElem hl, Option.getD_some]
        obtain ⟨b, hbm, m, k, hm, hk2, he⟩ := mem_cellsB G 0 bs _ (List.getElem_mem hl)
        rw [he]
        exact Nat.le_refl _
      · have := hU.2.2 i h2 hi
        omega
    · rw [hsec i (by omega), if_neg (by omega), if_neg (by omega)]
      have := hU.2.2 i h2 hi
      omega
  have hrow : e.cellsFrom (2 + H * z) z = cellsB G 0 bs ++ (d.cellsFrom (2 + H * z) z).drop (needs bs) := by
    apply List.ext_getElem
    · rw [List.length_append, cellsB_length, List.length_drop]
      simp only [Dk.cellsFrom, List.length_map, List.length_range]
      omega
    · intro i h1 h2
      have hi : i < z := by simpa [Dk.cellsFrom] using h1
      have hce := hcell i hi
      have hL : (e.cellsFrom (2 + H * z) z)[i] = rdCell (e.sec (2 + H * z + i)) := by simp [Dk.cellsFrom]
      rw [hL, hce]
      by_cases hin : i < needs bs
      · rw [if_pos hin, List.getElem_append_left (by rw [cellsB_length]; exact hin), List.getD_eq_getElem?_getD, List.getElem?_eq_getElem (by rw [cellsB_length]; exact hin), Option.getD_some]
      · rw [if_neg hin, List.getElem_append_right (by rw [cellsB_length]; omega), List.getElem_drop]
        simp only [Dk.cellsFrom, List.getElem_map, List.getElem_range, cellsB_length]
        congr 2
        omega
  have hrecs : records (e.cellsFrom (2 + H * z) z) G = bs := by
    unfold records
    rw [hrow]
    refine records_laid G bs 0 _ _ (Nat.le_refl _) (fun c hcm => .inl ?_)
    have hcm2 := List.mem_of_mem_drop hcm
    unfold Dk.cellsFrom at hcm2
    rw [List.mem_map] at hcm2
    obtain ⟨i, hi, rfl⟩ := hcm2
    rw [List.mem_range] at hi
    have := hU.2.2 (2 + H * z + i) (by omega) (by omega)
    omega
  have hlz : hsize e.lasts.length = z := by rw [hlen]; exact hz
  have hgr : greatest (e.cellsFrom 2 (2 * z)) (rdHead (e.sec 0)).1 (rdHead (e.sec 1)).1 = G := by
    have hle : greatest (e.cellsFrom 2 (2 * z)) (rdHead (e.sec 0)).1 (rdHead (e.sec 1)).1 ≤ G := by
      refine greatest_le _ _ _ _ ?_ ?_ (fun c hcm => ?_)
      · by_cases h : (0 : Nat) = K
        · rw [h, hsecK]; exact Nat.le_refl _
        · exact Nat.le_of_lt (hsecO 0 (by omega) h)
      · by_cases h : (1 : Nat) = K
        · rw [h, hsecK]; exact Nat.le_refl _
        · exact Nat.le_of_lt (hsecO 1 (by omega) h)
      · unfold Dk.cellsFrom at hcm
        rw [List.mem_map] at hcm
        obtain ⟨i, hi, rfl⟩ := hcm
        rw [List.mem_range] at hi
        exact hold (2 + i) (by omega) (by omega)
    have hge := greatest_ge (e.cellsFrom 2 (2 * z)) (rdHead (e.sec 0)).1 (rdHead (e.sec 1)).1
    have : K = 0 ∨ K = 1 := by omega
    rcases this with h | h
    · have h1 := hge.1
      rw [h] at hsecK
      rw [hsecK] at h1 hle ⊢
      simp only at h1 hle ⊢
      omega
    · have h1 := hge.2.1
      rw [h] at hsecK
      rw [hsecK] at h1 hle ⊢
      simp only at h1 hle ⊢
      omega
  unfold findJ
  simp only
  rw [hlz, hgr]
  have : K = 0 ∨ K = 1 := by omega
  rcases this with h | h
  · rw [h] at hsecK
    have h1 := hsecO 1 (by omega) (by omega)
    rw [hsecK]
    simp only
    rw [if_pos ⟨by omega, by omega⟩, hrecs, hGe, hHe, hKe, h]
  · rw [h] at hsecK
    have h1 := hsecO 0 (by omega) (by omega)
    rw [hsecK]
    simp only
    rw [if_neg (by omega), if_neg (by omega), hrecs, hGe, hHe, hKe, h]
end Go.Proofs.YtnioagojiipjlaaGreat.Mt

/-
  The records of a half need no more sectors than it has; a disk opened twice. Nothing of the program stands here.
-/
namespace Go.Proofs.YtnioagojiipjlaaGreat.Mt

/-- What a sector may read as. -/
def GoodC (c : Cl) : Prop := c.parts = 0 ∨ (c.sound = true ∧ c.body.length ≤ 110)
theorem rdCell_good (s : List UInt8) : GoodC (rdCell s) := by
  unfold rdCell
  split
  · rename_i h
    refine .inr ⟨h.2.2.2.1, ?_⟩
    show ((s.drop 18).take (gn s 17 1)).length ≤ 110
    rw [List.length_take]
    have := h.2.2.1
    omega
  · exact .inl rfl
theorem cellsFrom_good (d : Dk) (a n : Nat) : ∀ c ∈ d.cellsFrom a n, GoodC c := by
  intro c hc
  unfold Dk.cellsFrom at hc
  rw [List.mem_map] at hc
  obtain ⟨i, _, rfl⟩ := hc
  exact rdCell_good _
theorem sound_len {c : Cl} (h : c.sound = true) : c.part < c.parts ∧ (c.part + 1 < c.parts → c.body.length = 110) ∧ (¬ c.part + 1 < c.parts → 0 < c.body.length ∨ c.parts = 1) := by
  unfold Cl.sound at h
  split at h
  · cases h
  · rename_i h1
    split at h
    · rename_i h2
      rw [decide_eq_true_eq] at h
      exact ⟨by omega, fun _ => h, fun h3 => absurd h2 h3⟩
    · rename_i h2
      rw [Bool.or_eq_true, decide_eq_true_eq, decide_eq_true_eq] at h
      exact ⟨by omega, fun h3 => absurd h3 h2, fun _ => h⟩
theorem record_cells {l : List Cl} (hg : ∀ c ∈ l, GoodC c) {gen k : Nat} (h : (record l gen k).2 ≠ 0) : cellsN (record l gen k).1.length = (record l gen k).2 := by
  unfold record at h ⊢
  split at h
  · exact absurd rfl h
  · rename_i h1
    split at h
    · rename_i h2
      rw [if_neg h1, if_pos h2]
      simp only at h ⊢
      obtain ⟨P, hP⟩ : ∃ P, (l.getD 0 Cl.zero).parts = P := ⟨_, rfl⟩
      rw [hP] at h h1 h2 ⊢
      have hfit : ∀ i, i < P → ∃ hi : i < l.length, l[i].parts = P ∧ l[i].part = i ∧ l[i].sound = true ∧ l[i].body.length ≤ 110 := fun i hi => by
        have hil : i < l.length := by omega
        unfold recOk at h2
        rw [List.all_eq_true] at h2
        have h3 := h2 i (List.mem_range.2 hi)
        simp only [List.getD_eq_getElem?_getD, List.getElem?_eq_getElem hil, Option.getD_some, Bool.and_eq_true, decide_eq_true_eq] at h3
        refine ⟨hil, h3.1.2, h3.2, ?_⟩
        rcases hg _ (List.getElem_mem hil) with h4 | h4
        · omega
        · exact h4
      have hlen : ∀ m, m < P → (bodyOf l m).length = 110 * m := by
        intro m
        induction m with
        | zero => intro _; simp [bodyOf]
        | succ m ih =>
          intro hm
          obtain ⟨hi, e1, e2, e3, e4⟩ := hfit m (by omega)
          have hs := (sound_len e3).2.1 (by omega)
          rw [bodyOf_snoc l m hi, List.length_append, ih (by omega), hs]
          omega
      obtain ⟨q, rfl⟩ : ∃ q, P = q + 1 := ⟨P - 1, by omega⟩
      obtain ⟨hi, e1, e2, e3, e4⟩ := hfit q (by omega)
      have hs := (sound_len e3).2.2 (by omega)
      have hq := hlen q (by omega)
      rw [bodyOf_snoc l q hi, List.length_append, hq]
      unfold cellsN
      rcases hs with hs | hs <;> omega
    · exact absurd rfl h
theorem recordsF_needs : ∀ (f : Nat) (l : List Cl) (gen k : Nat), (∀ c ∈ l, GoodC c) → needs (recordsF f l gen k) ≤ l.length
  | 0, _, _, _, _ => Nat.zero_le _
  | f + 1, l, gen, k, h => by
    unfold recordsF
    split
    · exact Nat.zero_le _
    · rename_i hx
      have hne : (record l gen k).2 ≠ 0 := fun e => hx (.inr e)
      have ih := recordsF_needs f (l.drop (record l gen k).2) gen (k + 1) (fun c hc => h c (List.mem_of_mem_drop hc))
      rw [List.length_drop] at ih
      have hc := record_cells h hne
      have hle := record_le (l := l) (gen := gen) (k := k)
      show cellsN (record l gen k).1.length + needs _ ≤ _
      rw [hc]
      omega
theorem find_needs (d : Dk) : needs (findJ d).2 ≤ hsize d.lasts.length := by
  have H : ∀ a gen, needs (records (d.cellsFrom a (hsize d.lasts.length)) gen) ≤ hsize d.lasts.length := fun a gen => by
    have := recordsF_needs (d.cellsFrom a (hsize d.lasts.length)).length (d.cellsFrom a (hsize d.lasts.length)) gen 0 (cellsFrom_good d a _)
    have hl : (d.cellsFrom a (hsize d.lasts.length)).length = hsize d.lasts.length := by simp [Dk.cellsFrom]
    unfold records
    omega
  unfold findJ
  simp only
  split
  · exact H _ _
  · split
    · exact Nat.zero_le _
    · exact H _ _
/-- Opened, and opened again. -/
theorem twice {d : Dk} (hc : d.Calm) (h4 : 4 ≤ d.lasts.length) :
    ((openJ d).2.2 = 0 ∨ (openJ d).2.2 = 11) ∧ ((openJ d).2.2 = 0 → (openJ d).1.Calm ∧ (openJ d).1.lasts.length = d.lasts.length ∧ (openJ d).2.1.count = (findJ d).2.length ∧ (findJ (openJ d).1).2 = (findJ d).2 ∧
      (((openJ (openJ d).1).2.2 = 0 ∧ (openJ (openJ d).1).2.1.gen = (openJ d).2.1.gen + 1) ∨ ((openJ (openJ d).1).2.2 = 11 ∧ (openJ d).2.1.gen = 4294967295))) := by
  have hok := findJ_ok d
  have hrc := findJ_recs d hc.ok.most
  obtain ⟨hiff, hbad, hres⟩ := lay_calm hc h4 hok.1 hok.2.1 hrc.1
  have hnd := find_needs d
  refine ⟨?_, fun h0 => ?_⟩
  · by_cases h : (layJ d (findJ d).1 (findJ d).2).2.2 = 0
    · exact .inl h
    · exact .inr (hbad h)
  · have h0' : (layJ d (findJ d).1 (findJ d).2).2.2 = 0 := h0
    obtain ⟨hc1, hl1, hj1, -⟩ := hres h0'
    have hf1 := find_laid hc h4 hok.1 hok.2.1 hrc.1 hrc.2 (upTo_find d) h0'
    have hgm := (hiff.1 h0').1
    have hO1 : (openJ d).1 = (layJ d (findJ d).1 (findJ d).2).1 := rfl
    have hO2 : (openJ d).2.1 = (layJ d (findJ d).1 (findJ d).2).2.1 := rfl
    rw [hO1, hO2, hj1]
    refine ⟨hc1, hl1, rfl, by rw [hf1], ?_⟩
    generalize (layJ d (findJ d).1 (findJ d).2).1 = e at *
    obtain ⟨hiff2, hbad2, hres2⟩ := lay_calm hc1 (by omega) (j := ⟨(findJ d).1.gen + 1, 1 - (findJ d).1.half, 1 - (findJ d).1.head, 0, 0, false⟩) (by show 1 - (findJ d).1.half ≤ 1; omega) (by show 1 - (findJ d).1.head ≤ 1; omega) hrc.1
    have hO : openJ e = layJ e ⟨(findJ d).1.gen + 1, 1 - (findJ d).1.half, 1 - (findJ d).1.head, 0, 0, false⟩ (findJ d).2 := by unfold openJ; rw [hf1]
    rw [hO]
    by_cases h2 : (findJ d).1.gen + 1 + 1 ≤ 4294967295
    · left
      have h3 := hiff2.2 ⟨h2, by rw [hl1]; exact hnd⟩
      exact ⟨h3, by rw [(hres2 h3).2.2.1]⟩
    · right
      have h3 : ¬ (layJ e ⟨(findJ d).1.gen + 1, 1 - (findJ d).1.half, 1 - (findJ d).1.head, 0, 0, false⟩ (findJ d).2).2.2 = 0 := fun h => h2 (hiff2.1 h).1
      exact ⟨hbad2 h3, by show (findJ d).1.gen + 1 = 4294967295; omega⟩
/-- A new disk on which anything lay is calm. -/
theorem calmT_new (n : Nat) (h : n ≤ 8192) : (Dk.new n).Calm := ⟨Dk.ok_new n h, rfl, rfl, by simp [Dk.new]⟩
theorem calmT_lay {d : Dk} (h : d.Calm) (s : List UInt8) : (d.lay s).Calm := ⟨h.ok.lay s, h.off, h.cut, by show d.room = (layL d.lasts.length s).length; rw [layL_length]; exact h.room⟩
theorem lay_len (d : Dk) (s : List UInt8) : (d.lay s).lasts.length = d.lasts.length := layL_length _ _
end Go.Proofs.YtnioagojiipjlaaGreat.Mt
