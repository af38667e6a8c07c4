/-
  Some texts of one proof, one behind the other.
-/
import Derived.Test.YtnioagojiipjlaaGreatPk41
import Derived.Test.YtnioagojiipjlaaGreatPk49
set_option linter.unusedVariables false
set_option linter.unusedSimpArgs false

/-
  Torn sectors are whole sectors; none is forgotten.
-/
namespace Go.Proofs.YtnioagojiipjlaaGreat.Mt

def Dk.Torn128 (d : Dk) : Prop := ∀ x ∈ d.tears, x.2.2.length = 128
theorem tearK_128 (keep : Nat) (torn at' : Int) (W : List (Option (List UInt8))) (hW : ∀ (i : Nat) b, W[i]? = some (some b) → b.length = 128) : ∀ (r : List Nat) (c : Nat) (L : List (List UInt8)), (∀ i ∈ r, i < L.length ∧ ∃ b, W[i]? = some (some b)) → (∀ i (h : i < L.length), (L[i]).length = 128) → ∀ x ∈ tearK keep torn at' W c r L, x.2.2.length = 128
  | [], _, _, _, _, x, hx => by cases hx
  | j :: r, c, L, hr, hL, x, hx => by
    obtain ⟨hj, b, hb⟩ := hr j (List.mem_cons_self ..)
    have e1 : L.getD j [] = L[j] := by simp [List.getD, List.getElem?_eq_getElem hj]
    have e2 : (W.getD j none).getD [] = b := by simp [List.getD, hb]
    have hp : (pick keep torn at' c (L.getD j []) ((W.getD j none).getD [])).length = 128 := by
      rw [e1, e2]; exact pick_length _ _ _ _ _ _ (hL j hj) (hW j b hb)
    rw [tearK, List.mem_append] at hx
    rcases hx with hx | hx
    · split at hx
      · rw [List.mem_singleton] at hx; rw [hx]; exact hp
      · cases hx
    · refine tearK_128 keep torn at' W hW r (c + 1) _ (fun i hi => ?_) (fun i hi => ?_) x hx
      · rw [List.length_set]; exact hr i (List.mem_cons_of_mem _ hi)
      · rw [List.getElem_set]
        split
        · exact hp
        · exact hL i (by rw [List.length_set] at hi; exact hi)
/-- A disk in form; what waits; torn sectors. -/
structure Full (d : Dk) : Prop where
  c : Calm2 d
  t : d.Torn128
/-- What every call keeps. -/
structure Kept (d d' : Dk) : Prop where
  full : Full d → Full d'
  tears : ∀ x ∈ d.tears, x ∈ d'.tears
theorem Kept.refl (d : Dk) : Kept d d := ⟨id, fun _ h => h⟩
theorem Kept.trans {a b c : Dk} (h : Kept a b) (k : Kept b c) : Kept a c := ⟨fun x => k.full (h.full x), fun x hx => k.tears x (h.tears x hx)⟩
theorem torn_lose {d : Dk} (h : d.Ok) (ht : d.Torn128) (keep : Nat) (torn at' : Int) : (d.lose keep torn at').Torn128 := fun x hx => by
  rcases List.mem_append.1 hx with hx | hx
  · exact ht x hx
  · exact tearK_128 keep torn at' d.waits h.waits _ _ _ h.keys h.lasts x hx
theorem torn_count {d : Dk} (h : d.Ok) (ht : d.Torn128) : d.count.1.Torn128 ∧ ∀ x ∈ d.tears, x ∈ d.count.1.tears := by
  unfold Dk.count
  split
  · exact ⟨ht, fun _ h => h⟩
  · split
    · exact ⟨torn_lose (d := { d with cut := 0 }) (h.setCut 0 (by omega)) ht _ _ _, fun x hx => List.mem_append_left _ hx⟩
    · exact ⟨ht, fun _ h => h⟩
theorem mono_count (d : Dk) : ∀ x ∈ d.tears, x ∈ d.count.1.tears := by
  unfold Dk.count
  split
  · exact fun _ h => h
  · split
    · exact fun x hx => List.mem_append_left _ hx
    · exact fun _ h => h
theorem kept_write (d : Dk) (i : Int) (s : List UInt8) : Kept d (d.write i s).1 := by
  refine ⟨fun h => ⟨h.c.write i s, ?_⟩, ?_⟩
  · unfold Dk.write
    split
    · split
      · split
        · exact (torn_count (h.c.ok.wait _ _ (by assumption)) h.t).1
        · exact h.t
      · exact h.t
    · exact h.t
  · unfold Dk.write
    split
    · split
      · split
        · exact fun x hx => mono_count _ x hx
        · exact fun _ h => h
      · exact fun _ h => h
    · exact fun _ h => h
theorem kept_flush (d : Dk) : Kept d d.flush.1 := by
  refine ⟨fun h => ⟨h.c.flush, ?_⟩, ?_⟩
  · unfold Dk.flush
    split
    · exact h.t
    · split
      · exact (torn_count h.c.ok h.t).1
      · exact (torn_count h.c.ok h.t).1
  · unfold Dk.flush
    split
    · exact fun _ h => h
    · split
      · exact mono_count d
      · exact mono_count d
theorem kept_wrS : ∀ (l : List (List UInt8)) (d : Dk) (a : Nat), Kept d (wrS d a l).1
  | [], d, _ => Kept.refl d
  | s :: r, d, a => by
    rw [Mt.wrS]
    split
    · exact (kept_write d _ _).trans (kept_wrS r _ _)
    · exact kept_write d _ _
theorem kept_wrF (d : Dk) (a : Nat) (l : List (List UInt8)) : Kept d (wrF d a l).1 := by
  unfold Mt.wrF
  split
  · exact (kept_wrS l d a).trans (kept_flush _)
  · exact kept_wrS l d a
theorem kept_lay (d : Dk) (j : Jn) (bs : List (List UInt8)) : Kept d (layJ d j bs).1 := by
  have h1 : Kept d (lay1 d j bs).1 := kept_wrF _ _ _
  have h2 : Kept d (lay2 d j bs).1 := h1.trans (kept_wrF _ _ _)
  rcases layJ_ways d j bs with e | ⟨_, e | e | e⟩
  · rw [e]; exact Kept.refl d
  · rw [e]; exact h1
  · rw [e]; exact h2
  · rw [e]; exact h2
theorem kept_reset (d : Dk) (j : Jn) (bs : List (List UInt8)) : Kept d (resetJ d j bs).1 := by
  unfold resetJ
  split
  · exact kept_lay d j bs
  · exact Kept.refl d
theorem kept_append (d : Dk) (j : Jn) (b : List UInt8) : Kept d (appendJ d j b).1 := by
  by_cases ha : askJ j [b] = 0
  · by_cases hl : cellsN b.length ≤ j.left d
    · by_cases he : (app1 d j b).2 = 0
      · rw [append_good ha hl he]; exact kept_wrF _ _ _
      · rw [append_bad ha hl he]; exact kept_wrF _ _ _
    · have e : appendJ d j b = (d, j, 11) := by unfold appendJ; rw [if_pos ha, if_neg hl]
      rw [e]; exact Kept.refl d
  · have e : appendJ d j b = (d, j, askJ j [b]) := by unfold appendJ; rw [if_neg ha]
    rw [e]; exact Kept.refl d
theorem kept_open (d : Dk) : Kept d (opD d) := by
  unfold opD
  split
  · exact Kept.refl d
  · split
    · exact Kept.refl d
    · exact kept_lay _ _ _
theorem Clear.back {d d' : Dk} (h : Kept d d') (hc : d'.Clear) : d.Clear := fun x hx => hc x (h.tears x hx)

/-! ### what is opened -/
/-- Before an Open: power is on, and the records are these, if nothing was torn that passes for a cell or a head. -/
structure Has (d : Dk) (g : Nat) (X : List (List UInt8) → Prop) : Prop where
  on : On d
  full : Full d
  recs : d.Clear → UpA d g ∧ ∃ a b T, Cur d a b T ∧ X T ∧ Fine T
theorem find_fine {d : Dk} (h : d.Ok) : Fine (findJ d).2 := by
  obtain ⟨h1, h2⟩ := findJ_recs d h.most
  exact ⟨h1, by omega⟩
theorem find_gen {d : Dk} (h : On d) (h4 : 4 ≤ d.lasts.length) {g : Nat} (hu : UpA d g) : (findJ d).1.gen ≤ g ∧ UpA d (findJ d).1.gen := by
  have hz := hsize_two _ h4
  have hg : (findJ d).1.gen = greatest (d.cellsFrom 2 (2 * hsize d.lasts.length)) (rdHead (d.sec 0)).1 (rdHead (d.sec 1)).1 := by
    unfold findJ
    simp only
    split
    · rfl
    · split <;> rfl
  constructor
  · rw [hg]
    refine greatest_le _ _ _ _ ?_ ?_ (fun c hc => ?_)
    · rw [h.sec (by omega)]; exact hu.1
    · rw [h.sec (by omega)]; exact hu.2.1
    · rw [h.cellsFrom (by omega)] at hc
      unfold cellsAt at hc
      rw [List.mem_map] at hc
      obtain ⟨i, hi, rfl⟩ := hc
      exact hu.2.2 _ (by omega) (by have := List.mem_range.1 hi; omega)
  · obtain ⟨u1, u2, u3⟩ := upTo_find d
    refine ⟨?_, ?_, fun i h1 h2 => ?_⟩
    · rw [h.sec (by omega)] at u1; exact u1
    · rw [h.sec (by omega)] at u2; exact u2
    · have := u3 i h1 h2
      rw [h.sec (by omega)] at this; exact this
theorem On.open_eq {d : Dk} (h : On d) (h4 : 4 ≤ d.lasts.length) : opE d = (openJ d).2.2 ∧ opD d = (openJ d).1 := by
  unfold opE opD
  rw [if_neg (by omega), if_neg (by rw [h.off]; decide), if_neg (by omega), if_neg (by rw [h.off]; decide)]
  exact ⟨rfl, rfl⟩
theorem open_way {d : Dk} {g : Nat} {X : List (List UInt8) → Prop} (h : Has d g X) (h4 : 4 ≤ d.lasts.length) (hg : g + 1 ≤ 4294967295) (hcd : d.Clear) :
    (∃ T j, X T ∧ opE d = 0 ∧ opL d = T ∧ opJ d = some j ∧ Rest (opD d) j T ∧ Full (opD d) ∧ j.gen ≤ g + 1 ∧ (opD d).lasts.length = d.lasts.length ∧ (opD d).tears = d.tears ∧ (d.cut = 0 → (opD d).cut = 0)) ∨
    (opE d = 10 ∧ opJ d = none ∧ opL d = [] ∧ d.cut ≠ 0 ∧ (opD d).lasts.length = d.lasts.length ∧ Has (opD d).on (g + 1) X) := by
  have hk := kept_open d
  obtain ⟨hu, a, b, T, hcur, hX, hfT⟩ := h.recs hcd
  obtain ⟨eE, eD⟩ := h.on.open_eq h4
  obtain ⟨f1, f2, f3⟩ := find_of h.on h4 hcur
  obtain ⟨g1, g2⟩ := find_gen h.on h4 hu
  have hw := lay_way h.on h4 (j := (findJ d).1) (T := T) (bs := T) (by rw [f1, f2]; exact hcur) g2 (by omega) hfT (by rw [← f3]; exact find_needs d)
  have eo : openJ d = layJ d (findJ d).1 T := by unfold openJ; rw [f3]
  rw [← eo] at hw
  have hf := hk.full h.full
  rcases hw with ⟨e, hr, hg2, hl, htr, hcut⟩ | ⟨e, hcut, hon, hl, htr, hrec⟩
  · left
    obtain ⟨_, _, e3, e4⟩ := op_good (d := d) (by omega) (by rw [h.on.off]; decide) e
    refine ⟨T, _, hX, by rw [eE]; exact e, by rw [e3, f3], e4, by rw [eD]; exact hr, hf, by rw [hg2]; omega, by rw [eD]; exact hl, by rw [eD]; exact htr, by rw [eD]; exact hcut⟩
  · right
    obtain ⟨_, _, e3, e4⟩ := op_bad (d := d) (by omega) (by rw [h.on.off]; decide) (by rw [e]; decide)
    refine ⟨by rw [eE]; exact e, e4, e3, hcut, by rw [eD]; exact hl, by rw [eD]; exact hon, ?_, fun hc => ?_⟩
    · exact ⟨⟨hf.c.ok.on, fun x => by cases x⟩, hf.t⟩
    · rw [eD] at hc ⊢
      obtain ⟨hu2, p, q, hcc⟩ := hrec hc
      refine ⟨?_, p, q, T, hcc.elim id id, hX, hfT⟩
      exact UpA.mono (d := (openJ d).1.on) hu2 (by omega)

/-! ### a new disk; a cut that is asked for; a crash of what waits for nothing -/
theorem blank_hd : rdHead blank = (0, 0) := rdHead_mark (by rw [mark_blank]; decide)
theorem blank_cl : rdCell blank = Cl.zero := rdCell_mark (by rw [mark_blank]; decide)
theorem new_at {n i : Nat} (hi : i < n) : (Dk.new n).at i = blank := by
  unfold Dk.at Dk.new
  rw [List.getD_eq_getElem?_getD, List.getElem?_replicate, if_pos hi]; rfl
theorem fine_nil : Fine [] := ⟨(fun b hb => nomatch hb), by decide⟩
theorem new_has {n : Nat} (h4 : 4 ≤ n) (h8 : n ≤ 8192) : Has (Dk.new n) 0 (fun T => T = []) := by
  have hl : (Dk.new n).lasts.length = n := by simp [Dk.new]
  have hz := hsize_two _ h4
  refine ⟨⟨Dk.ok_new n h8, rfl, by rw [hl]; rfl, by rw [hl]; rfl⟩, ⟨⟨Dk.ok_new n h8, calm_new n⟩, fun x hx => by cases hx⟩, fun _ => ⟨⟨?_, ?_, fun i h1 h2 => ?_⟩, 1, 1, [], .inl ⟨?_, ?_, rfl, rfl, rfl⟩, rfl, fine_nil⟩⟩
  · unfold Dk.hd; rw [new_at (by omega), blank_hd]; exact Nat.le_refl _
  · unfold Dk.hd; rw [new_at (by omega), blank_hd]; exact Nat.le_refl _
  · rw [hl] at h2; unfold Dk.cl; rw [new_at (by omega), blank_cl]; exact Nat.le_refl _
  · unfold Dk.hd; rw [new_at (by omega), blank_hd]
  · unfold Dk.hd; rw [new_at (by omega), blank_hd]
theorem new_clear (n : Nat) : (Dk.new n).Clear := fun x hx => by cases hx
theorem Dk.Ok.cutAt {d : Dk} (h : d.Ok) {n k : Nat} {a b : Int} (hn : n ≤ 9223372036854775807) (hk : k < 18446744073709551616) (ha : -9223372036854775808 ≤ a ∧ a ≤ 9223372036854775807) (hb : -9223372036854775808 ≤ b ∧ b ≤ 9223372036854775807) : (d.cutAt n k a b).Ok :=
  ⟨h.len, h.most, h.lasts, h.waits, h.room, hn, hk, ha, hb⟩
section
variable {d : Dk} {n k : Nat} {a b : Int} (hn : n ≤ 9223372036854775807) (hk : k < 18446744073709551616) (ha : -9223372036854775808 ≤ a ∧ a ≤ 9223372036854775807) (hb : -9223372036854775808 ≤ b ∧ b ≤ 9223372036854775807)
include hn hk ha hb
theorem On.cutAt (h : On d) : On (d.cutAt n k a b) := ⟨h.ok.cutAt hn hk ha hb, h.off, h.quiet, h.room⟩
theorem Full.cutAt (h : Full d) : Full (d.cutAt n k a b) := ⟨⟨h.c.ok.cutAt hn hk ha hb, calm_cut h.c.calm _ _ _ _⟩, h.t⟩
theorem Has.cutAt {g : Nat} {X : List (List UInt8) → Prop} (h : Has d g X) : Has (d.cutAt n k a b) g X := ⟨h.on.cutAt hn hk ha hb, h.full.cutAt hn hk ha hb, h.recs⟩
theorem Rest.cutAt {j : Jn} {T : List (List UInt8)} (h : Rest d j T) : Rest (d.cutAt n k a b) j T := ⟨h.on.cutAt hn hk ha hb, h.up, h.pos, h.lt, h.half, h.head, h.cells, h.used, h.count, h.opened, h.fine⟩
end
theorem Rest.has {d : Dk} {j : Jn} {T : List (List UInt8)} (h : Rest d j T) (hf : Full d) : Has d.on j.gen (fun S => S = T) :=
  ⟨⟨h.on.ok.on, rfl, h.on.quiet, h.on.room⟩, ⟨⟨hf.c.ok.on, fun x => by cases x⟩, hf.t⟩, fun _ => ⟨h.up, _, _, T, h.cur, rfl, h.fine⟩⟩
theorem crash_quiet {d : Dk} (h : d.waits = noWaits d.lasts.length) (k : Nat) (a b : Int) : d.crash k a b = d.on := by unfold Dk.crash; rw [lose_calm h]
/-- Records laid by Reset. -/
theorem reset_way {d : Dk} {j : Jn} {T : List (List UInt8)} (h : Rest d j T) (hf : Full d) (h4 : 4 ≤ d.lasts.length) (hg : j.gen + 1 ≤ 4294967295) {bs : List (List UInt8)} (hb : ∀ b ∈ bs, b.length ≤ 262144) (hl : bs.length < 4294967296) (hn : needs bs ≤ hsize d.lasts.length) :
    ((resetJ d j bs).2.2 = 0 ∧ Rest (resetJ d j bs).1 (resetJ d j bs).2.1 bs ∧ Full (resetJ d j bs).1 ∧ (resetJ d j bs).2.1.gen = j.gen + 1 ∧ (resetJ d j bs).1.lasts.length = d.lasts.length ∧ (resetJ d j bs).1.tears = d.tears ∧ (d.cut = 0 → (resetJ d j bs).1.cut = 0)) ∨
    ((resetJ d j bs).2.2 = 10 ∧ d.cut ≠ 0 ∧ (resetJ d j bs).1.waits = noWaits (resetJ d j bs).1.lasts.length ∧ (resetJ d j bs).1.lasts.length = d.lasts.length ∧ Full (resetJ d j bs).1 ∧ Has (resetJ d j bs).1.on (j.gen + 1) (fun S => S = T ∨ S = bs)) := by
  have hask : askJ j bs = 0 := by
    unfold askJ
    rw [h.opened]
    simp only [Bool.false_eq_true, if_false]
    rw [if_pos]
    rw [List.all_eq_true]
    exact fun b hm => decide_eq_true (hb b hm)
  have hfine : Fine bs := ⟨fun b hm => by have := hb b hm; omega, hl⟩
  have hk := (kept_reset d j bs).full hf
  have e : resetJ d j bs = layJ d j bs := by unfold resetJ; rw [if_pos hask]
  rw [e] at hk ⊢
  rcases lay_way h.on h4 h.cur h.up hg hfine hn with ⟨e0, hr, hg2, hl2, htr, hcut⟩ | ⟨e0, hcut, hon, hl2, htr, hrec⟩
  · exact .inl ⟨e0, hr, hk, hg2, hl2, htr, hcut⟩
  · refine .inr ⟨e0, hcut, hon.quiet, hl2, hk, hon, ⟨⟨hk.c.ok.on, fun x => by cases x⟩, hk.t⟩, fun hc => ?_⟩
    obtain ⟨hu2, p, q, hcc⟩ := hrec hc
    rcases hcc with hcc | hcc
    · exact ⟨hu2, p, q, T, hcc, .inl rfl, h.fine⟩
    · exact ⟨hu2, p, q, bs, hcc, .inr rfl, hfine⟩
end Go.Proofs.YtnioagojiipjlaaGreat.Mt

/-
  One record more, of records that lie: what is there behind it; what lies behind a round of losses.
-/
namespace Go.Proofs.YtnioagojiipjlaaGreat.Mt

theorem Has.mono {d : Dk} {g g' : Nat} {X Y : List (List UInt8) → Prop} (h : Has d g X) (hg : g ≤ g') (hX : ∀ T, X T → Y T) : Has d g' Y :=
  ⟨h.on, h.full, fun hc => by
    obtain ⟨u, a, b, T, k1, k2, k3⟩ := h.recs hc
    exact ⟨u.mono hg, a, b, T, k1, hX T k2, k3⟩⟩
theorem append_way {d : Dk} {j : Jn} {T : List (List UInt8)} (h : Rest d j T) (hf : Full d) (h4 : 4 ≤ d.lasts.length) {b : List UInt8} (hb : b.length ≤ 262144) (hn : T.length + 1 < 4294967296) :
    ((appendJ d j b).2.2 = 11 ∧ (appendJ d j b).1 = d ∧ (appendJ d j b).2.1 = j) ∨
    ((appendJ d j b).2.2 = 0 ∧ Rest (appendJ d j b).1 (appendJ d j b).2.1 (T ++ [b]) ∧ Full (appendJ d j b).1 ∧ (appendJ d j b).2.1.gen = j.gen ∧ (appendJ d j b).1.lasts.length = d.lasts.length ∧ (appendJ d j b).1.tears = d.tears ∧ (d.cut = 0 → (appendJ d j b).1.cut = 0)) ∨
    ((appendJ d j b).2.2 = 10 ∧ d.cut ≠ 0 ∧ (appendJ d j b).1.lasts.length = d.lasts.length ∧ Has (appendJ d j b).1.on j.gen (fun S => S = T ∨ S = T ++ [b])) := by
  have hk := (kept_append d j b).full hf
  rcases app_way h h4 hb hn with e | ⟨e, h1, h2, h3, h5, h6⟩ | ⟨e, h1, h2, h3, h5, h6⟩
  · exact .inl ⟨by rw [e], by rw [e], by rw [e]⟩
  · exact .inr (.inl ⟨e, h1, hk, h2, h3, h5, h6⟩)
  · refine .inr (.inr ⟨e, h1, h3, h2, ⟨⟨hk.c.ok.on, fun x => by cases x⟩, hk.t⟩, fun hc => ?_⟩)
    obtain ⟨u, p, q, hcc⟩ := h6 hc
    have hf2 : Fine (T ++ [b]) := ⟨fun x hx => by
      rcases List.mem_append.1 hx with hx | hx
      · exact h.fine.1 x hx
      · rw [List.mem_singleton.1 hx]; omega, by rw [List.length_append, List.length_singleton]; exact hn⟩
    rcases hcc with hcc | hcc
    · exact ⟨u, p, q, T, hcc, .inl rfl, h.fine⟩
    · exact ⟨u, p, q, T ++ [b], hcc, .inr rfl, hf2⟩
/-- What may lie: what was told, and perhaps the one that wasn't. -/
def May (told : List (List UInt8)) (ob : Bool) (mb : List UInt8) (T : List (List UInt8)) : Prop := T = told ∨ (ob = true ∧ T = told ++ [mb])
/-- At the head of a round of losses. -/
structure AtHead (d : Dk) (k : Nat) (told : List (List UInt8)) (ob : Bool) (mb : List UInt8) : Prop where
  has : Has d k (May told ob mb)
  cut : d.cut = 0
  len : d.lasts.length = 40
/-- Ahead of the Opens. -/
structure AtOpen (d : Dk) (k : Nat) (nocut : Prop) (told : List (List UInt8)) (ob : Bool) (mb : List UInt8) : Prop where
  has : Has d k (May told ob mb)
  cut : nocut → d.cut = 0
  len : d.lasts.length = 40
theorem AtHead.open {d : Dk} {k : Nat} {told : List (List UInt8)} {ob : Bool} {mb : List UInt8} (h : AtHead d k told ob mb) (nocut : Prop) : AtOpen d k nocut told ob mb := ⟨h.has, fun _ => h.cut, h.len⟩
theorem AtHead.cutAt {d : Dk} {k : Nat} {told : List (List UInt8)} {ob : Bool} {mb : List UInt8} (h : AtHead d k told ob mb) {nocut : Prop} (hno : ¬ nocut) {n q : Nat} {a b : Int} (hn : n ≤ 9223372036854775807) (hk : q < 18446744073709551616) (ha : -9223372036854775808 ≤ a ∧ a ≤ 9223372036854775807) (hb : -9223372036854775808 ≤ b ∧ b ≤ 9223372036854775807) : AtOpen (d.cutAt n q a b) k nocut told ob mb :=
  ⟨h.has.cutAt hn hk ha hb, fun hh => absurd hh hno, h.len⟩
/-- Records that were told lie, and no more; power is on. -/
structure Told0 (d : Dk) (j : Jn) (k : Nat) (nocut : Prop) (told : List (List UInt8)) : Prop where
  rest : Rest d j told
  full : Full d
  clear : d.Clear
  gen : j.gen ≤ k + 1
  len : d.lasts.length = 40
  cut : nocut → d.cut = 0
/-- Power was lost. -/
structure Told1 (d : Dk) (k : Nat) (nocut : Prop) (told : List (List UInt8)) (ob : Bool) (mb : List UInt8) : Prop where
  has : Has d.on (k + 1) (May told ob mb)
  len : d.lasts.length = 40
  cut : ¬ nocut
theorem AtOpen.torn {d : Dk} {k : Nat} {nocut : Prop} {told : List (List UInt8)} {ob : Bool} {mb : List UInt8} (h : AtOpen d k nocut told ob mb) : (opD d).Torn128 := ((kept_open d).full h.has.full).t
theorem AtOpen.way {d : Dk} {k : Nat} {nocut : Prop} {told : List (List UInt8)} {ob : Bool} {mb : List UInt8} (h : AtOpen d k nocut told ob mb) (hk : k ≤ 8) (hc : (opD d).Clear) :
    (∃ T j, May told ob mb T ∧ opE d = 0 ∧ opL d = T ∧ opJ d = some j ∧ Told0 (opD d) j k nocut T) ∨ (opE d = 10 ∧ opL d = [] ∧ opJ d = none ∧ Told1 (opD d) k nocut told ob mb) := by
  have hcd := Clear.back (kept_open d) hc
  rcases open_way h.has (by rw [h.len]; decide) (by omega) hcd with ⟨T, j, h1, h2, h3, h4, h5, h6, h7, h8, h9, h10⟩ | ⟨h1, h2, h3, h4, h5, h6⟩
  · exact .inl ⟨T, j, h1, h2, h3, h4, ⟨h5, h6, hc, h7, h8.trans h.len, fun hn => h10 (h.cut hn)⟩⟩
  · exact .inr ⟨h1, h3, h2, ⟨h6, h5.trans h.len, fun hn => h4 (h.cut hn)⟩⟩
theorem Told0.append {d : Dk} {j : Jn} {k : Nat} {nocut : Prop} {told : List (List UInt8)} (h : Told0 d j k nocut told) {b : List UInt8} (hb : b.length ≤ 262144) (hn : told.length ≤ 100) :
    ((appendJ d j b).2.2 = 11 ∧ Told0 (appendJ d j b).1 (appendJ d j b).2.1 k nocut told) ∨ ((appendJ d j b).2.2 = 0 ∧ Told0 (appendJ d j b).1 (appendJ d j b).2.1 k nocut (told ++ [b])) ∨ ((appendJ d j b).2.2 = 10 ∧ Told1 (appendJ d j b).1 k nocut told true b) := by
  rcases append_way h.rest h.full (by rw [h.len]; decide) hb (by omega) with ⟨e, e1, e2⟩ | ⟨e, h1, h2, h3, h4, h5, h6⟩ | ⟨e, h1, h2, h3⟩
  · exact .inl ⟨e, by rw [e1, e2]; exact h⟩
  · exact .inr (.inl ⟨e, h1, h2, fun x hx => h.clear x (by rw [← h5]; exact hx), by rw [h3]; exact h.gen, h4.trans h.len, fun hn => h6 (h.cut hn)⟩)
  · exact .inr (.inr ⟨e, h3.mono h.gen fun T hT => hT.imp id fun e => ⟨rfl, e⟩, h2.trans h.len, fun hn => h1 (h.cut hn)⟩)
theorem Told1.next {d : Dk} {k : Nat} {nocut : Prop} {told : List (List UInt8)} {ob : Bool} {mb : List UInt8} (h : Told1 d k nocut told ob mb) : AtHead d.on (k + 1) told ob mb := ⟨h.has, rfl, h.len⟩
theorem Told0.fit {d : Dk} {j : Jn} {k : Nat} {nocut : Prop} {told : List (List UInt8)} (h : Told0 d j k nocut told) : j.count ≤ j.used ∧ j.gen < 4294967296 := by
  refine ⟨?_, h.rest.lt⟩
  rw [h.rest.count, h.rest.used]
  exact needs_len told
/-- Power is on again: what was told is opened. -/
theorem Told0.last {d : Dk} {j : Jn} {k : Nat} {nocut : Prop} {told : List (List UInt8)} (h : Told0 d j k nocut told) (hk : k ≤ 8) : opE d.on = 0 ∧ opL d.on = told := by
  have hh := h.rest.has h.full
  have hg := h.gen
  rcases open_way hh (by show 4 ≤ d.lasts.length; rw [h.len]; decide) (by omega) (show d.on.Clear from h.clear) with ⟨T, j', h1, h2, h3, _⟩ | ⟨_, _, _, h4, _⟩
  · exact ⟨h2, h3.trans h1⟩
  · exact absurd rfl h4
theorem new_head : AtHead (Dk.new 40) 0 [] false [] := ⟨(new_has (by decide) (by decide)).mono (Nat.le_refl _) fun T hT => .inl hT, rfl, List.length_replicate⟩
end Go.Proofs.YtnioagojiipjlaaGreat.Mt
