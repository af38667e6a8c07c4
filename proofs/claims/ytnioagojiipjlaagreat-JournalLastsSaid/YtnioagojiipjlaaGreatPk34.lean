/-
  Some texts of one proof, one behind the other.
-/
import Derived.Test.YtnioagojiipjlaaGreatPk25
import Derived.Test.YtnioagojiipjlaaGreatPk33
set_option linter.unusedVariables false
set_option linter.unusedSimpArgs false

/-
  What a loss of power leaves: sector by sector; of sectors that are written one behind the other, and flushed.
-/
namespace Go.Proofs.YtnioagojiipjlaaGreat.Mt

/-- A torn sector that is as it was, or as it should be, or neither a cell nor a head. -/
def Plain (x : List UInt8 × List UInt8 × List UInt8) : Prop := x.2.2 = x.1 ∨ x.2.2 = x.2.1 ∨ (¬ isCl x.2.2 ∧ ¬ isHd x.2.2)
def Dk.Clear (d : Dk) : Prop := ∀ x ∈ d.tears, Plain x

theorem getD_set (L : List (List UInt8)) (i j : Nat) (x : List UInt8) (h : i < L.length) : (L.set j x).getD i [] = if j = i then x else L.getD i [] := by
  rw [List.getD_eq_getElem?_getD, List.getD_eq_getElem?_getD, List.getElem?_set]
  by_cases hj : j = i
  · subst hj; rw [if_pos rfl, if_pos rfl, if_pos h]; rfl
  · rw [if_neg hj, if_neg hj]

theorem loseK_at (keep : Nat) (torn at' : Int) (W : List (Option (List UInt8))) : ∀ (r : List Nat) (c : Nat) (L : List (List UInt8)), r.Nodup → ∀ i, i < L.length →
    (i ∉ r → (loseK keep torn at' W c r L).getD i [] = L.getD i []) ∧
    (i ∈ r → (loseK keep torn at' W c r L).getD i [] = L.getD i [] ∨ (loseK keep torn at' W c r L).getD i [] = (W.getD i none).getD [] ∨ (L.getD i [], (W.getD i none).getD [], (loseK keep torn at' W c r L).getD i []) ∈ tearK keep torn at' W c r L)
  | [], _, _, _, _, _ => ⟨fun _ => rfl, fun h => by cases h⟩
  | j :: r, c, L, hn, i, hi => by
    obtain ⟨hj, hn'⟩ := List.nodup_cons.1 hn
    obtain ⟨h1, h2⟩ := loseK_at keep torn at' W r (c + 1) (L.set j (pick keep torn at' c (L.getD j []) ((W.getD j none).getD []))) hn' i (by rw [List.length_set]; exact hi)
    have hs := getD_set L i j (pick keep torn at' c (L.getD j []) ((W.getD j none).getD [])) hi
    rw [hs] at h1 h2
    rw [loseK, tearK]
    refine ⟨fun hm => ?_, fun hm => ?_⟩
    · rw [List.mem_cons, not_or] at hm
      rw [h1 hm.2, if_neg (fun e => hm.1 e.symm)]
    · by_cases hji : j = i
      · subst hji
        have e := h1 hj
        rw [if_pos rfl] at e
        rw [e]
        by_cases ht : (c : Int) = torn
        · rw [if_pos ht]
          exact .inr (.inr (List.mem_append_left _ (List.mem_singleton.2 rfl)))
        · unfold pick
          rw [if_neg ht]
          split
          · exact .inr (.inl rfl)
          · exact .inl rfl
      · rw [if_neg hji] at h2
        have hm' : i ∈ r := by
          rcases List.mem_cons.1 hm with e | e
          · exact absurd e.symm hji
          · exact e
        rcases h2 hm' with h | h | h
        · exact .inl h
        · exact .inr (.inl h)
        · exact .inr (.inr (List.mem_append_right _ h))

/-- What stands in a sector. -/
def Dk.at (d : Dk) (i : Nat) : List UInt8 := d.lasts.getD i []
theorem lose_at {d : Dk} (keep : Nat) (torn at' : Int) {i : Nat} (hi : i < d.lasts.length) :
    (d.waits.getD i none = none → (d.lose keep torn at').at i = d.at i) ∧
    (∀ b, d.waits.getD i none = some b → (d.lose keep torn at').at i = d.at i ∨ (d.lose keep torn at').at i = b ∨ (d.at i, b, (d.lose keep torn at').at i) ∈ (d.lose keep torn at').tears) := by
  obtain ⟨h1, h2⟩ := loseK_at keep torn at' d.waits (wkeys d.waits) 0 d.lasts (wkeys_nodup _) i hi
  refine ⟨fun hw => h1 fun hm => ?_, fun b hb => ?_⟩
  · obtain ⟨b, hb⟩ := mem_wkeys.1 hm
    rw [List.getD_eq_getElem?_getD, hb] at hw
    cases hw
  · have hm : i ∈ wkeys d.waits := mem_wkeys.2 ⟨b, by
      rw [List.getD_eq_getElem?_getD] at hb
      cases h : d.waits[i]? with
      | none => rw [h] at hb; cases hb
      | some o => rw [h] at hb; rw [Option.getD_some] at hb; rw [hb]⟩
    have h3 := h2 hm
    rw [hb] at h3
    rcases h3 with h | h | h
    · exact .inl h
    · exact .inr (.inl h)
    · exact .inr (.inr (List.mem_append_right _ h))

/-- Power is on, nothing waits, nothing is limited. -/
structure On (d : Dk) : Prop where
  ok : d.Ok
  off : d.off = false
  quiet : d.waits = noWaits d.lasts.length
  room : d.room = d.lasts.length
theorem noWaits_getD (n i : Nat) : (noWaits n).getD i none = none := by
  rw [List.getD_eq_getElem?_getD]
  unfold noWaits
  rw [List.getElem?_replicate]
  split <;> rfl
theorem On.sec {d : Dk} (h : On d) {i : Nat} (hi : i < d.lasts.length) : d.sec i = d.at i := by
  rw [sec_eq h.off hi, h.quiet, noWaits_getD]; rfl

/-- Behind writes of sectors, one behind the other: power is on. -/
structure Part (d d' : Dk) (a : Nat) (l : List (List UInt8)) : Prop where
  ok : d'.Ok
  off : d'.off = false
  lasts : d'.lasts = d.lasts
  room : d'.room = d.room
  tears : d'.tears = d.tears
  cut : d.cut = 0 → d'.cut = 0
  wait : ∀ i, i < d.lasts.length → d'.waits.getD i none = if a ≤ i ∧ i < a + l.length then some (l.getD (i - a) []) else none
/-- .. power was lost. -/
structure Lost (d d' : Dk) (a : Nat) (l : List (List UInt8)) : Prop where
  ok : d'.Ok
  off : d'.off = true
  quiet : d'.waits = noWaits d'.lasts.length
  len : d'.lasts.length = d.lasts.length
  room : d'.room = d.room
  tears : ∀ x ∈ d.tears, x ∈ d'.tears
  cut : d.cut ≠ 0
  out : ∀ i, i < d.lasts.length → ¬ (a ≤ i ∧ i < a + l.length) → d'.at i = d.at i
  mid : ∀ i, i < d.lasts.length → a ≤ i ∧ i < a + l.length → d'.at i = d.at i ∨ d'.at i = l.getD (i - a) [] ∨ (d.at i, l.getD (i - a) [], d'.at i) ∈ d'.tears
theorem Lost.more {d d' : Dk} {a : Nat} {l : List (List UInt8)} (h : Lost d d' a l) (m : List (List UInt8)) : Lost d d' a (l ++ m) := by
  refine ⟨h.ok, h.off, h.quiet, h.len, h.room, h.tears, h.cut, fun i hi hn => h.out i hi fun hh => hn ⟨hh.1, by rw [List.length_append]; omega⟩, fun i hi hm => ?_⟩
  by_cases hh : a ≤ i ∧ i < a + l.length
  · have e : (l ++ m).getD (i - a) [] = l.getD (i - a) [] := by
      rw [List.getD_eq_getElem?_getD, List.getD_eq_getElem?_getD, List.getElem?_append_left (by omega)]
    rw [e]; exact h.mid i hi hh
  · exact .inl (h.out i hi hh)
theorem Part.lose {d d' : Dk} {a : Nat} {l : List (List UInt8)} (h : Part d d' a l) (hc : d.cut ≠ 0) (x : Dk) (hx : x = { ({ d' with cut := 0 } : Dk).lose d'.keep d'.torn d'.at' with off := true }) : Lost d x a l := by
  subst hx
  have hl : ((d'.lose d'.keep d'.torn d'.at').lasts).length = d.lasts.length := by rw [← h.lasts]; exact loseK_length ..
  have hat : ∀ i, d'.at i = d.at i := fun i => by unfold Dk.at; rw [h.lasts]
  refine ⟨((h.ok.setCut 0 (by omega)).lose _ _ _).setOff true, rfl, ?_, hl, h.room, fun y hy => ?_, hc, fun i hi hn => ?_, fun i hi hm => ?_⟩
  · show noWaits d'.lasts.length = noWaits _
    rw [show ({ ({ d' with cut := 0 } : Dk).lose d'.keep d'.torn d'.at' with off := true } : Dk).lasts.length = d.lasts.length from hl, h.lasts]
  · show y ∈ d'.tears ++ _
    rw [h.tears]; exact List.mem_append_left _ hy
  · have hw := h.wait i hi
    rw [if_neg hn] at hw
    have := (lose_at (d := d') d'.keep d'.torn d'.at' (by rw [h.lasts]; exact hi)).1 hw
    rw [← hat i]; exact this
  · have hw := h.wait i hi
    rw [if_pos hm] at hw
    have := (lose_at (d := d') d'.keep d'.torn d'.at' (by rw [h.lasts]; exact hi)).2 _ hw
    rw [← hat i]; exact this
theorem Part.cutDown {d d' : Dk} {a : Nat} {l : List (List UInt8)} (h : Part d d' a l) (n : Nat) (hn : n ≤ 9223372036854775807) (h0 : d.cut = 0 → n = 0) : Part d { d' with cut := n } a l := ⟨h.ok.setCut n hn, h.off, h.lasts, h.room, h.tears, h0, h.wait⟩
/-- A call is counted. -/
theorem Part.count {d d' : Dk} {a : Nat} {l : List (List UInt8)} (h : Part d d' a l) : (d'.count.2 = 0 ∧ Part d d'.count.1 a l) ∨ (d'.count.2 = 10 ∧ Lost d d'.count.1 a l) := by
  unfold Dk.count
  by_cases h0 : d'.cut = 0
  · rw [if_pos h0]; exact .inl ⟨rfl, h⟩
  · have hd : d.cut ≠ 0 := fun e => h0 (h.cut e)
    rw [if_neg h0]
    by_cases h1 : d'.cut = 1
    · rw [if_pos h1]; exact .inr ⟨rfl, h.lose hd _ rfl⟩
    · rw [if_neg h1]; exact .inl ⟨rfl, h.cutDown _ (by have := h.ok.cut; omega) (fun e => absurd e hd)⟩
theorem Part.write {d d' : Dk} {a : Nat} {l : List (List UInt8)} (hd : On d) (h : Part d d' a l) {s : List UInt8} (hs : s.length = 128) (hb : a + l.length < d.lasts.length) :
    ((d'.write ((a + l.length : Nat) : Int) s).2 = 0 ∧ Part d (d'.write ((a + l.length : Nat) : Int) s).1 a (l ++ [s])) ∨ ((d'.write ((a + l.length : Nat) : Int) s).2 = 10 ∧ Lost d (d'.write ((a + l.length : Nat) : Int) s).1 a (l ++ [s])) := by
  have hask : d'.ask ((a + l.length : Nat) : Int) = 0 := by
    unfold Dk.ask
    rw [h.off, h.lasts, if_neg (by simp), if_neg (by omega)]
  unfold Dk.write
  rw [if_pos hask, if_pos hs, if_pos (by rw [h.room, hd.room]; omega)]
  refine Part.count ⟨h.ok.wait _ _ hs, h.off, h.lasts, h.room, h.tears, h.cut, fun i hi => ?_⟩
  show (d'.waits.set ((a + l.length : Nat) : Int).toNat (some s)).getD i none = _
  have hlw : d'.waits.length = d.lasts.length := by rw [h.ok.len, h.lasts]
  rw [Int.toNat_natCast, List.getD_eq_getElem?_getD, List.getElem?_set, List.length_append, List.length_singleton]
  by_cases he : a + l.length = i
  · subst he
    rw [if_pos rfl, if_pos (by omega), if_pos (by omega), Option.getD_some]
    rw [show a + l.length - a = l.length by omega, List.getD_eq_getElem?_getD, List.getElem?_append_right (Nat.le_refl _), Nat.sub_self]
    rfl
  · rw [if_neg he, ← List.getD_eq_getElem?_getD, h.wait i hi]
    by_cases hin : a ≤ i ∧ i < a + l.length
    · rw [if_pos hin, if_pos ⟨hin.1, by omega⟩]
      congr 1
      rw [List.getD_eq_getElem?_getD, List.getD_eq_getElem?_getD, List.getElem?_append_left (by omega)]
    · rw [if_neg hin, if_neg (by omega)]
theorem On.part {d : Dk} (h : On d) (a : Nat) : Part d d a [] := ⟨h.ok, h.off, rfl, rfl, rfl, id, fun i _ => by rw [h.quiet, noWaits_getD, if_neg (by simp only [List.length_nil]; omega)]⟩
theorem Part.wrS {d : Dk} (hd : On d) {a : Nat} : ∀ (r l : List (List UInt8)) (d' : Dk), Part d d' a l → (∀ s ∈ r, s.length = 128) → a + l.length + r.length ≤ d.lasts.length →
    ((Mt.wrS d' (a + l.length) r).2 = 0 ∧ Part d (Mt.wrS d' (a + l.length) r).1 a (l ++ r)) ∨ ((Mt.wrS d' (a + l.length) r).2 = 10 ∧ Lost d (Mt.wrS d' (a + l.length) r).1 a (l ++ r))
  | [], l, d', h, _, _ => by rw [List.append_nil]; exact .inl ⟨rfl, h⟩
  | s :: r, l, d', h, hs, hb => by
    rw [List.length_cons] at hb
    have hw := h.write hd (hs s (List.mem_cons_self ..)) (by omega)
    rw [Mt.wrS]
    rcases hw with ⟨h1, h2⟩ | ⟨h1, h2⟩
    · rw [if_pos h1]
      have ih := Part.wrS hd r (l ++ [s]) _ h2 (fun x hx => hs x (List.mem_cons_of_mem _ hx)) (by rw [List.length_append, List.length_singleton]; omega)
      rw [List.length_append, List.length_singleton, List.append_assoc, List.singleton_append] at ih
      exact ih
    · rw [if_neg (by rw [h1]; decide)]
      have := h2.more r
      rw [List.append_assoc, List.singleton_append] at this
      exact .inr ⟨h1, this⟩
/-- Sectors that are written, and flushed. -/
structure Done (d d' : Dk) (a : Nat) (l : List (List UInt8)) : Prop where
  on : On d'
  len : d'.lasts.length = d.lasts.length
  tears : d'.tears = d.tears
  cut : d.cut = 0 → d'.cut = 0
  sec : ∀ i, i < d.lasts.length → d'.at i = if a ≤ i ∧ i < a + l.length then l.getD (i - a) [] else d.at i
theorem Part.flush {d d' : Dk} {a : Nat} {l : List (List UInt8)} (hd : On d) (h : Part d d' a l) : (d'.flush.2 = 0 ∧ Done d d'.flush.1 a l) ∨ (d'.flush.2 = 10 ∧ Lost d d'.flush.1 a l) := by
  unfold Dk.flush
  rw [h.off, if_neg (by simp)]
  rcases h.count with ⟨h1, h2⟩ | ⟨h1, h2⟩
  · rw [if_pos h1]
    refine .inl ⟨rfl, ?_⟩
    have hlen : (over d'.count.1.lasts d'.count.1.waits).length = d.lasts.length := by rw [over_length _ _ h2.ok.len, h2.lasts]
    refine ⟨⟨h2.ok.flushed, h2.off, ?_, ?_⟩, hlen, h2.tears, h2.cut, fun i hi => ?_⟩
    · show noWaits d'.count.1.lasts.length = noWaits (over _ _).length
      rw [hlen, h2.lasts]
    · show d'.count.1.room = (over _ _).length
      rw [hlen, h2.room, hd.room]
    · show (over d'.count.1.lasts d'.count.1.waits).getD i [] = _
      have hw := h2.wait i hi
      have hi1 : i < d'.count.1.lasts.length := by rw [h2.lasts]; exact hi
      have hi2 : i < d'.count.1.waits.length := by rw [h2.ok.len]; exact hi1
      have hi3 : i < (over d'.count.1.lasts d'.count.1.waits).length := by rw [hlen]; exact hi
      have hw2 : d'.count.1.waits[i] = d'.count.1.waits.getD i none := by rw [List.getD_eq_getElem?_getD, List.getElem?_eq_getElem hi2]; rfl
      have hat : d'.count.1.lasts[i] = d.at i := by
        unfold Dk.at
        rw [← h2.lasts, List.getD_eq_getElem?_getD, List.getElem?_eq_getElem hi1]; rfl
      rw [List.getD_eq_getElem?_getD, List.getElem?_eq_getElem hi3, Option.getD_some]
      simp only [over, List.getElem_zipWith]
      rw [hw2, hw, hat]
      split <;> rfl
  · rw [if_neg (by rw [h1]; decide)]; exact .inr ⟨h1, h2⟩
theorem wrF_way {d : Dk} (hd : On d) {a : Nat} {l : List (List UInt8)} (hl : ∀ s ∈ l, s.length = 128) (hb : a + l.length ≤ d.lasts.length) :
    ((wrF d a l).2 = 0 ∧ Done d (wrF d a l).1 a l) ∨ ((wrF d a l).2 = 10 ∧ Lost d (wrF d a l).1 a l) := by
  have h := Part.wrS hd l [] d (hd.part a) hl (by simpa using hb)
  simp only [List.length_nil, Nat.add_zero, List.nil_append] at h
  unfold wrF
  rcases h with ⟨h1, h2⟩ | ⟨h1, h2⟩
  · rw [if_pos h1]; exact h2.flush hd
  · rw [if_neg (by rw [h1]; decide)]; exact .inr ⟨h1, h2⟩
end Go.Proofs.YtnioagojiipjlaaGreat.Mt
