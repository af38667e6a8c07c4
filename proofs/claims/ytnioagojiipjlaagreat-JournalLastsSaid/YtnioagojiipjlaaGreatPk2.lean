/-
  Some texts of one proof, one behind the other.
-/
import Derived.Below
set_option linter.unusedVariables false
set_option linter.unusedSimpArgs false

/-
  Plain facts on disks: what lasts, what waits, what a loss of power leaves.
-/
namespace Go.Proofs.YtnioagojiipjlaaGreat.Mt

/-- A sector without bytes. -/
def blank : List UInt8 := List.replicate 128 0
theorem blank_length : blank.length = 128 := List.length_replicate

/-- A disk: what lasts, what waits, the limit, the power, the cut that is asked for. -/
structure Dk where
  lasts : List (List UInt8)
  waits : List (Option (List UInt8))
  room : Nat
  off : Bool
  cut : Nat
  keep : Nat
  torn : Int
  at' : Int
  tears : List (List UInt8 × List UInt8 × List UInt8)

/-- A disk's numbers and lists are in form. -/
structure Dk.Ok (d : Dk) : Prop where
  len : d.waits.length = d.lasts.length
  most : d.lasts.length ≤ 8192
  lasts : ∀ i (h : i < d.lasts.length), (d.lasts[i]).length = 128
  waits : ∀ (i : Nat) b, d.waits[i]? = some (some b) → b.length = 128
  room : d.room ≤ d.lasts.length
  cut : d.cut ≤ 9223372036854775807
  keep : d.keep < 18446744073709551616
  torn : -9223372036854775808 ≤ d.torn ∧ d.torn ≤ 9223372036854775807
  at' : -9223372036854775808 ≤ d.at' ∧ d.at' ≤ 9223372036854775807

/-- How many bytes of a torn sector last. -/
def tornN (at' : Int) : Nat := at'.toNat % 129
/-- What lasts of a sector that waits, being the c-th that does. -/
def pick (keep : Nat) (torn at' : Int) (c : Nat) (a b : List UInt8) : List UInt8 :=
  if (c : Int) = torn then b.take (tornN at') ++ a.drop (tornN at') else if keep / 2 ^ (c % 64) % 2 = 1 then b else a
theorem pick_length (keep : Nat) (torn at' : Int) (c : Nat) (a b : List UInt8) (ha : a.length = 128) (hb : b.length = 128) : (pick keep torn at' c a b).length = 128 := by
  unfold pick
  split
  · rw [List.length_append, List.length_take, List.length_drop]; omega
  · split <;> assumption

/-- The sectors that have bytes that wait. -/
def wkeys (W : List (Option (List UInt8))) : List Nat := (List.range W.length).filter fun i => (W.getD i none).isSome

/-- A loss of power, sector by sector, of those that wait. -/
def loseK (keep : Nat) (torn at' : Int) (W : List (Option (List UInt8))) : Nat → List Nat → List (List UInt8) → List (List UInt8)
  | _, [], L => L
  | c, i :: r, L => loseK keep torn at' W (c + 1) r (L.set i (pick keep torn at' c (L.getD i []) ((W.getD i none).getD [])))

def loseAll (keep : Nat) (torn at' : Int) (W : List (Option (List UInt8))) (L : List (List UInt8)) : List (List UInt8) := loseK keep torn at' W 0 (wkeys W) L
/-- What was torn of those: as it was, as it should be, and what came of it. -/
def tearK (keep : Nat) (torn at' : Int) (W : List (Option (List UInt8))) : Nat → List Nat → List (List UInt8) → List (List UInt8 × List UInt8 × List UInt8)
  | _, [], _ => []
  | c, i :: r, L => (if (c : Int) = torn then [(L.getD i [], (W.getD i none).getD [], pick keep torn at' c (L.getD i []) ((W.getD i none).getD []))] else []) ++ tearK keep torn at' W (c + 1) r (L.set i (pick keep torn at' c (L.getD i []) ((W.getD i none).getD [])))
theorem tearK_append (keep : Nat) (torn at' : Int) (W : List (Option (List UInt8))) : ∀ (r s : List Nat) (c : Nat) (L : List (List UInt8)), tearK keep torn at' W c (r ++ s) L = tearK keep torn at' W c r L ++ tearK keep torn at' W (c + r.length) s (loseK keep torn at' W c r L)
  | [], _, _, _ => rfl
  | i :: r, s, c, L => by
    rw [List.cons_append, tearK, tearK_append keep torn at' W r s, tearK, loseK, List.length_cons, Nat.add_assoc, Nat.add_comm 1, List.append_assoc]
def noWaits (n : Nat) : List (Option (List UInt8)) := List.replicate n none

def Dk.lose (d : Dk) (keep : Nat) (torn at' : Int) : Dk := { d with lasts := loseAll keep torn at' d.waits d.lasts, waits := noWaits d.lasts.length, tears := d.tears ++ tearK keep torn at' d.waits 0 (wkeys d.waits) d.lasts }
def Dk.on (d : Dk) : Dk := { d with off := false, cut := 0 }
def Dk.crash (d : Dk) (keep : Nat) (torn at' : Int) : Dk := (d.lose keep torn at').on
def Dk.cutAt (d : Dk) (n keep : Nat) (torn at' : Int) : Dk := { d with cut := n, keep := keep, torn := torn, at' := at' }
def Dk.limit (d : Dk) (n : Int) : Dk := { d with room := min n.toNat d.lasts.length }
def Dk.count (d : Dk) : Dk × Int :=
  if d.cut = 0 then (d, 0) else if d.cut = 1 then ({ ({ d with cut := 0 } : Dk).lose d.keep d.torn d.at' with off := true }, 10) else ({ d with cut := d.cut - 1 }, 0)
/-- What waits lasts. -/
def over (L : List (List UInt8)) (W : List (Option (List UInt8))) : List (List UInt8) := List.zipWith (fun a w => w.getD a) L W
def Dk.flushed (d : Dk) : Dk := { d with lasts := over d.lasts d.waits, waits := noWaits d.lasts.length }
/-- What keeps a sector from being read. -/
def Dk.ask (d : Dk) (i : Int) : Int := if d.off then 10 else if i < 0 ∨ d.lasts.length ≤ i then 2 else 0
def Dk.read (d : Dk) (i : Int) : List UInt8 × Int := if d.ask i = 0 then ((d.waits.getD i.toNat none).getD (d.lasts.getD i.toNat []), 0) else ([], d.ask i)
def Dk.write (d : Dk) (i : Int) (s : List UInt8) : Dk × Int :=
  if d.ask i = 0 then (if s.length = 128 then (if i < d.room then ({ d with waits := d.waits.set i.toNat (some s) } : Dk).count else (d, 11)) else (d, 2)) else (d, d.ask i)
def Dk.flush (d : Dk) : Dk × Int := if d.off then (d, 10) else if d.count.2 = 0 then (d.count.1.flushed, 0) else d.count
def Dk.new (n : Nat) : Dk := { lasts := List.replicate n blank, waits := noWaits n, room := n, off := false, cut := 0, keep := 0, torn := 0, at' := 0, tears := [] }
def Dk.image (d : Dk) : List UInt8 := d.lasts.flatten
/-- The sectors that a text fills, as many as there are. -/
def layL : Nat → List UInt8 → List (List UInt8)
  | 0, _ => []
  | n + 1, s => (s.take 128 ++ List.replicate (128 - s.length) 0) :: layL n (s.drop 128)
def Dk.lay (d : Dk) (s : List UInt8) : Dk := { d with lasts := layL d.lasts.length s, waits := noWaits d.lasts.length }

theorem mem_wkeys {W : List (Option (List UInt8))} {i : Nat} : i ∈ wkeys W ↔ ∃ b, W[i]? = some (some b) := by
  unfold wkeys
  rw [List.mem_filter, List.mem_range]
  simp only [List.getD]
  constructor
  · rintro ⟨h, h2⟩
    rw [List.getElem?_eq_getElem h] at h2 ⊢
    simp only [Option.getD_some] at h2
    obtain ⟨b, hb⟩ := Option.isSome_iff_exists.1 h2
    exact ⟨b, by rw [hb]⟩
  · rintro ⟨b, hb⟩
    have h : i < W.length := by
      rcases Nat.lt_or_ge i W.length with h | h
      · exact h
      · rw [List.getElem?_eq_none h] at hb; cases hb
    refine ⟨h, ?_⟩
    rw [hb]; rfl
theorem wkeys_nodup (W : List (Option (List UInt8))) : (wkeys W).Nodup := List.nodup_range.filter _
theorem wkeys_sorted (W : List (Option (List UInt8))) : (wkeys W).Pairwise (· < ·) := List.pairwise_lt_range.filter _
theorem wkeys_length (W : List (Option (List UInt8))) : (wkeys W).length ≤ W.length := by
  have h := List.length_filter_le (fun i => (W.getD i none).isSome) (List.range W.length)
  rw [List.length_range] at h
  exact h
theorem loseK_length (keep : Nat) (torn at' : Int) (W : List (Option (List UInt8))) : ∀ (r : List Nat) (c : Nat) (L : List (List UInt8)), (loseK keep torn at' W c r L).length = L.length
  | [], _, _ => rfl
  | i :: r, c, L => by rw [loseK, loseK_length keep torn at' W r, List.length_set]
theorem loseK_append (keep : Nat) (torn at' : Int) (W : List (Option (List UInt8))) : ∀ (r s : List Nat) (c : Nat) (L : List (List UInt8)), loseK keep torn at' W c (r ++ s) L = loseK keep torn at' W (c + r.length) s (loseK keep torn at' W c r L)
  | [], _, _, _ => rfl
  | i :: r, s, c, L => by
    rw [List.cons_append, loseK, loseK_append keep torn at' W r s, loseK, List.length_cons, Nat.add_assoc, Nat.add_comm 1]
theorem loseK_secs (keep : Nat) (torn at' : Int) (W : List (Option (List UInt8))) (hW : ∀ (i : Nat) b, W[i]? = some (some b) → b.length = 128) :
    ∀ (r : List Nat) (c : Nat) (L : List (List UInt8)), (∀ i ∈ r, i < L.length ∧ ∃ b, W[i]? = some (some b)) → (∀ i (h : i < L.length), (L[i]).length = 128) → ∀ i (h : i < (loseK keep torn at' W c r L).length), ((loseK keep torn at' W c r L)[i]).length = 128
  | [], _, _, _, hL => hL
  | j :: r, c, L, hr, hL => by
    refine loseK_secs keep torn at' W hW r (c + 1) _ (fun i hi => ?_) (fun i hi => ?_)
    · rw [List.length_set]; exact hr i (List.mem_cons_of_mem _ hi)
    · rw [List.getElem_set]
      split
      · obtain ⟨hj, b, hb⟩ := hr j (List.mem_cons_self ..)
        have e1 : L.getD j [] = L[j] := by simp [List.getD, List.getElem?_eq_getElem hj]
        have e2 : (W.getD j none).getD [] = b := by simp [List.getD, hb]
        rw [e1, e2]
        exact pick_length _ _ _ _ _ _ (hL j hj) (hW j b hb)
      · exact hL i (by rw [List.length_set] at hi; exact hi)
theorem over_length (L : List (List UInt8)) (W : List (Option (List UInt8))) (h : W.length = L.length) : (over L W).length = L.length := by
  unfold over; rw [List.length_zipWith, h, Nat.min_self]
theorem layL_length : ∀ (n : Nat) (s : List UInt8), (layL n s).length = n
  | 0, _ => rfl
  | n + 1, s => by rw [layL, List.length_cons, layL_length n]
theorem layL_secs : ∀ (n : Nat) (s : List UInt8), ∀ a ∈ layL n s, a.length = 128
  | 0, _, _, h => by cases h
  | n + 1, s, a, h => by
    rw [layL, List.mem_cons] at h
    rcases h with rfl | h
    · rw [List.length_append, List.length_take, List.length_replicate]; omega
    · exact layL_secs n _ a h

theorem noWaits_none {n : Nat} {i : Nat} {b : List UInt8} : (noWaits n)[i]? ≠ some (some b) := by
  unfold noWaits
  intro h
  rw [List.getElem?_replicate] at h
  split at h <;> cases h
theorem wkeys_none (n : Nat) : wkeys (noWaits n) = [] := by
  apply List.eq_nil_iff_forall_not_mem.2
  intro i hi
  obtain ⟨b, hb⟩ := mem_wkeys.1 hi
  exact noWaits_none hb

theorem Dk.Ok.clean {d : Dk} (h : d.Ok) (L : List (List UInt8)) (hl : L.length = d.lasts.length) (hs : ∀ i (h : i < L.length), (L[i]).length = 128) : ({ d with lasts := L, waits := noWaits d.lasts.length } : Dk).Ok :=
  ⟨by show (noWaits _).length = L.length; rw [hl]; exact List.length_replicate, by show L.length ≤ 8192; rw [hl]; exact h.most, hs, fun i b hb => absurd hb noWaits_none, by show d.room ≤ L.length; rw [hl]; exact h.room, h.cut, h.keep, h.torn, h.at'⟩
theorem Dk.Ok.keys {d : Dk} (h : d.Ok) : ∀ i ∈ wkeys d.waits, i < d.lasts.length ∧ ∃ b, d.waits[i]? = some (some b) := fun i hi => by
  obtain ⟨b, hb⟩ := mem_wkeys.1 hi
  refine ⟨?_, b, hb⟩
  rw [← h.len]
  rcases Nat.lt_or_ge i d.waits.length with h | h
  · exact h
  · rw [List.getElem?_eq_none h] at hb; cases hb
theorem Dk.Ok.setTears {d : Dk} (h : d.Ok) (t : List (List UInt8 × List UInt8 × List UInt8)) : ({ d with tears := t } : Dk).Ok := ⟨h.len, h.most, h.lasts, h.waits, h.room, h.cut, h.keep, h.torn, h.at'⟩
theorem Dk.Ok.lose {d : Dk} (h : d.Ok) (keep : Nat) (torn at' : Int) : (d.lose keep torn at').Ok :=
  (h.clean (loseAll keep torn at' d.waits d.lasts) (loseK_length ..) (loseK_secs keep torn at' d.waits h.waits _ _ _ h.keys h.lasts)).setTears _
theorem Dk.Ok.flushed {d : Dk} (h : d.Ok) : d.flushed.Ok := by
  refine h.clean _ (over_length _ _ h.len) (fun i hi => ?_)
  have hi' := hi
  rw [over_length _ _ h.len] at hi'
  simp only [over, List.getElem_zipWith]
  replace hi := hi'
  cases hw : d.waits[i]'(by rw [h.len]; exact hi) with
  | none => exact h.lasts i hi
  | some b => exact h.waits i b (by rw [List.getElem?_eq_getElem (by rw [h.len]; exact hi), hw])
theorem Dk.Ok.lay {d : Dk} (h : d.Ok) (s : List UInt8) : (d.lay s).Ok := h.clean _ (layL_length ..) (fun _ hi => layL_secs _ s _ (List.getElem_mem hi))
theorem Dk.Ok.on {d : Dk} (h : d.Ok) : d.on.Ok := ⟨h.len, h.most, h.lasts, h.waits, h.room, by show (0 : Nat) ≤ _; omega, h.keep, h.torn, h.at'⟩
theorem Dk.Ok.crash {d : Dk} (h : d.Ok) (keep : Nat) (torn at' : Int) : (d.crash keep torn at').Ok := (h.lose keep torn at').on
theorem Dk.Ok.limit {d : Dk} (h : d.Ok) (n : Int) : (d.limit n).Ok := ⟨h.len, h.most, h.lasts, h.waits, Nat.min_le_right _ _, h.cut, h.keep, h.torn, h.at'⟩
theorem Dk.Ok.setCut {d : Dk} (h : d.Ok) (n : Nat) (hn : n ≤ 9223372036854775807) : ({ d with cut := n } : Dk).Ok := ⟨h.len, h.most, h.lasts, h.waits, h.room, hn, h.keep, h.torn, h.at'⟩
theorem Dk.Ok.setOff {d : Dk} (h : d.Ok) (b : Bool) : ({ d with off := b } : Dk).Ok := ⟨h.len, h.most, h.lasts, h.waits, h.room, h.cut, h.keep, h.torn, h.at'⟩
theorem Dk.Ok.count {d : Dk} (h : d.Ok) : d.count.1.Ok := by
  unfold Dk.count
  split
  · exact h
  · split
    · exact ((h.setCut 0 (by omega)).lose _ _ _).setOff true
    · exact h.setCut _ (by have := h.cut; omega)
theorem Dk.Ok.wait {d : Dk} (h : d.Ok) (i : Nat) (s : List UInt8) (hs : s.length = 128) : ({ d with waits := d.waits.set i (some s) } : Dk).Ok :=
  ⟨by show (d.waits.set _ _).length = _; rw [List.length_set]; exact h.len, h.most, h.lasts, fun j b hb => by
    have hb' : (d.waits.set i (some s))[j]? = some (some b) := hb
    rw [List.getElem?_set] at hb'
    split at hb'
    · split at hb'
      · cases hb'; exact hs
      · cases hb'
    · exact h.waits j b hb', h.room, h.cut, h.keep, h.torn, h.at'⟩
theorem Dk.Ok.write {d : Dk} (h : d.Ok) (i : Int) (s : List UInt8) : (d.write i s).1.Ok := by
  unfold Dk.write
  split
  · split
    · split
      · exact (h.wait _ _ (by assumption)).count
      · exact h
    · exact h
  · exact h
theorem Dk.Ok.flush {d : Dk} (h : d.Ok) : d.flush.1.Ok := by
  unfold Dk.flush
  split
  · exact h
  · split
    · exact h.count.flushed
    · exact h.count
theorem Dk.ok_new (n : Nat) (h : n ≤ 8192) : (Dk.new n).Ok :=
  ⟨by simp [Dk.new, noWaits], by simpa [Dk.new] using h, fun i hi => by simp [Dk.new, blank], fun i b hb => absurd hb noWaits_none, by simp [Dk.new], by simp [Dk.new], by simp [Dk.new], by simp [Dk.new], by simp [Dk.new]⟩
theorem Dk.image_length {d : Dk} (h : d.Ok) : d.image.length = 128 * d.lasts.length := by
  unfold Dk.image
  have : ∀ L : List (List UInt8), (∀ i (h : i < L.length), (L[i]).length = 128) → L.flatten.length = 128 * L.length := by
    intro L
    induction L with
    | nil => intro _; rfl
    | cons a r ih =>
      intro hL
      rw [List.flatten_cons, List.length_append, List.length_cons, ih (fun i hi => hL (i + 1) (by simpa using hi)), show a.length = 128 from hL 0 (by simp)]
      omega
  exact this _ h.lasts

end Go.Proofs.YtnioagojiipjlaaGreat.Mt
