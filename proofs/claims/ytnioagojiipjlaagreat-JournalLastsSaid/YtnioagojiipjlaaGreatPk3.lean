/-
  Some texts of one proof, one behind the other.
-/
import Derived.Test.YtnioagojiipjlaaGreatPk0
import Derived.Test.YtnioagojiipjlaaGreatPk1
import Derived.Test.YtnioagojiipjlaaGreatPk2
set_option linter.unusedVariables false
set_option linter.unusedSimpArgs false

/-
  Plain facts on journals: cells, heads, records, what is written. Nothing of the program stands here.
-/
namespace Go.Proofs.YtnioagojiipjlaaGreat.Mt

/-- The bytes of a number, the highest first. -/
def bb (n k : Nat) : List UInt8 := (strOfNums (be n k)).data.toList
theorem bb_length (n k : Nat) : (bb n k).length = k := by unfold bb; rw [strOfNums_data, List.length_map, be_length]
theorem bb_str (n k : Nat) : strOfNums (be n k) = str (bb n k) := rfl
theorem gn_at (A B : List UInt8) (n k a : Nat) (ha : A.length = a) (h : n < 256 ^ k) : gn (A ++ (bb n k ++ B)) a k = n := by
  subst ha
  have := gn_be A B n k k (Nat.le_refl _)
  rw [Nat.sub_self, Nat.pow_zero, Nat.div_one, Nat.mod_eq_of_lt h] at this
  rw [← List.append_assoc]
  exact this

/-- What a cell says. -/
structure Cl where
  gen : Nat
  number : Nat
  part : Nat
  parts : Nat
  body : List UInt8

/-- A sector's bytes: the sum ahead, noughts behind. -/
def filled (s : List UInt8) : List UInt8 := s ++ List.replicate (124 - s.length) 0
def sealL (s : List UInt8) : List UInt8 := bb (addS 0 (filled s)) 4 ++ filled s
theorem filled_length (s : List UInt8) (h : s.length ≤ 124) : (filled s).length = 124 := by unfold filled; rw [List.length_append, List.length_replicate]; omega
theorem sealL_length (s : List UInt8) (h : s.length ≤ 124) : (sealL s).length = 128 := by unfold sealL; rw [List.length_append, bb_length, filled_length s h]
def Cl.front (c : Cl) : List UInt8 := [67] ++ (bb c.gen 4 ++ (bb c.number 4 ++ (bb c.part 2 ++ (bb c.parts 2 ++ (bb c.body.length 1 ++ c.body)))))
theorem Cl.front_length (c : Cl) : c.front.length = 14 + c.body.length := by
  simp only [Cl.front, List.length_cons, List.length_append, bb_length, List.length_nil]; omega
def Cl.sector (c : Cl) : List UInt8 := sealL c.front
def Cl.zero : Cl := ⟨0, 0, 0, 0, []⟩
def Cl.sound (c : Cl) : Bool :=
  if c.gen = 0 ∨ c.parts ≤ c.part then false else if c.part + 1 < c.parts then decide (c.body.length = 110) else (decide (0 < c.body.length) || decide (c.parts = 1))
/-- What a sector says, if it is a cell. -/
def cl0 (s : List UInt8) : Cl := ⟨gn s 5 4, gn s 9 4, gn s 13 2, gn s 15 2, (s.drop 18).take (gn s 17 1)⟩
def isCl (s : List UInt8) : Prop := s.length = 128 ∧ s.getD 4 0 = 67 ∧ gn s 17 1 ≤ 110 ∧ (cl0 s).sound = true ∧ (cl0 s).sector = s
instance (s : List UInt8) : Decidable (isCl s) := by unfold isCl; infer_instance
def rdCell (s : List UInt8) : Cl := if isCl s then cl0 s else Cl.zero
/-- A cell whose numbers have room. -/
structure Cl.Fits (c : Cl) : Prop where
  gen : c.gen < 4294967296
  number : c.number < 4294967296
  part : c.part < 65536
  parts : c.parts < 65536
  body : c.body.length ≤ 110
theorem Cl.sector_length {c : Cl} (h : c.body.length ≤ 110) : c.sector.length = 128 := sealL_length _ (by rw [Cl.front_length]; omega)
theorem Cl.sector_split (c : Cl) : ∃ S Z : List UInt8, S.length = 4 ∧ c.sector = S ++ ([67] ++ (bb c.gen 4 ++ (bb c.number 4 ++ (bb c.part 2 ++ (bb c.parts 2 ++ (bb c.body.length 1 ++ (c.body ++ Z))))))) := by
  refine ⟨bb (addS 0 (filled c.front)) 4, List.replicate (124 - c.front.length) 0, bb_length _ _, ?_⟩
  show bb _ 4 ++ (c.front ++ List.replicate (124 - c.front.length) 0) = _
  generalize List.replicate (124 - c.front.length) (0 : UInt8) = Z
  generalize bb (addS 0 (filled c.front)) 4 = S
  simp only [Cl.front, List.append_assoc]
theorem cl0_sector {c : Cl} (h : c.Fits) : cl0 c.sector = c := by
  obtain ⟨S, Z, hS, hs⟩ := c.sector_split
  obtain ⟨g, n, p, q, b⟩ := c
  obtain ⟨h1, h2, h3, h4, h5⟩ := h
  simp only at *
  rw [hs]
  have hl : b.length < 256 ^ 1 := by omega
  have e1 := gn_at (S ++ [67]) (bb n 4 ++ (bb p 2 ++ (bb q 2 ++ (bb b.length 1 ++ (b ++ Z))))) g 4 5 (by simp [hS]) (by simpa using h1)
  have e2 := gn_at (S ++ ([67] ++ bb g 4)) (bb p 2 ++ (bb q 2 ++ (bb b.length 1 ++ (b ++ Z)))) n 4 9 (by simp [hS, bb_length]) (by simpa using h2)
  have e3 := gn_at (S ++ ([67] ++ (bb g 4 ++ bb n 4))) (bb q 2 ++ (bb b.length 1 ++ (b ++ Z))) p 2 13 (by simp [hS, bb_length]) (by simpa using h3)
  have e4 := gn_at (S ++ ([67] ++ (bb g 4 ++ (bb n 4 ++ bb p 2)))) (bb b.length 1 ++ (b ++ Z)) q 2 15 (by simp [hS, bb_length]) (by simpa using h4)
  have e5 := gn_at (S ++ ([67] ++ (bb g 4 ++ (bb n 4 ++ (bb p 2 ++ bb q 2))))) (b ++ Z) b.length 1 17 (by simp [hS, bb_length]) hl
  have e6 : (S ++ ([67] ++ (bb g 4 ++ (bb n 4 ++ (bb p 2 ++ (bb q 2 ++ (bb b.length 1 ++ (b ++ Z)))))))).drop 18 = b ++ Z := by
    have e : (S ++ ([67] ++ (bb g 4 ++ (bb n 4 ++ (bb p 2 ++ (bb q 2 ++ (bb b.length 1 ++ (b ++ Z)))))))) = (S ++ ([67] ++ (bb g 4 ++ (bb n 4 ++ (bb p 2 ++ (bb q 2 ++ bb b.length 1)))))) ++ (b ++ Z) := by simp only [List.append_assoc]
    rw [e]
    exact List.drop_left' (by simp [hS, bb_length])
  simp only [List.append_assoc] at e1 e2 e3 e4 e5
  unfold cl0
  rw [e1, e2, e3, e4, e5, e6, List.take_left]
theorem mark_sector (c : Cl) : c.sector.getD 4 0 = 67 := by
  obtain ⟨S, Z, hS, hs⟩ := c.sector_split
  rw [hs, List.getD_eq_getElem?_getD, List.getElem?_append_right (by omega), hS]
  rfl
theorem gn17_sector {c : Cl} (h : c.Fits) : gn c.sector 17 1 = c.body.length := by
  obtain ⟨S, Z, hS, hs⟩ := c.sector_split
  have hl : c.body.length < 256 ^ 1 := by have := h.body; omega
  have e5 := gn_at (S ++ ([67] ++ (bb c.gen 4 ++ (bb c.number 4 ++ (bb c.part 2 ++ bb c.parts 2))))) (c.body ++ Z) c.body.length 1 17 (by simp [hS, bb_length]) hl
  simp only [List.append_assoc] at e5
  rw [hs, e5]
/-- A cell is read as it was written. -/
theorem rdCell_sector {c : Cl} (h : c.Fits) (hs : c.sound = true) : rdCell c.sector = c := by
  have h0 := cl0_sector h
  unfold rdCell
  rw [if_pos]
  · exact h0
  · refine ⟨c.sector_length h.body, mark_sector c, by rw [gn17_sector h]; exact h.body, ?_, ?_⟩ <;> rw [h0]
    exact hs
theorem rdCell_mark {s : List UInt8} (h : s.getD 4 0 ≠ 67) : rdCell s = Cl.zero := by
  unfold rdCell
  rw [if_neg (fun hc => h hc.2.1)]
theorem rdCell_gen (s : List UInt8) : (rdCell s).gen < 4294967296 := by
  unfold rdCell
  split
  · have := gn_lt s 5 4
    show gn s 5 4 < _
    omega
  · show 0 < 4294967296; omega

/-- A head's bytes, and what a sector says, if it is one. -/
def hdSector (gen half : Nat) : List UInt8 := sealL ([72] ++ (bb gen 4 ++ bb half 1))
def isHd (s : List UInt8) : Prop := s.length = 128 ∧ s.getD 4 0 = 72 ∧ gn s 5 4 ≠ 0 ∧ gn s 9 1 ≤ 1 ∧ hdSector (gn s 5 4) (gn s 9 1) = s
instance (s : List UInt8) : Decidable (isHd s) := by unfold isHd; infer_instance
def rdHead (s : List UInt8) : Nat × Nat := if isHd s then (gn s 5 4, gn s 9 1) else (0, 0)
theorem hdSector_length (gen half : Nat) : (hdSector gen half).length = 128 := sealL_length _ (by simp [bb_length])
theorem hdSector_split (gen half : Nat) : ∃ S Z : List UInt8, S.length = 4 ∧ hdSector gen half = S ++ ([72] ++ (bb gen 4 ++ (bb half 1 ++ Z))) := by
  refine ⟨bb (addS 0 (filled ([72] ++ (bb gen 4 ++ bb half 1)))) 4, List.replicate (124 - ([72] ++ (bb gen 4 ++ bb half 1)).length) 0, bb_length _ _, ?_⟩
  show bb _ 4 ++ (_ ++ List.replicate _ 0) = _
  simp only [List.append_assoc]
theorem rdHead_sector {gen half : Nat} (h0 : 0 < gen) (h1 : gen < 4294967296) (h2 : half ≤ 1) : rdHead (hdSector gen half) = (gen, half) := by
  obtain ⟨S, Z, hS, hs⟩ := hdSector_split gen half
  have e1 := gn_at (S ++ [72]) (bb half 1 ++ Z) gen 4 5 (by simp [hS]) (by simpa using h1)
  have e2 := gn_at (S ++ ([72] ++ bb gen 4)) Z half 1 9 (by simp [hS, bb_length]) (by omega)
  simp only [List.append_assoc] at e1 e2
  rw [← hs] at e1 e2
  have hm : (hdSector gen half).getD 4 0 = 72 := by rw [hs, List.getD_eq_getElem?_getD, List.getElem?_append_right (by omega), hS]; rfl
  unfold rdHead
  rw [if_pos ⟨hdSector_length _ _, hm, by rw [e1]; omega, by rw [e2]; exact h2, by rw [e1, e2]⟩, e1, e2]
theorem rdHead_mark {s : List UInt8} (h : s.getD 4 0 ≠ 72) : rdHead s = (0, 0) := by
  unfold rdHead
  rw [if_neg (fun hc => h hc.2.1)]
theorem rdHead_gen (s : List UInt8) : (rdHead s).1 < 4294967296 ∧ (rdHead s).2 ≤ 1 := by
  unfold rdHead
  split
  · rename_i h
    have := gn_lt s 5 4
    exact ⟨by show gn s 5 4 < _; omega, h.2.2.2.1⟩
  · exact ⟨by show 0 < 4294967296; omega, by show 0 ≤ 1; omega⟩
theorem mark_blank : blank.getD 4 0 = 0 := rfl
theorem mark_head (gen half : Nat) : (hdSector gen half).getD 4 0 = 72 := by
  obtain ⟨S, Z, hS, hs⟩ := hdSector_split gen half
  rw [hs, List.getD_eq_getElem?_getD, List.getElem?_append_right (by omega), hS]; rfl

/-- How many cells so many bytes fill. -/
def cellsN (n : Nat) : Nat := max 1 ((n + 109) / 110)
/-- A body's part. -/
def cellAt (gen number : Nat) (b : List UInt8) (i : Nat) : Cl := ⟨gen, number, i, cellsN b.length, (b.drop (110 * i)).take 110⟩
def secsOf (gen number : Nat) (b : List UInt8) : List (List UInt8) := (List.range (cellsN b.length)).map fun i => (cellAt gen number b i).sector
def needs : List (List UInt8) → Nat
  | [] => 0
  | b :: r => cellsN b.length + needs r

/-! ### records in cells -/
def recOk (l : List Cl) (gen number parts : Nat) : Bool := (List.range parts).all fun i => decide ((l.getD i Cl.zero).gen = gen) && decide ((l.getD i Cl.zero).number = number) && decide ((l.getD i Cl.zero).parts = parts) && decide ((l.getD i Cl.zero).part = i)
def bodyOf (l : List Cl) (n : Nat) : List UInt8 := ((l.take n).map (·.body)).flatten
def record (l : List Cl) (gen number : Nat) : List UInt8 × Nat :=
  if l.length < (l.getD 0 Cl.zero).parts then ([], 0)
  else if recOk l gen number (l.getD 0 Cl.zero).parts = true then (bodyOf l (l.getD 0 Cl.zero).parts, (l.getD 0 Cl.zero).parts) else ([], 0)
def recordsF : Nat → List Cl → Nat → Nat → List (List UInt8)
  | 0, _, _, _ => []
  | f + 1, l, gen, k => if l.length = 0 ∨ (record l gen k).2 = 0 then [] else (record l gen k).1 :: recordsF f (l.drop (record l gen k).2) gen (k + 1)
def records (l : List Cl) (gen : Nat) : List (List UInt8) := recordsF l.length l gen 0

/-! ### a journal -/
structure Jn where
  gen : Nat
  half : Nat
  head : Nat
  count : Nat
  used : Nat
  closed : Bool
def hsize (n : Nat) : Nat := (n - 2) / 2
def Jn.first (j : Jn) (n : Nat) : Nat := 2 + j.half * hsize n
def Jn.left (j : Jn) (d : Dk) : Nat := min (j.first d.lasts.length + hsize d.lasts.length) d.room - j.first d.lasts.length - j.used
/-- Sectors, one behind the other. -/
def wrS : Dk → Nat → List (List UInt8) → Dk × Int
  | d, _, [] => (d, 0)
  | d, a, s :: r => if (d.write a s).2 = 0 then wrS (d.write a s).1 (a + 1) r else d.write a s
def putJ (d : Dk) (j : Jn) (b : List UInt8) : Dk × Jn × Int :=
  if (wrS d (j.first d.lasts.length + j.used) (secsOf j.gen j.count b)).2 = 0
  then ((wrS d (j.first d.lasts.length + j.used) (secsOf j.gen j.count b)).1, { j with count := j.count + 1, used := j.used + cellsN b.length }, 0)
  else ((wrS d (j.first d.lasts.length + j.used) (secsOf j.gen j.count b)).1, j, (wrS d (j.first d.lasts.length + j.used) (secsOf j.gen j.count b)).2)
def putsJ : Dk → Jn → List (List UInt8) → Dk × Jn × Int
  | d, j, [] => (d, j, 0)
  | d, j, b :: r => if (putJ d j b).2.2 = 0 then putsJ (putJ d j b).1 (putJ d j b).2.1 r else putJ d j b
def endJ (d : Dk) (j : Jn) : Dk × Int :=
  if d.flush.2 = 0 then
    if (d.flush.1.write j.head (hdSector j.gen j.half)).2 = 0 then (d.flush.1.write j.head (hdSector j.gen j.half)).1.flush
    else d.flush.1.write j.head (hdSector j.gen j.half)
  else d.flush
def fillJ (d : Dk) (j : Jn) (bs : List (List UInt8)) : Dk × Jn × Int :=
  if (putsJ d j bs).2.2 = 0 then ((endJ (putsJ d j bs).1 (putsJ d j bs).2.1).1, (putsJ d j bs).2.1, (endJ (putsJ d j bs).1 (putsJ d j bs).2.1).2) else putsJ d j bs
def Jn.next (j : Jn) : Jn := ⟨j.gen + 1, 1 - j.half, 1 - j.head, 0, 0, false⟩
def Jn.become (j n : Jn) (e : Int) : Jn × Int := if e = 0 then (n, 0) else ({ j with closed := true }, e)
def Jn.holds (j : Jn) (d : Dk) (bs : List (List UInt8)) : Bool := decide (2 ≤ d.room) && decide (needs bs ≤ j.left d)
def layJ (d : Dk) (j : Jn) (bs : List (List UInt8)) : Dk × Jn × Int :=
  if j.next.gen ≤ 4294967295 ∧ j.next.holds d bs = true then ((fillJ d j.next bs).1, j.become (fillJ d j.next bs).2.1 (fillJ d j.next bs).2.2) else (d, j, 11)
def askJ (j : Jn) (bs : List (List UInt8)) : Int := if j.closed then 12 else if bs.all (fun b => decide (b.length ≤ 262144)) then 0 else 5
def resetJ (d : Dk) (j : Jn) (bs : List (List UInt8)) : Dk × Jn × Int := if askJ j bs = 0 then layJ d j bs else (d, j, askJ j bs)
def appendJ (d : Dk) (j : Jn) (b : List UInt8) : Dk × Jn × Int :=
  if askJ j [b] = 0 then
    if cellsN b.length ≤ j.left d then
      if (putJ d j b).2.2 = 0 then ((putJ d j b).1.flush.1, j.become (putJ d j b).2.1 (putJ d j b).1.flush.2) else ((putJ d j b).1, j.become (putJ d j b).2.1 (putJ d j b).2.2)
    else (d, j, 11)
  else (d, j, askJ j [b])
/-- What stands in the sectors. -/
def Dk.sec (d : Dk) (i : Nat) : List UInt8 := (d.read i).1
def Dk.cellsFrom (d : Dk) (a n : Nat) : List Cl := (List.range n).map fun i => rdCell (d.sec (a + i))
def greatest (l : List Cl) (a b : Nat) : Nat := l.foldl (fun m c => max m c.gen) (max a b)
def findJ (d : Dk) : Jn × List (List UInt8) :=
  let h0 := rdHead (d.sec 0)
  let h1 := rdHead (d.sec 1)
  let z := hsize d.lasts.length
  let g := greatest (d.cellsFrom 2 (2 * z)) h0.1 h1.1
  if h1.1 ≤ h0.1 ∧ 0 < h0.1 then (⟨g, h0.2, 0, 0, 0, false⟩, records (d.cellsFrom (2 + h0.2 * z) z) h0.1)
  else if h1.1 = 0 then (⟨g, 1, 1, 0, 0, false⟩, [])
  else (⟨g, h1.2, 1, 0, 0, false⟩, records (d.cellsFrom (2 + h1.2 * z) z) h1.1)

end Go.Proofs.YtnioagojiipjlaaGreat.Mt
